import Derived.Test.YtcnbifdlkalimabGreatShtM
import Derived.Test.YtcnbifdlkalimabGreatCmpM
/- Lemmas for the statement Means; their conditions stand in each. -/
namespace Go.Proofs.YtcnbifdlkalimabGreat
open Go.RowKit Go.Proofs.Tryz
set_option linter.unusedVariables false
variable{L:List Int}{s:ZB}
def bad(T:ZB)(n:Int)(vs:List Int)(ex:List Ex)(sm:List Sm)(i:Nat)(c0:Int):List Int:=Zc2 T n vs ex sm (i+1) i c0
def bads(T:ZB)(n:Int)(vs:List Int)(ex:List Ex)(sm:List Sm)(l:List Nat)(c0:Int):List Int:=badG (bad T n vs ex sm) l c0
theorem ZbW{f g:Nat->Int->List Int}(c0:Int):∀l:List Nat,(∀i,i∈l->f i c0=g i c0)->badG f l c0=badG g l c0
 | [],h=>rfl
 | i::l,h=>by simp only[badG];rw[h i (by simp),ZbW c0 l (λj hj=>h j (by simp[hj]))]
theorem Zdo{T:ZB}{n:Int}{vs:List Int}{ex:List Ex}{sm:List Sm}(hS:ZaQ ex sm):∀(k i k':Nat) (c0:Int),i<k->i<k'->Zc2 T n vs ex sm k i c0=Zc2 T n vs ex sm k' i c0
 | 0,i,k',c0,h,_=>by omega
 | k+1,i,0,c0,_,h=>by omega
 | k+1,i,k'+1,c0,h1,h2=>by
  simp only[Zc2]
  cases hx:sm[i]? with
  | none=>rfl
  | some x=>
   dsimp only
   obtain⟨o1,o2,o3⟩:=hS i x hx
   rw[ZbW _ x.bo λj hj=>Zdo hS k j k' _ (by have:=o2 j hj;omega) (by have:=o2 j hj;omega),ZbW _ x.el λj hj=>Zdo hS k j k' _ (by have:=o3 j hj;omega) (by have:=o3 j hj;omega)]
theorem ZhA{T:ZB}{n:Int}{vs:List Int}{ex:List Ex}{sm:List Sm}{i:Nat}{x:Sm}(hS:ZaQ ex sm)(hx:sm[i]?=some x)(c0:Int) :
  bad T n vs ex sm i c0=[]↔okX T n vs ex x c0 (jn T n c0 (levX T n vs ex x.e))=true∧bads T n vs ex sm x.bo (jn T n c0 (levX T n vs ex x.e))=[]∧bads T n vs ex sm x.el (jn T n c0 (levX T n vs ex x.e))=[]:=by
 obtain⟨o1,o2,o3⟩:=hS i x hx
 unfold bad bads
 rw[Zc2,hx]
 dsimp only
 rw[ZbW _ x.bo λj hj=>Zdo hS i j (j+1) _ (o2 j hj) (by omega),ZbW _ x.el λj hj=>Zdo hS i j (j+1) _ (o3 j hj) (by omega)]
 show _↔_∧badG (λi c0=>Zc2 T n vs ex sm (i+1) i c0) _ _=[]∧badG (λi c0=>Zc2 T n vs ex sm (i+1) i c0) _ _=[]
 rw[Uy,Uy]
 by_cases h:okX T n vs ex x c0 (jn T n c0 (levX T n vs ex x.e))=true
 ·rw[if_pos h];simp[h]
 ·rw[if_neg h];simp[h]
structure Cx(c v T:ZB)(ex:List Ex)(sm:List Sm)(n:Int)(vs:List Int):Prop where
 hE:Z7 ex
 hS:ZaQ ex sm
 hX:ExB n vs.length ex
 hB:∀x,x∈sm->SB n vs.length x
 hK:∀x,x∈sm->SK x
 n6:n<=6
 m8:vs.length<=8
 hv:∀x:Int,0<=x->x<vs.length->bv v x=vs.getD x.toNat 0
 HL:∀p:Int,0<=p->p<=half c->Live c p
 lat:Zam T n
 vb:VsB n vs
 hr:Ranged c
section
variable {c v T:ZB} {ex:List Ex} {sm:List Sm} {n:Int} {vs:List Int}
theorem Cx.f(X:Cx c v T ex sm n vs){e a b:Nat}(A:Zgw c ex e a b):ExF c v T n vs ex e a b:=ZsK X.hE X.hX X.n6 X.m8 X.hv e a b A
theorem Cx.p(X:Cx c v T ex sm n vs){e a b:Nat}(A:Zgw c ex e a b)(h:(b:Int)<=half c):Pas c a b:=(Zgk X.hE X.hX X.n6 X.m8 e a b A h).1
theorem Cx.lv(X:Cx c v T ex sm n vs){e:Nat}(he:e<ex.length):Lv n (levX T n vs ex e)∧(∀u,Lv n u->(le T n (levX T n vs ex e) u=true↔∀j:Nat,reads vs ex e j=true->le T n j u=true))∧∀j:Nat,reads vs ex e j=true->(j:Int)<n:=Zfc X.lat X.hE X.hX X.vb e he
theorem Cx.ls(X:Cx c v T ex sm n vs){l:List Nat}{a b:Nat}(hb:b<=200)(A:ZfP c ex sm l a b)(h:(b:Int)<=half c):Pas c a b:=(Zh6 X.hE X.hS X.hX X.hB X.n6 X.m8).2 l a b hb A h
end
structure UpW(c v T:ZB)(n:Int)(l:Nat)(C:Prop)(a b:Nat)(L V:Int->Prop):Prop where
 up:C->∀p:Int,(a:Int)<=p->p<b->L p
 stay:∀i:Nat,a<=i->i<b->∀j:Int,j∈nxt c i->0<hc c i-takesAt c i->V i->V j∧(a:Int)<=j∧j<b
 push:∀i:Nat,a<=i->i<b->∀j:Int,j∈nxt c i->givesAt c i=1->(L i∨V i∨((bv c (2*(i:Int))=1∧bv v (bv c (2*(i:Int)+1))=l)∨(bv c (2*(i:Int))=10∧bv c (2*(i:Int)+1)=l)))->V j∧(a:Int)<=j∧j<b
 sink:∀i:Nat,a<=i->i<b->0<=Zae c v i->(L i∨(ZcH c i=true∧V i))->le T n l (Zae c v i)=true
def Hds(c:ZB)(a b:Nat)(L V:Int->Prop):Prop:=∀i:Nat,a<=i->i<b->bv c (2*(i:Int))=9->(L i∨V i)->∀p:Int,Reg c i p->L p∧(a:Int)<=p∧p<b
def gl(m:Nat)(L1 L2:Int->Prop)(p:Int):Prop:=(p<m∧L1 p)∨((m:Int)<=p∧L2 p)
theorem Zcu{m:Nat}{L1 L2:Int->Prop}{p:Int}(h:p<m):gl m L1 L2 p↔L1 p:=⟨λk=>by rcases k with k|k;exact k.2;omega,λk=>.inl ⟨h,k⟩⟩
theorem ZbC{m:Nat}{L1 L2:Int->Prop}{p:Int}(h:(m:Int)<=p):gl m L1 L2 p↔L2 p:=⟨λk=>by rcases k with k|k;omega;exact k.2,λk=>.inr ⟨h,k⟩⟩
section
variable {c v T:ZB} {ex:List Ex} {sm:List Sm} {n:Int} {vs:List Int} {l:Nat}
theorem UpW.weak{C C':Prop}{a b:Nat}{L V:Int->Prop}(H:UpW c v T n l C' a b L V)(h:C->C'):UpW c v T n l C a b L V:=⟨λk=>H.up (h k),H.stay,H.push,H.sink⟩
theorem UpW.glue{C:Prop}{a m b:Nat}{L1 V1 L2 V2:Int->Prop}(h1:a<=m)(h2:m<=b)(H:UpW c v T n l C a m L1 V1)(K:UpW c v T n l C m b L2 V2):UpW c v T n l C a b (gl m L1 L2) (gl m V1 V2):=by
 refine⟨λk p q1 q2=>?_,λi i1 i2 j hj hh hV=>?_,λi i1 i2 j hj hg hs=>?_,λi i1 i2 h0 hs=>?_⟩
 ·by_cases e:p<m
  ·exact(Zcu e).2 (H.up k p q1 e)
  ·exact(ZbC (by omega)).2 (K.up k p (by omega) q2)
 ·by_cases e:(i:Int)<m
  ·rw[Zcu e]at hV
   obtain⟨x,y,z⟩:=H.stay i i1 (by omega) j hj hh hV
   exact⟨(Zcu z).2 x,y,by omega⟩
  ·rw[ZbC (by omega)]at hV
   obtain⟨x,y,z⟩:=K.stay i (by omega) i2 j hj hh hV
   exact⟨(ZbC y).2 x,by omega,z⟩
 ·by_cases e:(i:Int)<m
  ·rw[Zcu e,Zcu e]at hs
   obtain⟨x,y,z⟩:=H.push i i1 (by omega) j hj hg hs
   exact⟨(Zcu z).2 x,y,by omega⟩
  ·rw[ZbC (by omega),ZbC (by omega)]at hs
   obtain⟨x,y,z⟩:=K.push i (by omega) i2 j hj hg hs
   exact⟨(ZbC y).2 x,by omega,z⟩
 ·by_cases e:(i:Int)<m
  ·rw[Zcu e,Zcu e]at hs
   exact H.sink i i1 (by omega) h0 hs
  ·rw[ZbC (by omega),ZbC (by omega)]at hs
   exact K.sink i (by omega) i2 h0 hs
theorem Hds.glue{a m b:Nat}{L1 V1 L2 V2:Int->Prop}(h1:a<=m)(h2:m<=b)(H:Hds c a m L1 V1)(K:Hds c m b L2 V2):Hds c a b (gl m L1 L2) (gl m V1 V2):=by
 intro i i1 i2 h9 hs p hp
 by_cases e:(i:Int)<m
 ·rw[Zcu e,Zcu e]at hs
  obtain⟨x,y,z⟩:=H i i1 (by omega) h9 hs p hp
  exact⟨(Zcu z).2 x,y,by omega⟩
 ·rw[ZbC (by omega),ZbC (by omega)]at hs
  obtain⟨x,y,z⟩:=K i (by omega) i2 h9 hs p hp
  exact⟨(ZbC y).2 x,by omega,z⟩
theorem UpW.nil{C:Prop}{a:Nat}{L V:Int->Prop}:UpW c v T n l C a a L V:=⟨λ_ p h1 h2=>by omega,λi h1 h2=>by omega,λi h1 h2=>by omega,λi h1 h2=>by omega⟩
theorem Hds.nil{a:Nat}{L V:Int->Prop}:Hds c a a L V:=λi h1 h2=>by omega
theorem ZlM{t:Nat}{w:Int}{C:Prop}(hI:Ins c t 8 w)(h0:hc c t=0):UpW c v T n l C t (t+1) (λ_=>C) (λ_=>False)∧Hds c t (t+1) (λ_=>C) (λ_=>False):=by
 obtain⟨t0,g0⟩:=ZgZ hI
 have one:∀i:Nat,t<=i->i<t+1->i=t:=λi h1 h2=>by omega
 refine⟨⟨λk p _ _=>k,λi i1 i2 j hj hh hV=>hV.elim,λi i1 i2 j hj hg=>?_,λi i1 i2 hs=>?_⟩,λi i1 i2 h9=>?_⟩
 ·rw[one i i1 i2]at hg;omega
 ·rw[one i i1 i2]at hs
  unfold Zae at hs
  rw[if_neg (by rw[hI.1];omega),if_neg (by rw[hI.1];omega)]at hs
  omega
 ·rw[one i i1 i2,hI.1]at h9;omega
theorem ZlN{C D:Prop}{e a u:Nat}{op w:Int}(F:ExF c v T n vs ex e a u)(h0:hc c a=0)(hI:Ins c u op w)(hop:op=2∨op=9∨op=11)(hCD:C->D)
  (hd:D->∀i:Nat,a<=i->i<u->bv c (2*(i:Int))=10->le T n l (bv c (2*(i:Int)+1))=true) (hs:0<=Zae c v u->(D∨reads vs ex e l=true)->le T n l (Zae c v u)=true) :
  UpW c v T n l C a (u+1) (λ_=>D) (λ_=>D∨reads vs ex e l=true):=by
 obtain⟨t1,g0⟩:=Zch hI hop
 have lt:=F.lt
 have hb:=F.hb
 have nx:∀i:Nat,a<=i->i<u->nxt c i=[(i:Int)+1]:=λi h1 h2=>by
  have:=F.op i h1 h2
  exact ZmK (by omega) (by omega)
 refine⟨λk p _ _=>hCD k,λi i1 i2 j hj hh hV=>?_,λi i1 i2 j hj hg hV=>?_,λi i1 i2 hk hV=>?_⟩
 ·by_cases e2:i<u
  ·rw[nx i i1 e2,QA]at hj
   exact⟨hV,by omega,by omega⟩
  ·rw[show i=u from by omega]at hh;omega
 ·by_cases e2:i<u
  ·rw[nx i i1 e2,QA]at hj
   refine⟨?_,by omega,by omega⟩
   rcases hV with k|k|k
   ·exact .inl k
   ·exact k
   ·exact .inr (F.rd i i1 e2 l k)
  ·rw[show i=u from by omega]at hg;omega
 ·by_cases e2:i<u
  ·have ho:=F.op i i1 e2
   have h10:bv c (2*(i:Int))=10:=by
    by_cases h10:bv c (2*(i:Int))=10
    ·exact h10
    ·unfold Zae at hk
     rw[if_neg (by omega),if_neg (by omega)]at hk
     omega
   have es:Zae c v i=bv c (2*(i:Int)+1):=by unfold Zae;rw[if_neg (by omega),if_pos (.inl h10)]
   have ev:ZcH c i=false:=Qx (by omega)
   rw[es]
   rcases hV with k|k
   ·exact hd k i i1 e2 h10
   ·rw[ev]at k;exact absurd k.1 (by simp)
  ·rw[show i=u from by omega]at hk hV ⊢
   rcases hV with k|k
   ·exact hs hk (.inl k)
   ·exact hs hk k.2
def HiC(T:ZB)(n c0:Int)(l:Nat)(C:Prop):Prop:=Lv n c0∧(C->∀u,Lv n u->le T n c0 u=true->le T n l u=true)
theorem HiC.more(X:Cx c v T ex sm n vs){c0:Int}{C:Prop}(H:HiC T n c0 l C){e:Nat}(he:e<ex.length):HiC T n (jn T n c0 (levX T n vs ex e)) l (C∨reads vs ex e l=true):=by
 obtain⟨l1,l2,l3⟩:=X.lv he
 have hj:=X.lat.jin _ _ H.1 l1
 refine⟨hj,λk u hu h=>?_⟩
 rcases k with k|k
 ·exact H.2 k u hu (X.lat.trans _ _ _ H.1 hj hu (X.lat.jl _ _ H.1 l1) h)
 ·exact(l2 u hu).1 (X.lat.trans _ _ _ l1 hj hu (X.lat.jr _ _ H.1 l1) h) l k
def UpS(c v T:ZB)(n:Int)(l a b:Nat)(bd:Int->List Int):Prop:=
 (b:Int)<=half c->hc c a=0->Exi c a b->∀(c0:Int) (C:Prop),HiC T n c0 l C->bd c0=[]->∃L V,UpW c v T n l C a b L V∧Hds c a b L V
theorem upp(X:Cx c v T ex sm n vs)(l:Nat) :
  (∀i a b,b<=200->ZnF c ex sm i a b->b<=200->UpS c v T n l a b (bad T n vs ex sm i))∧(∀q a b,b<=200->ZfP c ex sm q a b->b<=200->UpS c v T n l a b (bads T n vs ex sm q)):=by
 have FT:=Zpj (c:=c) X.hE X.hS X.hX X.hB X.n6 X.m8 X.hv
 have SP:=Zh6 (c:=c) X.hE X.hS X.hX X.hB X.n6 X.m8
 refine Zff X.hE X.hS X.hB X.n6 X.m8 (λi a b=>b<=200->UpS c v T n l a b (bad T n vs ex sm i)) (λq a b=>b<=200->UpS c v T n l a b (bads T n vs ex sm q)) (λa _ h h0 hx c0 C H hb=>⟨λ_=>True,λ_=>True,UpW.nil,Hds.nil⟩)
  (λi q a u b A B P Q hbb h h0 hx c0 C H hb=>?_) (λi x a u hs hk A hI hbb h h0 hx c0 C H hb=>?_) (λi x a u hs hk A hI hbb h h0 hx c0 C H hb=>?_)
  (λi x a u b hs hk h2 A hI B Q hbb h h0 hx c0 C H hb=>?_) (λi x a u t b hs hk h2 A hI B hJ D Q R hbb h h0 hx c0 C H hb=>?_) (λi x a u t hs hk A hI B hJ Q hbb h h0 hx c0 C H hb=>?_)
 ·have PB:=SP.2 q u b hbb B h
  have lb:=PB.le
  have PA:=(SP.1 i a u (by omega) A (by omega)).2
  have zu:=(FT.1 i a u (by omega) A h0).2.1
  have hb:bad T n vs ex sm i c0++bads T n vs ex sm q c0=[]:=hb
  rw[Uy]at hb
  obtain⟨L1,V1,W1,D1⟩:=P (by omega) (by omega) h0 (hx.head PB) c0 C H hb.1
  obtain⟨L2,V2,W2,D2⟩:=Q hbb h zu (hx.sub (by omega)) c0 C H hb.2
  exact⟨_,_,W1.glue (by omega) lb W2,D1.glue (by omega) lb D2⟩
 ·have F:=X.f A
  have lt:=F.lt
  obtain⟨ho,-,-⟩:=(ZhA X.hS hs c0).1 hb
  unfold okX at ho
  rw[if_pos hk,Qr]at ho
  have hsb:=X.hB x (Qw hs)
  have hxv:0<=x.v∧x.v<vs.length:=by rcases hsb with d|d|d|d<;>omega
  have es:Zae c v u=vs.getD x.v.toNat 0:=by unfold Zae;rw[if_pos hI.1,hI.2,X.hv x.v hxv.1 hxv.2]
  refine⟨_,_,ZlN (C:=C) (D:=C) F h0 hI (.inl rfl) (λk=>k) (λk i i1 i2 h10=>H.2 k _ (F.nl i i1 i2 h10) (F.dr c0 ho.1 i i1 i2 h10)) (λ_ k=>?_),λi i1 i2 h9=>?_⟩
  ·rw[es]
   exact(HiC.more X H A.lt).2 k _ (X.vb.at (by omega)) ho.2
  ·exfalso
   by_cases e:i<u
   ·have:=F.op i i1 e;omega
   ·rw[show i=u from by omega,hI.1]at h9;omega
 ·have F:=X.f A
  have lt:=F.lt
  obtain⟨ho,-,-⟩:=(ZhA X.hS hs c0).1 hb
  unfold okX at ho
  rw[if_neg (by omega),if_pos hk,Qr]at ho
  have hsb:=X.hB x (Qw hs)
  have hxv:0<=x.v∧x.v<n:=by rcases hsb with d|d|d|d<;>omega
  have es:Zae c v u=x.v:=by unfold Zae;rw[if_neg (by rw[hI.1];omega),if_pos (.inr hI.1),hI.2]
  refine⟨_,_,ZlN (C:=C) (D:=C) F h0 hI (.inr (.inr rfl)) (λk=>k) (λk i i1 i2 h10=>H.2 k _ (F.nl i i1 i2 h10) (F.dr c0 ho.1 i i1 i2 h10)) (λ_ k=>?_),λi i1 i2 h9=>?_⟩
  ·rw[es]
   exact(HiC.more X H A.lt).2 k _ hxv ho.2
  ·exfalso
   by_cases e:i<u
   ·have:=F.op i i1 e;omega
   ·rw[show i=u from by omega,hI.1]at h9;omega
 ·have F:=X.f A
  have lt:=F.lt
  have PB:=X.ls hbb B h
  have lb:=PB.le
  obtain⟨ho,hq,-⟩:=(ZhA X.hS hs c0).1 hb
  unfold okX at ho
  rw[if_neg (by omega),if_neg (by omega),if_neg (by omega)]at ho
  obtain⟨t1,g0⟩:=Zch hI (.inr (.inl rfl))
  have zu:hc c (u+1)=0:=by have:=F.hb;simp only[hc];omega
  have HR:=Zot X.hr h hI PB (hx.sub (by omega))
  have es:Zae c v u=-1:=by unfold Zae;rw[if_neg (by rw[hI.1];omega),if_neg (by rw[hI.1];omega)]
  obtain⟨L1,V1,W1,D1⟩:=Q hbb h zu (hx.sub (by omega)) _ _ (HiC.more X H A.lt) hq
  have W0:=ZlN (C:=C) (D:=C) F h0 hI (.inr (.inl rfl)) (λk=>k) (λk i i1 i2 h10=>H.2 k _ (F.nl i i1 i2 h10) (F.dr c0 ho i i1 i2 h10)) (λk=>by omega)
  refine⟨_,_,W0.glue (by omega) lb (W1.weak .inl),λi i1 i2 h9 hV p hp=>?_⟩
  by_cases e:i<u
  ·have:=F.op i i1 e;omega
  ·by_cases e2:i=u
   ·subst e2
    rw[Zcu (by omega),Zcu (by omega)]at hV
    have hr:=(HR p).1 hp
    exact⟨(ZbC hr.1).2 (W1.up (by rcases hV with k|k;exact .inl k;exact k) p hr.1 hr.2),by omega,hr.2⟩
   ·rw[ZbC (by omega),ZbC (by omega)]at hV
    obtain⟨x1,y1,z1⟩:=D1 i (by omega) i2 h9 hV p hp
    exact⟨(ZbC y1).2 x1,by omega,z1⟩
 ·have F:=X.f A
  have lt:=F.lt
  have PD:=X.ls hbb D h
  have ld:=PD.le
  have PB:=X.ls (by omega) B (by omega)
  have lb:=PB.le
  obtain⟨ho,hq,hq2⟩:=(ZhA X.hS hs c0).1 hb
  unfold okX at ho
  rw[if_neg (by omega),if_neg (by omega),if_neg (by omega)]at ho
  obtain⟨t1,g0⟩:=Zch hI (.inr (.inl rfl))
  have zu:hc c (u+1)=0:=by have:=F.hb;simp only[hc];omega
  have zt0:=(FT.2 _ _ _ (by omega) B zu).2.1
  obtain⟨t2,g2⟩:=ZgZ hJ
  have zt:hc c (t+1)=0:=by simp only[hc];omega
  have HR:=Zou X.hr h hI PB hJ PD (hx.sub (by omega))
  have es:Zae c v u=-1:=by unfold Zae;rw[if_neg (by rw[hI.1];omega),if_neg (by rw[hI.1];omega)]
  obtain⟨L1,V1,W1,D1⟩:=Q (by omega) (by omega) zu (Exi.then (hx.sub (by omega)) (by omega) h hJ) _ _ (HiC.more X H A.lt) hq
  obtain⟨L2,V2,W2,D2⟩:=R hbb h zt (hx.sub (by omega)) _ _ (HiC.more X H A.lt) hq2
  obtain⟨W3,D3⟩:=ZlM (v:=v) (T:=T) (n:=n) (l:=l) (C:=C∨reads vs ex x.e l=true) hJ zt0
  obtain⟨L4,V4,W4,D4⟩:∃L V,UpW c v T n l (C∨reads vs ex x.e l=true) (u+1) b L V∧Hds c (u+1) b L V:=⟨_,_,(W1.glue lb (by omega) W3).glue (by omega) ld W2,(D1.glue lb (by omega) D3).glue (by omega) ld D2⟩
  have W0:=ZlN (C:=C) (D:=C) F h0 hI (.inr (.inl rfl)) (λk=>k) (λk i i1 i2 h10=>H.2 k _ (F.nl i i1 i2 h10) (F.dr c0 ho i i1 i2 h10)) (λk=>by omega)
  refine⟨_,_,W0.glue (by omega) (by omega) (W4.weak .inl),λi i1 i2 h9 hV p hp=>?_⟩
  by_cases e:i<u
  ·have:=F.op i i1 e;omega
  ·by_cases e2:i=u
   ·subst e2
    rw[Zcu (by omega),Zcu (by omega)]at hV
    have hr:=(HR p).1 hp
    exact⟨(ZbC hr.1).2 (W4.up (by rcases hV with k|k;exact .inl k;exact k) p hr.1 hr.2),by omega,hr.2⟩
   ·rw[ZbC (by omega),ZbC (by omega)]at hV
    obtain⟨x1,y1,z1⟩:=D4 i (by omega) i2 h9 hV p hp
    exact⟨(ZbC y1).2 x1,by omega,z1⟩
 ·have F:=X.f A
  have lt:=F.lt
  have PB:=X.ls (by omega) B (by omega)
  have lb:=PB.le
  have PA:=X.p A (by omega)
  obtain⟨ho,hq,-⟩:=(ZhA X.hS hs c0).1 hb
  unfold okX at ho
  rw[if_neg (by omega),if_neg (by omega),if_pos hk]at ho
  obtain⟨t1,g0⟩:=Zch hI (.inr (.inl rfl))
  have zu:hc c (u+1)=0:=by have:=F.hb;simp only[hc];omega
  have zt0:=(FT.2 _ _ _ (by omega) B zu).2.1
  have HR:=Zqj X.hr h PA hI PB hJ hx
  have es:Zae c v u=-1:=by unfold Zae;rw[if_neg (by rw[hI.1];omega),if_neg (by rw[hI.1];omega)]
  have HM:=HiC.more X H A.lt
  obtain⟨L1,V1,W1,D1⟩:=Q (by omega) (by omega) zu (Exi.body h PA hI (by omega) hJ hx) _ _ HM hq
  obtain⟨W3,D3⟩:=ZlM (v:=v) (T:=T) (n:=n) (l:=l) (C:=C∨reads vs ex x.e l=true) hJ zt0
  have W0:=ZlN (C:=C∨reads vs ex x.e l=true) (D:=C∨reads vs ex x.e l=true) F h0 hI (.inr (.inl rfl)) (λk=>k) (λk i i1 i2 h10=>HM.2 k _ (F.nl i i1 i2 h10) (F.dr _ ho i i1 i2 h10)) (λk=>by omega)
  obtain⟨L4,V4,W5,D4⟩:∃L V,UpW c v T n l (C∨reads vs ex x.e l=true) (u+1) (t+1) L V∧Hds c (u+1) (t+1) L V:=⟨_,_,W1.glue lb (by omega) W3,D1.glue lb (by omega) D3⟩
  have W4:=W0.glue (by omega) (by omega) W5
  refine⟨_,_,W4.weak .inl,λi i1 i2 h9 hV p hp=>?_⟩
  by_cases e:i<u
  ·have:=F.op i i1 e;omega
  ·by_cases e2:i=u
   ·subst e2
    rw[Zcu (by omega),Zcu (by omega)]at hV
    have hr:=(HR p).1 hp
    exact⟨W4.up (by rcases hV with k|k|k;exact k;exact k;exact .inr k) p hr.1 hr.2,hr.1,hr.2⟩
   ·rw[ZbC (by omega),ZbC (by omega)]at hV
    obtain⟨x1,y1,z1⟩:=D4 i (by omega) i2 h9 hV p hp
    exact⟨(ZbC y1).2 x1,by omega,z1⟩
end
theorem ZpF(L M:List Int){k:Int}(h:k=L.length):hd (bs (L++M)) k=bs L:=by
 apply ByteArray.ext
 unfold hd
 rw[Up,h,QC]
 show ((L++M).map λx=>UInt8.ofNat x.toNat).toArray.extract 0 L.length=(L.map λx=>UInt8.ofNat x.toNat).toArray
 rw[List.extract_toArray,List.extract_eq_take_drop]
 simp
theorem ZkJ(L M:List Int){k:Int}(h:k=L.length):tl (bs (L++M)) k=bs M:=by
 apply ByteArray.ext
 unfold tl
 rw[Up,h,QC,Zc]
 show ((L++M).map λx=>UInt8.ofNat x.toNat).toArray.extract L.length (L++M).length=(M.map λx=>UInt8.ofNat x.toNat).toArray
 rw[List.extract_toArray,List.extract_eq_take_drop]
 simp
 exact Ux (by simp)
def Byt(L:List Int):Prop:=∀x,x∈L->0<=x∧x<=255
theorem Byt.app{M:List Int}(h:Byt L)(k:Byt M):Byt (L++M):=λx hx=>by
 rcases QI.1 hx with c|c
 ·exact h x c
 ·exact k x c
theorem Zcc{a b:Int}(ha:0<=a∧a<=255)(hb:0<=b∧b<=255):Byt [a,b]:=λx hx=>by
 simp only[Uc,QV,or_false]at hx
 rcases hx with c|c<;>rw[c]<;>assumption
theorem Zgx(ex:List Ex):∀k e,Byt (Zhx ex k e)
 | 0,e=>λx hx=>by simp[Zhx]at hx
 | k+1,e=>by
  simp only[Zhx]
  split
  ·exact λx hx=>by simp at hx
  ·split
   ·exact Zcc (by omega) (by omega)
   ·exact((Zgx ex k _).app (Zgx ex k _)).app (Zcc (by omega) (by omega))
theorem Zgy{f:Nat->Nat->List Int}(h:∀i a,Byt (f i a)):∀(l:List Nat) (a:Nat),Byt (ZbL f l a)
 | [],a=>λx hx=>by simp[ZbL]at hx
 | i::l,a=>by
  simp only[ZbL]
  exact(h i a).app (Zgy h l _)
theorem ZlO(ex:List Ex)(sm:List Sm):∀k i a,Byt (onF ex sm k i a)
 | 0,i,a=>λx hx=>by simp[onF]at hx
 | k+1,i,a=>by
  have C:∀e,Byt (cod ex e):=λe=>Zgx ex _ e
  have A:=Zgy (ZlO ex sm k)
  simp only[onF]
  split
  ·exact λx hx=>by simp at hx
  ·split
   ·exact(C _).app (Zcc (by omega) (by omega))
   ·split
    ·exact(C _).app (Zcc (by omega) (by omega))
    ·split
     ·exact(((C _).app (Zcc (by omega) (by omega))).app (A _ _)).app (Zcc (by omega) (by omega))
     ·split
      ·exact((C _).app (Zcc (by omega) (by omega))).app (A _ _)
      ·exact((((C _).app (Zcc (by omega) (by omega))).app (A _ _)).app (Zcc (by omega) (by omega))).app (A _ _)
theorem ZlP(s:ZB):Byt (Zbe s):=Zgy (λi a=>ZlO _ _ _ i a) _ _
theorem Zrj(h:Byt L):Seg (bs L) L 0:=λj x hx=>by
 have hb:=h x (Qw hx)
 rw[show 2*0+j=j from by omega]
 exact ZfR hx hb.1 hb.2
section
variable {c v T:ZB} {ex:List Ex} {sm:List Sm} {n:Int} {vs:List Int}
def ZdV(c:ZB)(m:Nat)(n:Int)(i:Nat):Prop:=ZaH m (half c) n (bv c (2*(i:Int))) (bv c (2*(i:Int)+1))=true
theorem Zrk(hE:Z7 ex)(hX:ExB n vs.length ex)(hn:n<=6)(hm:vs.length<=8):∀e a b,Zgw c ex e a b->∀i,a<=i->i<b->ZdV c vs.length n i:=by
 refine ZgX hE hX hn hm _ (λe x a hx hl hb hI i h1 h2=>?_) (λe x a u t hx hop A1 A2 hI i1 i2 i h1 h2=>?_)
 ·rw[show i=a from by omega]
  unfold ZdV ZaH
  rw[hI.1,hI.2]
  refine Qv ?_
  rcases hb with d|d|d|d<;>omega
 ·by_cases e1:i<u
  ·exact i1 i h1 e1
  ·by_cases e2:i<t
   ·exact i2 i (by omega) e2
   ·rw[show i=t from by omega]
    unfold ZdV ZaH
    rw[hI.1,hI.2]
    exact Qv (by omega)
theorem ZeV{i m:Nat}{op w:Int}(hI:Ins c i op w)(h:op=0∨((op=1∨op=2)∧w<m)∨((3<=op∧op<=7)∧w=0)∨((op=8∨op=9)∧w<=half c)∨((op=10∨op=11)∧w<n)):ZdV c m n i:=by
 unfold ZdV ZaH
 rw[hI.1,hI.2]
 exact Qv h
theorem Zrl(hE:Z7 ex)(hS:ZaQ ex sm)(hX:ExB n vs.length ex)(hB:∀x,x∈sm->SB n vs.length x)(hn:n<=6)(hm:vs.length<=8) :
  (∀i a b,b<=200->ZnF c ex sm i a b->(b:Int)<=half c->∀i,a<=i->i<b->ZdV c vs.length n i)∧(∀l a b,b<=200->ZfP c ex sm l a b->(b:Int)<=half c->b<=200->∀i,a<=i->i<b->ZdV c vs.length n i):=by
 have X:=Zrk (c:=c) hE hX hn hm
 have SP:=Zh6 (c:=c) hE hS hX hB hn hm
 have lx:∀e a b,Zgw c ex e a b->(b:Int)<=half c->a<b:=λe a b A h=>(Zgk hE hX hn hm e a b A h).2
 have:=Zff (c:=c) hE hS hB hn hm (λi a b=>(b:Int)<=half c->b<=200->∀i,a<=i->i<b->ZdV c vs.length n i) (λl a b=>(b:Int)<=half c->b<=200->∀i,a<=i->i<b->ZdV c vs.length n i) (λa _ _ i h1 h2=>by omega) (λi l a u b A B P Q h hb j h1 h2=>?_) (λi x a u hx hk A hI h hb j h1 h2=>?_) (λi x a u hx hk A hI h hb j h1 h2=>?_)
  (λi x a u b hx hk h2 A hI B Q h hb j h1 h2=>?_) (λi x a u t b hx hk h2 A hI B hJ D Q R h hb j h1 h2=>?_) (λi x a u t hx hk A hI B hJ Q h hb j h1 h2=>?_)
 ·exact⟨λi a b hb A h=>this.1 i a b hb A h hb,λl a b hb A h=>this.2 l a b hb A h⟩
 ·have:=(SP.2 l u b hb B h).le
  by_cases e:j<u
  ·exact P (by omega) (by omega) j h1 e
  ·exact Q h hb j (by omega) h2
 ·have hsb:=hB x (Qw hx)
  by_cases e:j<u
  ·exact X _ _ _ A j h1 e
  ·rw[show j=u from by omega]
   exact ZeV hI (by rcases hsb with d|d|d|d<;>omega)
 ·have hsb:=hB x (Qw hx)
  by_cases e:j<u
  ·exact X _ _ _ A j h1 e
  ·rw[show j=u from by omega]
   exact ZeV hI (by rcases hsb with d|d|d|d<;>omega)
 ·by_cases e:j<u
  ·exact X _ _ _ A j h1 e
  ·by_cases e1:j=u
   ·rw[e1];exact ZeV hI (by omega)
   ·exact Q h hb j (by omega) h2
 ·have ld:=(SP.2 _ _ _ hb D h).le
  by_cases e:j<u
  ·exact X _ _ _ A j h1 e
  ·by_cases e1:j=u
   ·rw[e1];exact ZeV hI (by omega)
   ·by_cases e2:j<t
    ·exact Q (by omega) (by omega) j (by omega) e2
    ·by_cases e3:j=t
     ·rw[e3];exact ZeV hJ (by omega)
     ·exact R h hb j (by omega) h2
 ·have lb:=(SP.2 _ _ _ (by omega) B (by omega)).le
  have la:=lx _ _ _ A (by omega)
  by_cases e:j<u
  ·exact X _ _ _ A j h1 e
  ·by_cases e1:j=u
   ·rw[e1];exact ZeV hI (by omega)
   ·by_cases e2:j<t
    ·exact Q (by omega) (by omega) j (by omega) e2
    ·rw[show j=t from by omega];exact ZeV hJ (by omega)
end
structure Zr7(s:ZB):Prop where
 scan:scanE (ZaI s)=0
 code:ZQ (ZaI s)=bs (Zbe s)
 vars:ZZ (ZaI s)=bs (readP s).1.vs
 tab:fTab (ZaI s)=tabP s
 n:bv (ZaI s) 1=nP s
 k:(Zbe s).length/2<=200
 ev:(Zbe s).length%2=0
 half:half (bs (Zbe s))=((Zbe s).length/2:Nat)
 ls:ZfP (bs (Zbe s)) (readP s).1.ex (readP s).1.sm (readP s).2 0 ((Zbe s).length/2)
 m8:(readP s).1.vs.length<=8
 hv:∀x:Int,0<=x->x<(readP s).1.vs.length->bv (bs (readP s).1.vs) x=(readP s).1.vs.getD x.toNat 0
 rng:Ranged (bs (Zbe s))
set_option maxHeartbeats 6400000
theorem ZiF(h:transE s=0):Zr7 s:=by
 have H:=Zgu h
 have hk:(Zbe s).length/2<=200:=by
  unfold transE at h
  have hsz:=H.sz
  rw[if_neg (by omega),if_neg (by rw[H.er];simp)]at h
  split at h
  ·rename_i c;exact absurd h c
  ·split at h
   ·omega
   ·omega
 have hl:levE (tabP s)=0:=by
  unfold transE at h
  have hsz:=H.sz
  rw[if_neg (by omega),if_neg (by rw[H.er];simp)]at h
  by_cases c:levE (tabP s)=0
  ·exact c
  ·rw[if_pos c]at h;exact h
 have hR:=Zax s
 have hpv:(readP s).1.vs=(headP s).vs:=hR.p.2.2
 have hpl:(readP s).1.ls=(headP s).ls:=hR.p.2.1
 have n1:=H.n1
 have n6:=H.n6
 have hev:(Zbe s).length%2=0:=ZaT _ _ _ _
 have m8:(readP s).1.vs.length<=8:=by
  have:=(Zhh s).ll
  have:=H.j.ll
  rw[hpl]at this
  omega
 have hN:tabN (tabP s)=nP s:=by rw[<-ZhH hl];exact H.lev
 obtain⟨tt,tsq,tb,-⟩:=Zce (s:=tabP s) (by rw[hN];omega)
 rw[hN]at tsq
 have hsq:((nP s).toNat*(nP s).toNat:Nat)=(nP s*nP s).toNat:=by
  rw[Int.toNat_mul (by omega) (by omega)]
 obtain⟨CL,hCL,hCn⟩:∃CL:List Int,tabP s=bs CL∧(CL.length:Int)=nP s*nP s:=⟨_,rfl,by rw[ZcF,hsq,Qj (QY (by omega) (by omega))]⟩
 have hle:nP s*nP s<=36:=by
  rcases(show nP s=1∨nP s=2∨nP s=3∨nP s=4∨nP s=5∨nP s=6 from by omega) with e|e|e|e|e|e<;>rw[e]<;>decide
 generalize hVS:(readP s).1.vs=VS at *
 have hf:ZaI s=bs ([83,nP s]++(CL++([(VS.length:Int)]++(VS++([(((Zbe s).length/2:Nat):Int)]++Zbe s))))):=by
  unfold ZaI
  rw[hCL,<-hpv,show ((VS.length:Int))%256=VS.length from by omega,show (((Zbe s).length/2:Nat):Int)%256=((Zbe s).length/2:Nat) from by omega]
  simp only[Zg,QR]
 have vb:VsB (nP s) VS:=by have:=H.vs;rw[hVS]at this;exact this
 have hv:∀x:Int,0<=x->x<VS.length->bv (bs VS) x=VS.getD x.toNat 0:=λx h0 h1=>by
  have e:VS[x.toNat]?=some (VS[x.toNat]'(by omega)):=Qn (by omega)
  have hL:=vb _ (Ua (show x.toNat<VS.length by omega))
  have:=ZfR e hL.1 (by have:=hL.2;omega)
  rw[Qj h0]at this
  rw[this,Qs,e]
  rfl
 have hhalf:half (bs (Zbe s))=((Zbe s).length/2:Nat):=by
  unfold half
  rw[Zc]
  omega
 have hls:ZfP (bs (Zbe s)) (readP s).1.ex (readP s).1.sm (readP s).2 0 ((Zbe s).length/2):=⟨H.top,Zrj (ZlP s),by show _=0+(Zbe s).length/2;omega⟩
 have hX:ExB (nP s) VS.length (readP s).1.ex:=by have:=H.exb;rw[hVS]at this;exact this
 have hSB:∀x,x∈(readP s).1.sm->SB (nP s) VS.length x:=λx hx=>by have:=H.j.sb x hx;rw[H.pn,hVS]at this;exact this
 have hins:=(Zrl (c:=bs (Zbe s)) H.oe H.os hX hSB n6 m8).2 _ _ _ hk hls (by rw[hhalf];omega) hk
 have hcode:Zc8 (bs (Zbe s)) (bs VS) (nP s)=true:=by
  refine Za.2 λi hi=>?_
  unfold ZnA
  rw[Zc]
  exact hins i (by omega) (by rw[hhalf]at hi;omega)
 -- the parts
 have b0:bv (ZaI s) 0=83:=by rw[hf];exact ZfR (k:=0) rfl (by omega) (by omega)
 have b1:bv (ZaI s) 1=nP s:=by rw[hf];exact ZfR (k:=1) rfl (by omega) (by omega)
 have t2:tl (ZaI s) 2=bs (CL++([(VS.length:Int)]++(VS++([(((Zbe s).length/2:Nat):Int)]++Zbe s)))):=by rw[hf];exact ZkJ _ _ rfl
 have ft:fTab (ZaI s)=tabP s:=by unfold fTab;rw[b1,t2,hCL];exact ZpF _ _ hCn.symm
 have r1:fR1 (ZaI s)=bs ([(VS.length:Int)]++(VS++([(((Zbe s).length/2:Nat):Int)]++Zbe s))):=by unfold fR1;rw[b1,t2];exact ZkJ _ _ hCn.symm
 have r10:bv (fR1 (ZaI s)) 0=VS.length:=by rw[r1];exact ZfR (k:=0) rfl (by omega) (by omega)
 have r1t:tl (fR1 (ZaI s)) 1=bs (VS++([(((Zbe s).length/2:Nat):Int)]++Zbe s)):=by rw[r1];exact ZkJ [_] _ rfl
 have fv:ZZ (ZaI s)=bs VS:=by unfold ZZ Zc3;rw[r10,r1t];exact ZpF _ _ (by omega)
 have r2:fR2 (ZaI s)=bs ([(((Zbe s).length/2:Nat):Int)]++Zbe s):=by unfold fR2 Zem;rw[r10,r1t];exact ZkJ _ _ (by omega)
 have r20:bv (fR2 (ZaI s)) 0=((Zbe s).length/2:Nat):=by rw[r2];exact ZfR (k:=0) rfl (by omega) (by omega)
 have r2t:tl (fR2 (ZaI s)) 1=bs (Zbe s++[]):=by rw[r2,QS];exact ZkJ [_] _ rfl
 have fc:ZQ (ZaI s)=bs (Zbe s):=by unfold ZQ Zc3;rw[r20,r2t];exact ZpF _ _ (by omega)
 have r3:fR3 (ZaI s)=bs []:=by unfold fR3 Zem;rw[r20,r2t];exact ZkJ _ _ (by omega)
 have hsize:(ZaI s).size=2+(CL.length+(1+(VS.length+(1+(Zbe s).length)))):=by rw[hf,Zc];simp only[Qe,Qt,Qy]
 have hokf:fOk (ZaI s)=true:=by
  unfold fOk Zby vOk
  rw[Qr,Qr,Qr,Qr,Qr,Qr]
  refine⟨⟨?_,?_,?_⟩,⟨?_,?_⟩,?_,?_⟩
  ·exact Qv ⟨by omega,b0,by rw[b1];omega,by rw[b1];omega⟩
  ·refine Qv ?_
   rw[b1,t2,Zc]
   simp only[Qe]
   omega
  ·rw[ft];exact tb
  ·refine Qv ⟨by rw[r1,Zc];simp,by rw[r10];omega,?_⟩
   rw[r10,r1t,Zc]
   simp only[Qe]
   omega
  ·have:Zc3 (fR1 (ZaI s)) 1=bs VS:=fv
   rw[this]
   refine Za.2 λi hi=>Qv ?_
   rw[Zc]at hi
   rw[hv i (by omega) (by omega),b1,QC]
   exact(vb.at hi).2
  ·refine Qv ⟨by rw[r2,Zc];simp,by rw[r20];omega,?_⟩
   rw[r20,r2t,Zc]
   simp only[Qe,Qy]
   omega
  ·refine Qv ?_
   rw[r3];rfl
 have hscan:scanE (ZaI s)=0:=by
  unfold scanE
  rw[if_neg (by rw[hsize];omega),if_pos hokf,ft,if_pos hl,fc,fv,b1,if_pos hcode]
 exact⟨hscan,fc,by rw[hVS];exact fv,ft,b1,hk,hev,hhalf,hls,by rw[hVS];exact m8,by rw[hVS];exact hv,ZbX hcode⟩
theorem ZlQ:∀(l:List Int) {m:Int},0<=m->(∀a,a∈l->0<=a)->0<=Zen m l
 | [],m,hm,h=>hm
 | a::l,m,hm,h=>ZlQ l (m:=Zcr m a) (by have:=h a (by simp);unfold Zcr;split<;>assumption) (λb hb=>h b (by simp[hb]))
theorem ZnM(H:ZeI s):leakP s=-1↔bads (tabP s) (nP s) (readP s).1.vs (readP s).1.ex (readP s).1.sm (readP s).2 (botI (tabP s) (nP s))=[]:=by
 have e:leakP s=Zen (-1) (bads (tabP s) (nP s) (readP s).1.vs (readP s).1.ex (readP s).1.sm (readP s).2 (botI (tabP s) (nP s))):=by
  rw[H.leak]
  exact ZcT (g:=bad (tabP s) (nP s) (readP s).1.vs (readP s).1.ex (readP s).1.sm) _ (λi a=>Zbb _ _ _ _ _ (i+1) i _ a) (λi m hm=>ZdC _ _ _ _ _ (i+1) i _ m hm) (readP s).2 (-1) (by omega)
 have hnn:=Zcx (f:=bad (tabP s) (nP s) (readP s).1.vs (readP s).1.ex (readP s).1.sm) (λi c a=>Zbb _ _ _ _ _ (i+1) i c a) (botI (tabP s) (nP s)) (readP s).2
 rw[e]
 unfold bads
 cases hb:badG (bad (tabP s) (nP s) (readP s).1.vs (readP s).1.ex (readP s).1.sm) (readP s).2 (botI (tabP s) (nP s)) with
 | nil=>exact⟨λ_=>rfl,λ_=>rfl⟩
 | cons a l=>
  rw[hb]at hnn
  constructor
  ·intro h
   have h1:Zen (-1) (a::l)=Zen a l:=by show Zen (Zcr (-1) a) l=_;rw[Zfd]
   have:=ZlQ l (m:=a) (hnn a (by simp)) (λb hb=>hnn b (by simp[hb]))
   omega
  ·intro h;exact absurd h (by simp)
theorem Zo3(h:Byt L):∀i:Nat,i<=L.length/2->hc (bs L) i=hgt L i
 | 0,_=>rfl
 | i+1,hi=>by
  simp only[hc,hgt]
  rw[Zo3 h i (by omega)]
  have e:L[2*i]?=some (L[2*i]'(by omega)):=Qn (by omega)
  have hb:=h _ (Ua (show 2*i<L.length by omega))
  have e1:bv (bs L) (2*(i:Int))=L.getD (2*i) 0:=by
   have:=ZfR e hb.1 hb.2
   rw[show ((2*i:Nat):Int)=2*(i:Int) from by omega]at this
   rw[this,Qs,e]
   rfl
  unfold givesAt takesAt
  rw[e1]
theorem ZpG(h:transE s=0)(hE:compE s=0):ZbS (ZaI s) 0 0:=by
 have H:=Zgu h
 have FI:=ZiF h
 have hR:=Zax s
 obtain⟨hn,_,hvs,_,_,n1,n6,hEx,hSm,hmem,hcd⟩:=hR.ok H.er
 have hcd:(readQ s).cd=Zbe s:=hcd
 have hI:=Zqh s
 have hSB:∀x,x∈(readP s).1.sm->SB (nP s) (readP s).1.vs.length x:=λx hx=>by have:=H.j.sb x hx;rw[H.pn]at this;exact this
 have hK:=FI.half
 have hk:=FI.k
 have hls:=FI.ls
 have hB:=ZlP s
 have hcode:=FI.code
 have hev:=FI.ev
 have hrng:=FI.rng
 have SP:=(Zh6 (c:=bs (Zbe s)) H.oe H.os H.exb hSB H.n6 FI.m8).2 _ _ _ hk hls (by omega)
 have FT:=(Zpj (c:=bs (Zbe s)) H.oe H.os H.exb hSB H.n6 FI.m8 FI.hv).2 _ _ _ hk hls rfl
 have hgs:=Zo3 hB
 have LK:=ZnM H
 have cE:compE s=if 8<(readQ s).hi then 8 else if leakP s≠-1 then 9 else 0:=by unfold compE;rw[if_neg (by rw[h];simp)]
 have hIx:=hI.ex
 have hIh:=hI.hi
 rw[hcd]at hIx hIh
 generalize hc0:bs (Zbe s)=c at *
 generalize hK0:(Zbe s).length/2=K at *
 have HL:∀p:Int,0<=p->p<=half c->Live c p:=λp h0 h1=>by
  by_cases e:p<K
  ·exact SP.fwd (-1) (by omega) p (by omega) e
  ·rw[show p=K from by omega];exact SP.thr (by omega)
 have noTrap:∀q,¬Trap c q:=λq ⟨⟨h0,h1⟩,_,hn⟩=>hn (by
  have:=SP.out (-1) (by omega) q (by omega) (by omega)
  rw[hK];exact this)
 have main:ZdW c (bs (readP s).1.vs) (tabP s) (nP s) 0 0:=by
  rw[hE]at cE
  by_cases h8:8<(readQ s).hi
  ·rw[if_pos h8]at cE;omega
  ·rw[if_neg h8]at cE
   have hH:Zr c (hc c):=by
    refine⟨rfl,λi hi _=>?_,λ_=>?_,λi hi _=>(FT.2.2 i (by omega) (by omega)).1,λi hi _=>(FT.2.2 i (by omega) (by omega)).2⟩
    ·have h2:=hIh i (by omega)
     rw[<-hgs i (by omega)]at h2
     refine⟨?_,by omega⟩
     by_cases e:i<K
     ·have:=(FT.2.2 i (by omega) e).1
      have:=(ZeK c i).1.1
      omega
     ·rw[show i=K from by omega,FT.2.1];omega
    ·rw[hK,QC];exact FT.2.1
   have X:Cx c (bs (readP s).1.vs) (tabP s) (readP s).1.ex (readP s).1.sm (nP s) (readP s).1.vs:=⟨H.oe,H.os,H.exb,hSB,Zjh s,H.n6,FI.m8,FI.hv,HL,H.lat,H.vs,hrng⟩
   have hx:Exi c 0 K:=λw h0 h1=>by rw[hK];exact Reach.start rfl (by omega)
   obtain⟨bl,ba⟩:=Zd8 H.lat
   by_cases hlk:leakP s=-1
   ·have hnil:=LK.1 hlk
    refine .inr ⟨noTrap,.inr ⟨hc c,hH,.inr ⟨rfl,rfl,?_⟩⟩⟩
    rintro q ⟨⟨q0,q1⟩,ql,qs,a,ha,hle,hf⟩
    obtain⟨L,V,W,D⟩:=(upp X a.toNat).2 _ _ _ hk hls hk (by omega) rfl hx (botI (tabP s) (nP s)) False ⟨bl,λk=>k.elim⟩ hnil
    have ea:((a.toNat:Nat):Int)=a:=Qj ha.1
    have hcl:FCl c (bs (readP s).1.vs) (hc c) a (λp d=>(d=-1∧L p)∨(d≠-1∧V p)):=by
     refine⟨λi j d hl he h0 h1 hp=>?_,λi j hl he hg hs=>?_,λi p hl h0 h1 h9 hp hr p0 p1=>?_⟩
     ·have e0:=he.1
      have e1:=he.2.1
      have e:((i.toNat:Nat):Int)=i:=Qj e0
      rcases hp with ⟨k,_⟩|⟨k,hp⟩
      ·omega
      ·exact .inr ⟨k,(W.stay i.toNat (by omega) (by omega) j (by rw[e];exact he.2.2) (by rw[e];omega) (by rw[e];exact hp)).1⟩
     ·have e0:=he.1
      have e1:=he.2.1
      have e:((i.toNat:Nat):Int)=i:=Qj e0
      have hfit:=(FT.2.2 i.toNat (by omega) (by omega)).1
      rw[e]at hfit
      refine .inr ⟨by omega,(W.push i.toNat (by omega) (by omega) j (by rw[e];exact he.2.2) (by rw[e];exact hg) ?_).1⟩
      rw[e,ea]
      rcases hs with k|k|k|⟨k1,k2⟩
      ·rcases k with k|k
       ·exact .inl k.2
       ·exact absurd rfl k.1
      ·exact .inr (.inr (.inl k))
      ·exact .inr (.inr (.inr k))
      ·rcases k2 with (k|k)|(k|k)
       ·exact .inl k.2
       ·exact .inr (.inl k.2)
       ·exact .inl k.2
       ·exact .inr (.inl k.2)
     ·have e:((i.toNat:Nat):Int)=i:=Qj h0
      refine .inl ⟨rfl,(D i.toNat (by omega) (by omega) (by rw[e];exact h9) ?_ p (by rw[e];exact hr)).1⟩
      rw[e]
      rcases hp with (k|k)|(k|k)
      ·exact .inl k.2
      ·exact absurd rfl k.1
      ·exact .inl k.2
      ·exact .inr k.2
    have eq:((q.toNat:Nat):Int)=q:=Qj q0
    have:=W.sink q.toNat (by omega) (by omega) (by rw[eq];exact qs) (by
     rw[eq]
     rcases hf with hf|⟨hv,hf⟩
     ·rcases hf _ hcl with k|k
      ·exact .inl k.2
      ·exact absurd rfl k.1
     ·rcases hf _ hcl with k|k
      ·exact .inl k.2
      ·exact .inr ⟨hv,k.2⟩)
    rw[eq,ea,hle]at this
    exact absurd this (by simp)
   ·rw[if_pos hlk]at cE;omega
 refine .inr ⟨FI.scan,?_⟩
 rw[hcode,FI.vars,FI.tab,FI.n]
 exact main
end Go.Proofs.YtcnbifdlkalimabGreat
