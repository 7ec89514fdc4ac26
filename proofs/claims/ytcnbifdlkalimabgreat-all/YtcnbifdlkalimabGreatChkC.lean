/- Lemmas; their conditions stand in each. -/
import Derived.Test.YtcnbifdlkalimabGreatLabA
import Derived.Test.YtcnbifdlkalimabGreatChk4
namespace Go.Proofs.YtcnbifdlkalimabGreat
open Go.RowKit Go.Proofs.Tryz
variable{a d:Int}{M:Int->Int->Bool}{gp gs mb:Nat}{h:Nat->Int}{w:World}{c v:ZB}
def HM(M:Int->Int->Bool)(p d:Int):Int->Int->Bool:=λq e=>if q=p∧e=d then true else M q e
theorem O8(M:Int->Int->Bool)(p d:Int):HM M p d p d=true:=if_pos ⟨rfl,rfl⟩
theorem J5{p q e:Int}(h:¬(q=p∧e=d)):HM M p d q e=M q e:=if_neg h
def HN(c:ZB)(M:Int->Int->Bool):Nat:=Gy (λk=>if M ((k/10:Nat):Int) (((k%10:Nat):Int)-1) then 0 else 1) (10*((half c).toNat+1))
theorem YU{p:Nat}(n:(p:Int)<=half c)(g:-1<=d)(b:d<=8)(f:M p d=false):HN c (HM M p d)<HN c M:=by
 have m:=(Zn c).1;refine NK (j:=10*p+(d+1).toNat) (by omega) (λi e=>?_) ?_
 ·rw[J5 (λk=>e (by have b:=k.1;have l:=k.2;omega))]
 ·rw[show (10*p+(d+1).toNat)/10=p from by omega,show (((10*p+(d+1).toNat)%10:Nat):Int)-1=d from by omega,O8,f];simp
def C4(c v:ZB)(h:Nat->Int)(M:Int->Int->Bool)(a i:Int):Bool:=
 if bv c (2*i)=1 then M i (-1)||decide (bv v (bv c (2*i+1))=a)
 else if bv c (2*i)=10 then M i (-1)||decide (bv c (2*i+1)=a)
 else if 3<=bv c (2*i)∧bv c (2*i)<=7 then M i (-1)||(M i (h i.toNat-1)||M i (h i.toNat-2))
 else M i (-1)
theorem YV{i:Int}{P:Int->Int->Prop}(b:∀d,M i d=true->P i d)(k:C4 c v h M a i=true):Hc c v h a P i:=by
 unfold C4 at k;split at k
 ·rename_i e;rw[QJ,decide_eq_true_iff]at k;exact k.imp (b _) (λx=>.inl ⟨e,x⟩)
 ·split at k
  ·rename_i e;rw[QJ,decide_eq_true_iff]at k;exact k.imp (b _) (λx=>.inr (.inl ⟨e,x⟩))
  ·split at k
   ·rename_i e;rw[QJ,QJ]at k;exact k.imp (b _) (λx=>.inr (.inr ⟨e,x.imp (b _) (b _)⟩))
   ·exact .inl (b _ k)
theorem YW{i:Int}(k:Hc c v h a (λp d=>M p d=true) i):C4 c v h M a i=true:=by
 unfold C4;rcases k with k|⟨k,b⟩|⟨k,b⟩|⟨k,b⟩
 ·split
  ·rw[k];rfl
  ·split
   ·rw[k];rfl
   ·split
    ·rw[k];rfl
    ·exact k
 ·rw[if_pos k,QJ];exact .inr (Qv b)
 ·rw[if_neg (by omega),if_pos k,QJ];exact .inr (Qv b)
 ·rw[if_neg (by omega),if_neg (by omega),if_pos k,QJ,QJ];exact .inr b
structure Cu(c v:ZB)(h:Nat->Int)(a:Int)(M M':Int->Int->Bool)(more:Bool):Prop where
 ok:∀p d,M' p d=true->M p d=true∨AC c v h a p d
 no:more=false->M'=M
 yes:more=true->HN c M'<HN c M
 le:HN c M'<=HN c M
theorem Cu.refl(c v:ZB)(h:Nat->Int)(a:Int)(M:Int->Int->Bool):Cu c v h a M M false:=⟨λ_ _ h=>.inl h,λ_=>rfl,λh=>absurd h (by simp),Qb _⟩
theorem Cu.add{b:Int->Int->Bool}{more:Bool}{p:Nat}(H:Cu c v h a M b more)(m:(p:Int)<=half c)(g:-1<=d)(i:d<=8)(l:b p d=false)(j:AC c v h a p d):Cu c v h a M (HM b p d) true:=by
 have n:=YU m g i l;have o:=H.le;refine⟨λq e f=>?_,λh=>absurd h (by simp),λ_=>by omega,by omega⟩;by_cases k:q=p∧e=d
 ·obtain⟨rfl,rfl⟩:=k;exact .inr j
 ·rw[J5 k]at f;exact H.ok q e f
theorem Cu.trans{f e:Int->Int->Bool}{x y:Bool}(H:Cu c v h a M f x)(K:Cu c v h a f e y):Cu c v h a M e (x||y):=by
 have g:=H.le;have i:=K.le;refine⟨λp d hd=>?_,λb=>?_,λb=>?_,by omega⟩
 ·rcases K.ok p d hd with k|k
  ·exact H.ok p d k
  ·exact .inr k
 ·rw[Bool.or_eq_false_iff]at b;rw[K.no b.2,H.no b.1]
 ·rw[QJ]at b;rcases b with k|k
  ·have:=H.yes k;omega
  ·have:=K.yes k;omega
structure Jv(c v:ZB)(h:Nat->Int)(a:Int)(M:Int->Int->Bool)(i j:Int):Prop where
 stay:∀d,0<=d->d<h i.toNat-Ab c i->M i d=true->M j d=true
 push:As c i=1->C4 c v h M a i=true->M j (h i.toNat-Ab c i)=true
def NA(c:ZB)(h:Nat->Int)(M:Int->Int->Bool)(i:Int):Prop:=(M i (-1)=true∨M i (h i.toNat-1)=true)->∀p,0<=p->p<=half c->CO c i p->M p (-1)=true
structure Hf(c v:ZB)(h:Nat->Int)(a:Int)(M:Int->Int->Bool)(i:Int):Prop where
 to:∀j,j∈AP c i->Jv c v h a M i j
 hid:bv c (2*i)=9->NA c h M i
theorem Xq(b:∀i:Int,0<=i->i<half c->Aq c i->Hf c v h a M i){p:Int}(r:AC c v h a p d):M p d=true:=by refine r (λp d=>M p d=true) ⟨λi j d f e g k l=>((b i e.1 e.2.1 f).to j e.2.2).stay d g k l,λi j f e s t=>((b i e.1 e.2.1 f).to j e.2.2).push s (YW t),λi p f g k o l q m n=>(b i g k f).hid o l p m n q⟩
open Go.RowKit Go.Deep
set_option linter.all false
set_option maxRecDepth 100000
structure Hg(w:World)(f gl gh gr:Nat)(n:Int)(t v c:ZB)(lm:Nat->Bool)(h:Nat->Int)(R:Nat->Nat->Bool):Prop where
 lt:f<w.heap.size
 ll:gl<w.heap.size
 lh:gh<w.heap.size
 lr:gr<w.heap.size
 c0:w.cell? ⟨f,0,none⟩=some (.int .i64 n)
 c1:w.cell? ⟨f,1,none⟩=some (.string t)
 c2:w.cell? ⟨f,2,none⟩=some (.string v)
 c3:w.cell? ⟨f,3,none⟩=some (.string c)
 c4:w.cell? ⟨f,4,none⟩=some (.int .i64 (half c))
 c5:w.cell? ⟨f,5,none⟩=some (.slice (some ⟨gl,0,none⟩) ((half c).toNat+1) ((half c).toNat+1))
 c6:w.cell? ⟨f,6,none⟩=some (.slice (some ⟨gh,0,none⟩) ((half c).toNat+1) ((half c).toNat+1))
 c7:w.cell? ⟨f,7,none⟩=some (.slice (some ⟨gr,0,none⟩) ((half c).toNat+1) ((half c).toNat+1))
 l:∀j,j<(half c).toNat+1->w.cell? ⟨gl,j,none⟩=some (.bool (lm j))
 h:∀j,j<(half c).toNat+1->w.cell? ⟨gh,j,none⟩=some (.int .i64 (h j))
 r:∀i:Nat,(i:Int)<half c->lm i=true->bv c (2*i)=9->∃g,g<w.heap.size∧w.cell? ⟨gr,i,none⟩=some (.slice (some ⟨g,0,none⟩) ((half c).toNat+1) ((half c).toNat+1))∧∀j,j<(half c).toNat+1->w.cell? ⟨g,j,none⟩=some (.bool (R i j))
theorem Hg.step{w1:World}{f s q u:Nat}{n:Int}{t:ZB}{x:Nat->Bool}{R:Nat->Nat->Bool}(H:Hg w f s q u n t v c x h R)(k:Below w.heap.size w w1):Hg w1 f s q u n t v c x h R:=by have e:∀b j,b<w.heap.size->w1.cell? ⟨b,j,none⟩=w.cell? ⟨b,j,none⟩:=λb j D=>k.cell (p:=⟨b,j,none⟩) D;refine⟨Qq H.lt k.size,Qq H.ll k.size,Qq H.lh k.size,Qq H.lr k.size,by rw[e _ _ H.lt];exact H.c0,by rw[e _ _ H.lt];exact H.c1,by rw[e _ _ H.lt];exact H.c2,by rw[e _ _ H.lt];exact H.c3,by rw[e _ _ H.lt];exact H.c4,by rw[e _ _ H.lt];exact H.c5,by rw[e _ _ H.lt];exact H.c6,by rw[e _ _ H.lt];exact H.c7,λj m=>by rw[e _ _ H.ll];exact H.l j m,λj m=>by rw[e _ _ H.lh];exact H.h j m,λi A B C=>?_⟩;obtain⟨g,o,y,z⟩:=H.r i A B C;exact⟨g,Qq o k.size,by rw[e _ _ H.lr];exact y,λj m=>by rw[e _ _ o];exact z j m⟩
structure BL(w:World)(mb gp gs:Nat)(c:ZB)(M:Int->Int->Bool):Prop where
 lm:mb<w.heap.size
 lp:gp<w.heap.size
 ls:gs<w.heap.size
 n1:mb≠gp
 n2:mb≠gs
 n3:gp≠gs
 c0:w.cell? ⟨mb,0,none⟩=some (.slice (some ⟨gp,0,none⟩) ((half c).toNat+1) ((half c).toNat+1))
 c1:w.cell? ⟨mb,1,none⟩=some (.slice (some ⟨gs,0,none⟩) ((half c).toNat+1) ((half c).toNat+1))
 p:∀j:Nat,j<(half c).toNat+1->w.cell? ⟨gp,j,none⟩=some (.bool (M j (-1)))
 s:∀j d:Nat,j<(half c).toNat+1->d<9->w.cell? ⟨gs,j*9+d,none⟩=some (.bool (M j d))
 fp:∀j:Nat,j<(half c).toNat+1->w.frozen? ⟨gp,j,none⟩=false
 fs:∀j d:Nat,j<(half c).toNat+1->d<9->w.frozen? ⟨gs,j*9+d,none⟩=false
theorem BL.step{w1:World}(H:BL w mb gp gs c M)(g:Below w.heap.size w w1):BL w1 mb gp gs c M:=by
 have e:∀b j,b<w.heap.size->w1.cell? ⟨b,j,none⟩=w.cell? ⟨b,j,none⟩:=λb j i=>g.cell (p:=⟨b,j,none⟩) i;have k:∀b j,b<w.heap.size->w1.frozen? ⟨b,j,none⟩=w.frozen? ⟨b,j,none⟩:=λb j i=>g.frozen (p:=⟨b,j,none⟩) i
 exact⟨Qq H.lm g.size,Qq H.lp g.size,Qq H.ls g.size,H.n1,H.n2,H.n3,by rw[e _ _ H.lm];exact H.c0,by rw[e _ _ H.lm];exact H.c1,λj f=>by rw[e _ _ H.lp];exact H.p j f,λj d f hd=>by rw[e _ _ H.ls];exact H.s j d f hd,λj f=>by rw[k _ _ H.lp];exact H.fp j f,λj d f hd=>by rw[k _ _ H.ls];exact H.fs j d f hd⟩
theorem UO(x a:Int):(x==a)=decide (x=a):=by by_cases h:x=a<;>simp[h]
set_option maxHeartbeats 6400000
theorem Xr(f gl gh gr mb gp gs:Nat)(n a:Int)(t v c:ZB)(lm:Nat->Bool)(h:Nat->Int)(R:Nat->Nat->Bool)(M:Int->Int->Bool)(i:Nat)(w:World)(H:Hg w f gl gh gr n t v c lm h R)(K:BL w mb gp gs c M)(Q:c.size<=maxLen)(hv:v.size<=maxLen)(hK:half c<=200)(U:(i:Int)<half c)(O:bv c (2*i)<=11)(k:bv c (2*i)=1->bv c (2*i+1)<v.size)(r:3<=bv c (2*i)∧bv c (2*i)<=7->2<=h i∧h i<=8) :
  Calls prog 228 #[.pointer (some ⟨f,0,none⟩),.pointer (some ⟨mb,0,none⟩),.int .i64 i,.int .i64 a] w λe A=>e=.returned (.bool (C4 c v h M a i))∧Below w.heap.size w A:=by
 have hh:=(Zn c).1;have Y:=H.c0;have Z:=H.c1;have q2:=H.c2;have q3:=H.c3;have q4:=H.c4;have j:Kp (C4 c v h M a i=if bv c (2*i)=1 then M i (-1)||decide (bv v (bv c (2*i+1))=a) else if bv c (2*i)=10 then M i (-1)||decide (bv c (2*i+1)=a) else if 3<=bv c (2*i)∧bv c (2*i)<=7 then M i (-1)||(M i (h i-1)||M i (h i-2)) else M i (-1)):=⟨rfl⟩
 replace k:=Z_ k;replace r:=Z_ r;have ho:=(Zx c (2*i)).1;have ha:=Zx c (2*i+1);go_in;go_wp2_with fail;refine(FL n i t v c _ Q (by omega) U).mono ?_;rintro e w1 ⟨rfl,x⟩;have C:=(Qh w.heap.size w).alloc (Qb _) (.cells #[.int .i64 n,.string t,.string v,.string c,.int .i64 (half c)] 169);have u:=(AF.new5 w (.int .i64 n) (.string t) (.string v) (.string c) (.int .i64 (half c)) 169).step x;have g:=C.trans (x.mono C.size);have H1:=H.step g;have D:=K.step g;clear Y Z q2 q3 q4 H K x C;obtain⟨l,L⟩:∃l,bv c (2*i)=l:=⟨_,rfl⟩
 obtain⟨m,q⟩:∃m,bv c (2*i+1)=m:=⟨_,rfl⟩
 rw[L]at j k r O ho ⊢;rw[q]at j k ha;replace q:=Z_ q;clear L;have Y:=u.c 0 _ rfl;have Z:=u.c 1 _ rfl;have q2:=u.c 2 _ rfl;have q3:=u.c 3 _ rfl;have q4:=u.c 4 _ rfl;have k0:=D.c0;have k1:=D.c1;have kp:=D.p i (by omega);have ad:(i:Int)<((half c).toNat+1:Nat):=by omega
 have af:=u.lt;obtain⟨N,J⟩:∃N,M i (-1)=N:=⟨_,rfl⟩
 rw[J]at kp j;have z:l=1∨l=10∨(l=0∨l=2∨l=8∨l=9∨l=11)∨(l=3∨l=4∨l=5∨l=6∨l=7):=by omega
 rcases z with rfl|rfl|z|z
 ·have ah:=k.o rfl;have b:=j.o;rw[if_pos rfl]at b;replace b:=Z_ b;have V:Kp (IntKind.i64.wrap (bv v m)=bv v m):=⟨by have:=Zx v m;rw[IntKind.wrap_i64];omega⟩
  have ag:((v[m.toNat]'(by omega)).toNat:Int)=bv v m:=Ir v m (by omega);clear j k r;cases N
  ·go_wp2_with fail;have ae:(i:Int)<max (half c) 0+1:=by omega
   go_region_held3 (λA=>A.cell? ⟨w.heap.size,0,none⟩=some (.int .i64 n)∧A.cell? ⟨w.heap.size,1,none⟩=some (.string t)∧A.cell? ⟨w.heap.size,2,none⟩=some (.string v)∧A.cell? ⟨w.heap.size,3,none⟩=some (.string c)∧A.cell? ⟨w.heap.size,4,none⟩=some (.int .i64 (half c))∧A.cell? ⟨mb,0,none⟩=some (.slice (some ⟨gp,0,none⟩) ((half c).toNat+1) ((half c).toNat+1))∧A.cell? ⟨gp,i,none⟩=some (.bool false)) (go_keep) ((go_at_call 148;refine(GL n i t v c _ Q (by omega) U).mono ?_;rintro e w5 ⟨rfl,y⟩;rw[q.o];have b5:=(Qh _ _).drew.trans y;have F:=u.step b5;have K5:=D.step b5;have r0:=F.c 0 _ rfl;have r1:=F.c 1 _ rfl;have r2:=F.c 2 _ rfl;have r3:=F.c 3 _ rfl;have r4:=F.c 4 _ rfl;have s0:=K5.c0;have sp:=K5.p i (by omega);rw[J]at sp));all_goals
    have hd:Below w1.heap.size w1 w1.drew:=(Qh _ _).drew;have B:=g.trans (hd.mono g.size);have E:=B.trans (y.mono B.size);clear hd B y r0 r1 r2 r3 r4 s0 sp Y Z q2 q3 q4;go_wp2;go_ret;exact⟨Za (by rw[b.o,V.o,UO];simp),E⟩
  ·go_wp2_with fail;go_quiet (fail);go_wp2;go_ret;exact⟨Za (by rw[b.o];rfl),below_drewN g _⟩
 ·have b:=j.o;rw[if_neg (by decide),if_pos rfl]at b;replace b:=Z_ b;clear j k r;cases N
  ·go_wp2_with fail;refine(GL n i t v c _ Q (by omega) U).mono ?_;rintro e w5 ⟨rfl,y⟩;rw[q.o];have E:=g.trans (y.mono g.size);go_wp2;go_ret;exact⟨Za (by rw[b.o,UO];simp),E⟩
  ·go_wp2;go_ret;exact⟨Za (by rw[b.o];rfl),g⟩
 ·have b:=j.o;rw[if_neg (by omega),if_neg (by omega),if_neg (by omega)]at b;replace b:=Z_ b;clear j k r;rcases z with rfl|rfl|rfl|rfl|rfl;all_goals
   go_wp2;go_ret;exact⟨Za b.o.symm,g⟩
 ·have b:=j.o;rw[if_neg (by omega),if_neg (by omega),if_pos (by omega)]at b;replace b:=Z_ b;obtain⟨h2,h8⟩:=r.o (by omega);obtain⟨G,S⟩:∃G:Nat,h i-1=G:=⟨(h i-1).toNat,by omega⟩
  obtain⟨I,T⟩:∃I:Nat,h i-2=I:=⟨(h i-2).toNat,by omega⟩
  have W:=D.s i G (by omega) (by omega);have X:=D.s i I (by omega) (by omega);have f6:=H1.c6;have fh:=H1.h i (by omega);rw[S,T]at b;have aa:(G:Int)<9:=by omega
  have ab:(I:Int)<9:=by omega
  obtain⟨B,x⟩:∃B,M i G=B:=⟨_,rfl⟩
  obtain⟨E,P⟩:∃E,M i I=E:=⟨_,rfl⟩
  rw[x]at W b;rw[P]at X b;clear j k r;have k1:(l==1)=false:=Qf.2 (by omega);have k2:(l==10)=false:=Qf.2 (by omega);have k3:2<l:=by omega
  have k4:l<=7:=by omega
  clear z;cases N
  ·cases B
   ·go_wp2_with fail;go_quiet (fail);go_wp2;go_ret;exact⟨Za (by rw[b.o];rfl),below_drewN g _⟩
   ·go_wp2_with fail;go_quiet (fail);go_wp2;go_ret;exact⟨Za (by rw[b.o];rfl),below_drewN g _⟩
  ·go_wp2_with fail;go_quiet (fail);go_wp2;go_ret;exact⟨Za (by rw[b.o];rfl),below_drewN g _⟩
theorem BL.setS(K:BL w mb gp gs c M)(j d:Nat)(m:j<(half c).toNat+1)(hd:d<9):BL (w.setCell ⟨gs,j*9+d,none⟩ (.bool true)) mb gp gs c (HM M j d):=by
 have g:∀b k,b≠gs->(w.setCell ⟨gs,j*9+d,none⟩ (.bool true)).cell? ⟨b,k,none⟩=w.cell? ⟨b,k,none⟩:=λb k l=>QN w ⟨gs,j*9+d,none⟩ ⟨b,k,none⟩ _ (by intro e;exact l (congrArg Addr.block e).symm);refine⟨by simpa using K.lm,by simpa using K.lp,by simpa using K.ls,K.n1,K.n2,K.n3,by rw[g _ _ K.n2];exact K.c0,by rw[g _ _ K.n2];exact K.c1,λq f=>by rw[g _ _ K.n3,J5 (by omega)];exact K.p q f,λq e f i=>?_,λq f=>by rw[World.frozen?_setCell];exact K.fp q f,λq e f i=>by rw[World.frozen?_setCell];exact K.fs q e f i⟩;by_cases k:q=j∧e=d
 ·obtain⟨rfl,rfl⟩:=k;rw[O8];exact Qk _ _ _ (K.s q e f i)
 ·rw[Z1 _ _ _ _ _ (by omega),J5 (by omega)];exact K.s q e f i
theorem BL.setP(K:BL w mb gp gs c M)(j:Nat)(m:j<(half c).toNat+1):BL (w.setCell ⟨gp,j,none⟩ (.bool true)) mb gp gs c (HM M j (-1)):=by
 have g:∀b k,b≠gp->(w.setCell ⟨gp,j,none⟩ (.bool true)).cell? ⟨b,k,none⟩=w.cell? ⟨b,k,none⟩:=λb k l=>QN w ⟨gp,j,none⟩ ⟨b,k,none⟩ _ (by intro e;exact l (congrArg Addr.block e).symm);refine⟨by simpa using K.lm,by simpa using K.lp,by simpa using K.ls,K.n1,K.n2,K.n3,by rw[g _ _ K.n1];exact K.c0,by rw[g _ _ K.n1];exact K.c1,λq f=>?_,λq e f i=>by rw[g _ _ (λk=>K.n3 k.symm),J5 (by omega)];exact K.s q e f i,λq f=>by rw[World.frozen?_setCell];exact K.fp q f,λq e f i=>by rw[World.frozen?_setCell];exact K.fs q e f i⟩;by_cases k:q=j
 ·subst k;rw[O8];exact Qk _ _ _ (K.p q f)
 ·rw[Z1 _ _ _ _ _ (by omega),J5 (by omega)];exact K.p q f
def Vo(g:Nat)(w0:World)(mb gp gs:Nat)(c v:ZB)(h:Nat->Int)(a:Int)(M:Int->Int->Bool)(Q:Prop)(w:World)(e:Ending)(w':World):Prop:=
 ∃(more:Bool) (M':Int->Int->Bool),e=.returned (.bool more)∧BL w' mb gp gs c M'∧AG g w.heap.size w w'∧Kp (Cu c v h a M M' more∧(more=false->Q))
theorem AG.base{g:Nat}{b w':World}(e:Below b.heap.size b w)(h:AG g w.heap.size w w')(f:b.heap.size<=g):Below b.heap.size b w':=e.trans ((h.mono e.size).below f)
theorem Xs(f gl gh gr mb gp gs:Nat)(n a:Int)(t v c:ZB)(lm:Nat->Bool)(h:Nat->Int)(R:Nat->Nat->Bool)(M:Int->Int->Bool)(i j:Nat)(w0 w:World)(H0:Hg w0 f gl gh gr n t v c lm h R)(N:Below w0.heap.size w0 w)(K:BL w mb gp gs c M)(g2:w0.heap.size<=gs)(F:Kp (DZ c v t n h))(am:Kp (∀p d,M p d=true->AC c v h a p d))(U:(i:Int)<half c)(hl:Kp (Aq c i))(hj:Kp ((j:Int)∈AP c i)) :
  Calls prog 207 #[.pointer (some ⟨f,0,none⟩),.pointer (some ⟨mb,0,none⟩),.int .i64 i,.int .i64 j,.int .i64 a] w (Vo gs w0 mb gp gs c v h a M (Jv c v h a M i j) w):=by
 have hh:=(Zn c).1;have hK:=F.o.hK;have hc:=F.o.hc;have hv:=F.o.hv;have hI:=F.o.ins (i:=i) (by omega) U;obtain⟨p1,p2,p3⟩:=F.o.pops U hl.o;obtain⟨⟨t0,t2⟩,⟨az,aA⟩,_⟩:=Hv c i;have hr:=GO F.o.ok;have J:Cq c i j:=⟨by omega,U,hj.o⟩
 have ax:=(hr i j J).2;have aj:Aq c j:=hl.o.step J (by omega);have aw:=F.o.ht.rng j ax aj;have ak:=F.o.ht.step i U hl.o j hj.o;rw[QC]at ak;obtain⟨E,ad⟩:∃E:Nat,h i-Ab c i=E:=⟨(h i-Ab c i).toNat,by omega⟩
 have aF:E<=8:=by omega
 replace J:=Z_ J;have m:Kp (h i-Ab c i=E):=⟨ad⟩
 have aa:3<=bv c (2*i)∧bv c (2*i)<=7->2<=h i∧h i<=8:=λk=>by
  have:Ab c i=2:=by unfold Ab Aj;rw[if_neg (by omega),if_neg (by omega)]
  omega
 have W:=hI.hi;have ae:bv c (2*i)=1->bv c (2*i+1)<v.size:=λk=>(hI.vr (.inl k)).1;have aq:Kp (∀d:Nat,d<E->AC c v h a i d->AC c v h a j d):=⟨λd hd hf=>(Hz c v h a).stay i j d hl.o J.o (by omega) (by rw[QC,m.o];omega) hf⟩
 have ar:Kp (∀l:Int->Int->Bool,(∀p d,l p d=true->AC c v h a p d)->As c i=1->C4 c v h l a i=true->AC c v h a j E):=⟨λl hs T hp=>by
  have:=(Hz c v h a).push i j hl.o J.o T (YV (λd hd=>hs i d hd) hp)
  rwa [QC,m.o]at this⟩
 have H:=H0.step N;have q0:=H.c0;have q1:=H.c1;have q2:=H.c2;have q3:=H.c3;have q4:=H.c4;have q6:=H.c6;have qh:=H.h i (by omega);have aC:(i:Int)<((half c).toNat+1:Nat):=by omega
 have aE:(j:Int)<((half c).toNat+1:Nat):=by omega
 replace ae:=Z_ ae;replace aa:=Z_ aa;clear aw ak aj hI hr;obtain⟨tk,S⟩:∃tk,Ab c i=tk:=⟨_,rfl⟩
 rw[S]at t0 t2 ad p1;have av:Kp (h i=E+tk):=⟨by omega⟩
 replace S:=Z_ S;clear ad;go_in;go_wp2_with fail;have aD:(i:Int)<max (half c) 0+1:=by omega
 go_region_held3 (λw'=>w'.cell? ⟨f,0,none⟩=some (.int .i64 n)∧w'.cell? ⟨f,1,none⟩=some (.string t)∧w'.cell? ⟨f,2,none⟩=some (.string v)∧w'.cell? ⟨f,3,none⟩=some (.string c)∧w'.cell? ⟨f,4,none⟩=some (.int .i64 (half c))∧w'.cell? ⟨f,6,none⟩=some (.slice (some ⟨gh,0,none⟩) ((half c).toNat+1) ((half c).toNat+1))∧w'.cell? ⟨gh,i,none⟩=some (.int .i64 (h i))) (go_keep) ((go_at_call 203;refine(Sc n i t v c _ hc (by omega) U W).mono ?_;rintro e w5 ⟨rfl,ai⟩;rw[show Aj (bv c (2*i))=tk from S.o];have r:Below w.heap.size w w5:=(Qh _ _).drew.trans ai;have u:=H.step r;have a0:=u.c0;have a1:=u.c1;have a2:=u.c2;have a3:=u.c3;have a4:=u.c4;have a6:=u.c6;have ah:=u.h i (by omega)));all_goals
  have wA:IntKind.i64.wrap (h i-tk)=E:=by rw[IntKind.wrap_i64];have:=av.o;omega
  rw[wA];have K5:=K.step r;have ao:=N.trans (r.mono N.size);have ag:AG gs w.heap.size w w5:=AG.of r;have X:Kp (Cu c v h a M M false∧∀e:Nat,e<0->M i e=true->M j e=true):=⟨Cu.refl c v h a M,λe J=>absurd J (by omega)⟩
  clear wA q0 q1 q2 q3 q4 q6 qh a0 a1 a2 a3 a4 a6 ah H u ai r;go_wp2_with fail;go_loopw [12,13] (λmo dv wr=>∃(z:Bool) (d:Nat) (l:Int->Int->Bool),mo=.bool z∧d<=E∧dv=.int .i64 d∧BL wr mb gp gs c l∧AG gs w.heap.size w wr∧Kp (Cu c v h a M l z∧(z=false->∀e:Nat,e<d->M i e=true->M j e=true))) (λ_ dv _=>E-(intOf dv).toNat);case atStart=>exact⟨false,0,M,rfl,by omega,rfl,K5,ag,⟨X.o.1,λ_=>X.o.2⟩⟩
  case round=>
   clear K5 ag X ao;obtain⟨z,d,l,rfl,hd,rfl,I,q,b⟩:=hrel;have an:=q.base N g2;by_cases al:d<E
   ·have ay:(d:Int)<E:=by omega
    have ap:(d:Int)<9:=by omega
    have k1:=I.c1;have si:=I.s i d (by omega) (by omega);have sj:=I.s j d (by omega) (by omega);have fj:=I.fs j d (by omega) (by omega);obtain⟨x,A⟩:∃x,l i d=x:=⟨_,rfl⟩
    obtain⟨y,B⟩:∃y,l j d=y:=⟨_,rfl⟩
    rw[A]at si;rw[B]at sj;by_cases g:x=true∧y=false
    ·obtain⟨rfl,rfl⟩:=g;have hf:AC c v h a i d:=(b.o.1.ok i d A).elim (am.o i d) id;have C:Kp (Cu c v h a M (HM l j d) true):=⟨b.o.1.add (by omega) (by omega) (by omega) B (aq.o d al hf)⟩
     have K2:=I.setS j d (by omega) (by omega);have Y:=q.setCell (j*9+d) (.bool true);replace A:=Z_ A;replace B:=Z_ B;clear b I q hf;go_wp2_with fail;go_roundw;case rel=>exact⟨true,d+1,_,rfl,by omega,by go_num,K2,Y,⟨C.o,λh=>absurd h (by simp)⟩⟩
     case measure=>simp[intOf];omega
    ·have C:Kp (Cu c v h a M l z∧(z=false->∀e:Nat,e<d+1->M i e=true->M j e=true)):=⟨b.o.1,λL e J D=>by
      by_cases k:e=d
      ·subst k;rw[<-b.o.1.no L]at D ⊢;rw[A]at D;rw[B];cases y
       ·exact absurd ⟨D,rfl⟩ g
       ·rfl
      ·exact b.o.2 L e (by omega) D⟩
     replace A:=Z_ A;replace B:=Z_ B;clear b;cases x
     ·go_wp2_with fail;go_roundw;case rel=>exact⟨z,d+1,l,rfl,by omega,by go_num,I,q,C⟩
      case measure=>simp[intOf];omega
     ·have af:y=true:=by cases y;exact absurd ⟨rfl,rfl⟩ g;rfl
      subst af;clear g;go_wp2_with fail;go_roundw;case rel=>exact⟨z,d+1,l,rfl,by omega,by go_num,I,q,C⟩
      case measure=>simp[intOf];omega
   ·have e:d=E:=by omega
    subst e;clear al hd;have u:=H0.step an;have q0:=u.c0;have q1:=u.c1;have q2:=u.c2;have q3:=u.c3;have q4:=u.c4;go_wp2_with fail;refine(Se n i t v c _ hc (by omega) U W).mono ?_;rintro e w6 ⟨rfl,Q⟩;have H6:=u.step Q;have K6:=I.step Q;have O:=q.trans (AG.of (Q.mono q.size));clear q0 q1 q2 q3 q4 u I q Q;have au:Ar (bv c (2*i))=0∨Ar (bv c (2*i))=1:=by unfold Ar;split<;>omega
    have G:Kp (z=false->∀d:Int,0<=d->d<h (i:Int).toNat-Ab c i->M i d=true->M j d=true):=⟨λL e e0 e1 D=>by
     rw[QC,m.o]at e1;have:=b.o.2 L e.toNat (by omega)
     rw[Qj e0]at this;exact this D⟩
    rcases au with T|T
    ·rw[T];have hR:Kp (Cu c v h a M l z∧(z=false->Jv c v h a M i j)):=⟨b.o.1,λL=>⟨G.o L,λk=>by rw[show As c i=Ar (bv c (2*i)) from rfl,T]at k;omega⟩⟩
     clear b G;go_wp2;go_ret;exact⟨z,l,rfl,K6,O,hR⟩
    ·rw[T];have ab:Kp (∀p d,l p d=true->AC c v h a p d):=⟨λp d hd=>(b.o.1.ok p d hd).elim (am.o p d) id⟩
     have aB:d<8:=by have:=F.o.ht.step i U hl.o j hj.o;rw[QC,show As c i=1 from T,m.o]at this;have h2:=F.o.ht.rng j (by omega) (hl.o.step J.o (by omega));omega
     go_wp2_with fail;refine(Xr f gl gh gr mb gp gs n a t v c lm h R l i _ H6 K6 hc hv hK U W ae.o aa.o).mono ?_;rintro e w7 ⟨rfl,Z⟩;have V:=K6.step Z;have P:=O.trans (AG.of (Z.mono O.size));clear H6 K6 O Z;have k1:=V.c1;have sj:=V.s j d (by omega) (by omega);have fj:=V.fs j d (by omega) (by omega);have ap:(d:Int)<9:=by omega
     obtain⟨x,A⟩:∃x,C4 c v h l a i=x:=⟨_,rfl⟩
     obtain⟨y,B⟩:∃y,l j d=y:=⟨_,rfl⟩
     rw[A];rw[B]at sj;by_cases g:x=true∧y=false
     ·obtain⟨rfl,rfl⟩:=g;have C:Kp (Cu c v h a M (HM l j d) true):=⟨b.o.1.add (by omega) (by omega) (by omega) B (ar.o l ab.o T A)⟩
      have K2:=V.setS j d (by omega) (by omega);have Y:=P.setCell (j*9+d) (.bool true);replace A:=Z_ A;replace B:=Z_ B;clear b V P G;go_wp2;go_ret;exact⟨true,_,rfl,K2,Y,⟨C.o,λh=>absurd h (by simp)⟩⟩
     ·have hR:Kp (Cu c v h a M l z∧(z=false->Jv c v h a M i j)):=⟨b.o.1,λL=>⟨G.o L,λ_ hp=>by
       rw[QC,m.o,<-b.o.1.no L,B];rw[<-b.o.1.no L,A]at hp;cases y
       ·exact absurd ⟨hp,rfl⟩ g
       ·rfl⟩⟩
      replace A:=Z_ A;replace B:=Z_ B;clear b G;cases x
      ·go_wp2;go_ret;exact⟨z,l,rfl,V,P,hR⟩
      ·have af:y=true:=by cases y;exact absurd ⟨rfl,rfl⟩ g;rfl
       subst af;clear g;go_wp2;go_ret;exact⟨z,l,rfl,V,P,hR⟩
theorem YD(f gl gh gr mb gp gs:Nat)(n a:Int)(t v c:ZB)(lm:Nat->Bool)(h:Nat->Int)(R:Nat->Nat->Bool)(M:Int->Int->Bool)(i:Nat)(w0 w:World)(H0:Hg w0 f gl gh gr n t v c lm h R)(C:Below w0.heap.size w0 w)(K:BL w mb gp gs c M)(g1:w0.heap.size<=gp)(F:Kp (DZ c v t n h))(ab:Kp (∀p d,M p d=true->AC c v h a p d))(hi:(i:Int)<half c)(hl:Kp (Aq c i))(ai:lm i=true)(h9:bv c (2*i)=9)(Y:Kp (∀p:Nat,(p:Int)<=half c->(R i p=true↔CO c i p))) :
  Calls prog 208 #[.pointer (some ⟨f,0,none⟩),.pointer (some ⟨mb,0,none⟩),.int .i64 i] w (Vo gp w0 mb gp gs c v h a M (NA c h M i) w):=by
 have hh:=(Zn c).1;have hK:=F.o.hK;obtain⟨p1,p2,p3⟩:=F.o.pops hi hl.o;have aj:Ab c i=1:=by unfold Ab Aj;rw[h9];rfl
 obtain⟨N,Z⟩:∃N:Nat,h i-1=N:=⟨(h i-1).toNat,by omega⟩
 have am:(N:Int)<9:=by omega
 have H:=H0.step C;obtain⟨g,ad,gc,X⟩:=H0.r i hi ai h9;have q6:=H.c6;have qh:=H.h i (by omega);have k0:=K.c0;have k1:=K.c1;have kp:=K.p i (by omega);have ks:=K.s i N (by omega) (by omega);have an:(i:Int)<((half c).toNat+1:Nat):=by omega
 have aa:h i=N+1:=by omega
 rw[aa]at qh;have L:Kp (h i-1=N):=⟨Z⟩
 clear p1 p2 p3 aj Z aa;obtain⟨x,T⟩:∃x,M i (-1)=x:=⟨_,rfl⟩
 obtain⟨y,V⟩:∃y,M i N=y:=⟨_,rfl⟩
 rw[T]at kp;rw[V]at ks;by_cases I:x=false∧y=false
 ·obtain⟨rfl,rfl⟩:=I;have hR:Kp (Cu c v h a M M false∧NA c h M i):=⟨Cu.refl c v h a M,λS=>by
   rw[QC,L.o,T,V]at S;rcases S with k|k<;>exact absurd k (by simp)⟩
  replace T:=Z_ T;replace V:=Z_ V;have hU:=λq=>AG.of (b:=gp) (below_drewN (Qh w.heap.size w) q);have D:=λq=>K.step (below_drewN (Qh w.heap.size w) q)
  go_in;go_wp2_with fail;go_quiet (fail);go_wp2;go_ret;exact⟨false,M,rfl,D _,hU _,⟨hR.o.1,λ_=>hR.o.2⟩⟩
 ·have ah:Kp (∀p:Nat,(p:Int)<=half c->CO c i p->AC c v h a p (-1)):=⟨λp hp af=>by
   refine(Hz c v h a).hide i p hl.o (by omega) hi h9 ?_ af (by omega) hp;rw[QC,L.o];cases x
   ·cases y
    ·exact absurd ⟨rfl,rfl⟩ I
    ·exact .inr (ab.o _ _ V)
   ·exact .inl (ab.o _ _ T)⟩
  have ae:=λq=>C.trans ((below_drewN (Qh w.heap.size w) q).mono C.size);have hU:=λq=>AG.of (b:=gp) (below_drewN (Qh w.heap.size w) q)
  have D:=λq=>K.step (below_drewN (Qh w.heap.size w) q);have P:Kp (Cu c v h a M M false∧(∀q:Nat,q<0->CO c i q->M q (-1)=true)):=⟨Cu.refl c v h a M,λq hq=>absurd hq (by omega)⟩
  replace T:=Z_ T;replace V:=Z_ V;have ak:(x=true)∨(x=false∧y=true):=by
   cases x
   ·cases y
    ·exact absurd ⟨rfl,rfl⟩ I
    ·exact .inr ⟨rfl,rfl⟩
   ·exact .inl rfl
  clear I;rcases ak with rfl|⟨rfl,rfl⟩
  all_goals
   go_in;go_wp2_with fail;go_quiet (fail);go_wp2_with fail;go_loopw [7,8] (λmo pv wr=>∃(A:Bool) (p:Nat) (B:Int->Int->Bool),mo=.bool A∧p<=(half c).toNat+1∧pv=.int .i64 p∧BL wr mb gp gs c B∧AG gp w.heap.size w wr∧Kp (Cu c v h a M B A∧(A=false->∀q:Nat,q<p->CO c i q->M q (-1)=true))) (λ_ pv _=>(half c).toNat+1-(intOf pv).toNat);case atStart=>exact⟨false,0,M,rfl,by omega,rfl,D _,hU _,⟨P.o.1,λ_=>P.o.2⟩⟩
   case round=>
    clear D hU P ae q6 qh k0 k1 kp ks H;obtain⟨A,p,B,rfl,hp,rfl,J,u,j⟩:=hrel;have O:=u.base C g1;have H':=H0.step O;have q4:=H'.c4;by_cases Q:(p:Int)<=half c
    ·have q7:=H'.c7;have qg:wr.cell? ⟨gr,i,none⟩=some (.slice (some ⟨g,0,none⟩) ((half c).toNat+1) ((half c).toNat+1)):=by rw[O.cell (p:=⟨gr,i,none⟩) H0.lr];exact gc
     have qr:wr.cell? ⟨g,p,none⟩=some (.bool (R i p)):=by rw[O.cell (p:=⟨g,p,none⟩) ad];exact X p (by omega)
     have k0:=J.c0;have kp:=J.p p (by omega);have fp:=J.fp p (by omega);have ao:(p:Int)<((half c).toNat+1:Nat):=by omega
     have z:=Y.o p Q;obtain⟨x2,U⟩:∃x2,R i p=x2:=⟨_,rfl⟩
     obtain⟨W,l⟩:∃W,B p (-1)=W:=⟨_,rfl⟩
     rw[U]at qr z;rw[l]at kp;replace U:=Z_ U;by_cases m:x2=true∧W=false
     ·obtain⟨rfl,rfl⟩:=m;have E:Kp (Cu c v h a M (HM B p (-1)) true):=⟨j.o.1.add Q (by omega) (by omega) l (ah.o p Q (z.1 rfl))⟩
      have K2:=J.setP p (by omega);have ag:=u.setCell p (.bool true);replace l:=Z_ l;clear j J u z;go_wp2_with fail;go_roundw;case rel=>exact⟨true,p+1,_,rfl,by omega,by go_num,K2,ag,⟨E.o,λh=>absurd h (by simp)⟩⟩
      case measure=>simp[intOf];omega
     ·have E:Kp (Cu c v h a M B A∧(A=false->∀q:Nat,q<p+1->CO c i q->M q (-1)=true)):=⟨j.o.1,λS q hq G=>by
       by_cases k:q=p
       ·subst k;rw[<-j.o.1.no S,l];have:=z.2 G;cases W
        ·exact absurd ⟨this,rfl⟩ m
        ·rfl
       ·exact j.o.2 S q (by omega) G⟩
      replace l:=Z_ l;clear j z;cases x2
      ·go_wp2_with fail;go_roundw;case rel=>exact⟨A,p+1,B,rfl,by omega,by go_num,J,u,E⟩
       case measure=>simp[intOf];omega
      ·have al:W=true:=by cases W;exact absurd ⟨rfl,rfl⟩ m;rfl
       subst al;clear m;go_wp2_with fail;go_roundw;case rel=>exact⟨A,p+1,B,rfl,by omega,by go_num,J,u,E⟩
       case measure=>simp[intOf];omega
    ·have hR:Kp (Cu c v h a M B A∧(A=false->NA c h M i)):=⟨j.o.1,λS _ q h0 h1 G=>by
      have e:((q.toNat:Nat):Int)=q:=Qj h0;have:=j.o.2 S q.toNat (by omega) (by rw[e];exact G)
      rwa [e]at this⟩
     go_wp2;go_ret;exact⟨A,B,rfl,J,u,hR⟩
theorem WD{i:Nat}(g:Ay c)(f:(i:Int)<half c)(wall p:Int):Ac c (Dx c (λj=>BP c i j)) wall p↔Ac c (λx=>x∈AP c i) wall p:=by
 constructor
 ·refine Ac.congr (λx e=>?_);have b:BP c i (x.toNat:Int)=true:=e.2.2;rw[Qj e.1]at b;exact QB b
 ·refine Ac.congr (λx e=>?_);have b:=g i x ⟨by omega,f,e⟩;refine⟨b.1,b.2,?_⟩;show BP c i (x.toNat:Int)=true;rw[Qj b.1];exact Qv e
theorem Xt(n:Int)(i:Nat)(t v c:ZB)(w:World)(E:c.size<=maxLen)(G:half c<=200)(F:(i:Int)<half c)(J:Kp (Ay c))(q:Kp (∀x,Ac c (Bx i) (-1) x->Ac c (Bx x) (-1) (half c))) :
  Calls prog 154 #[.agg #[.int .i64 n,.string t,.string v,.string c,.int .i64 (half c)],.int .i64 i] w λe r=>
   ∃g,e=.returned (.slice (some ⟨g,0,none⟩) ((half c).toNat+1) ((half c).toNat+1))∧w.heap.size<=g∧∃m:Nat->Bool,r.rowIs g 4 ((half c).toNat+1) (λj=>.bool (m j))∧Kp (∀p:Nat,(p:Int)<=half c->(m p=true↔CO c i p))∧Below w.heap.size w r:=by
 have P:=(Zn c).1;have l:=GF.begin n t v c w;go_in;go_wp2_with fail;refine(Wa n i t v c _ E G F J q).mono ?_;rintro e w0 ⟨j,rfl,K,y⟩;replace l:=l.step y;clear y;have V:=l.o.lt;have W:=l.o.c 0 _ rfl;have X:=l.o.c 1 _ rfl;have Y:=l.o.c 2 _ rfl;have Z:=l.o.c 3 _ rfl;have q4:=l.o.c 4 _ rfl;go_wp2_with fail;go_region_held3 (λr=>r.cell? ⟨w.heap.size,0,none⟩=some (.int .i64 n)∧r.cell? ⟨w.heap.size,1,none⟩=some (.string t)∧r.cell? ⟨w.heap.size,2,none⟩=some (.string v)∧r.cell? ⟨w.heap.size,3,none⟩=some (.string c)∧r.cell? ⟨w.heap.size,4,none⟩=some (.int .i64 (half c))) (go_keep) (first|(go_at_call 206;refine(YJ n i t v c _ E (by omega) F G).mono ?_;rintro e w1 ⟨rfl,B,D⟩;have f:=l.step ((Qh _ _).drew.trans D);have Q:=f.o.c 0 _ rfl;have R:=f.o.c 1 _ rfl;have S:=f.o.c 2 _ rfl;have T:=f.o.c 3 _ rfl;have U:=f.o.c 4 _ rfl)|(go_at_call 151;refine(Ll n j _ (λp=>BP c i p) t v c _ E G J B).mono ?_;rintro e w2 ⟨rfl,m,s,I,z⟩;have u:=f.step z;have r0:=u.o.c 0 _ rfl;have r1:=u.o.c 1 _ rfl;have r2:=u.o.c 2 _ rfl;have r3:=u.o.c 3 _ rfl;have r4:=u.o.c 4 _ rfl;replace I:=Z_ I));all_goals
  have C:=f.step z;have O:=f.b.size;have A:Kp (∀p:Nat,(p:Int)<=half c->(m p=true↔CO c i p)):=⟨λp N=>by
   rw[I.o p N,WD J.o F];constructor
   ·intro h;exact⟨j,K.o,h⟩
   ·rintro⟨k,H,h⟩;have L:Ac c (Bx i) (-1) (half c):=q.o i (Ac.start rfl (by omega));rw[EW.unique L K.o H];exact h⟩
  go_wp2;go_ret;exact⟨_,rfl,by omega,m,s,A,C.b⟩
end Go.Proofs.YtcnbifdlkalimabGreat
