/- Lemmas; their conditions stand in each. -/
import Derived.Test.YtcnbifdlkalimabGreatPlnB
namespace Go.Proofs.YtcnbifdlkalimabGreat
open Go.RowKit Go.Proofs.Tryz
variable{a i j n o p sp:Int}{f st:Int->Int}{T:Int->ZB}{k:Nat}{h:Nat->Int}{c d s t u v:ZB}
structure BC where
 pl:Int
 sp:Int
 st:Int->Int
 va:Int->Int
 po:Int->Nat
 lo:Int->List Int
def up{α:Type}(f:Int->α)(k:Int)(x:α):Int->α:=λi=>if i=k then x else f i
theorem Fa{α:Type}(f:Int->α)(k:Int)(x:α):up f k x k=x:=if_pos rfl
theorem DI{α:Type}{f:Int->α}{k:Int}{x:α}(h:i≠k):up f k x i=f i:=if_neg h
def AE(op a b:Int):Int:=if op=3 then (a+b)%256 else if op=4 then (a+256-b)%256 else if op=5 then a*b%256 else if op=6 then (if a<b then 1 else 0) else (if a=b then 1 else 0)
def Zz(c:ZB)(T:Int->ZB)(m:BC):BC:=
 if bv c (2*m.pl)=0 then {m with pl:=m.pl+1,sp:=m.sp+1,st:=up m.st m.sp (bv c (2*m.pl+1))}
 else if bv c (2*m.pl)=1 then {m with pl:=m.pl+1,sp:=m.sp+1,st:=up m.st m.sp (m.va (bv c (2*m.pl+1)))}
 else if bv c (2*m.pl)=2 then {m with pl:=m.pl+1,sp:=m.sp-1,va:=up m.va (bv c (2*m.pl+1)) (m.st (m.sp-1))}
 else if bv c (2*m.pl)=8 then {m with pl:=bv c (2*m.pl+1)}
 else if bv c (2*m.pl)=9 then {m with pl:=if m.st (m.sp-1)=0 then bv c (2*m.pl+1) else m.pl+1,sp:=m.sp-1}
 else if bv c (2*m.pl)=10 then {m with pl:=m.pl+1,sp:=m.sp+1,st:=up m.st m.sp (bv (T (bv c (2*m.pl+1))) (m.po (bv c (2*m.pl+1)))),po:=up m.po (bv c (2*m.pl+1)) (m.po (bv c (2*m.pl+1))+1)}
 else if bv c (2*m.pl)=11 then {m with pl:=m.pl+1,sp:=m.sp-1,lo:=up m.lo (bv c (2*m.pl+1)) (m.lo (bv c (2*m.pl+1))++[m.st (m.sp-1)])}
 else {m with pl:=m.pl+1,sp:=m.sp-1,st:=up m.st (m.sp-2) (AE (bv c (2*m.pl)) (m.st (m.sp-2)) (m.st (m.sp-1)))}
theorem Jj{m:BC}(h:bv c (2*m.pl)=0):Zz c T m={m with pl:=m.pl+1,sp:=m.sp+1,st:=up m.st m.sp (bv c (2*m.pl+1))}:=by unfold Zz;rw[if_pos h]
theorem Jk{m:BC}(h:bv c (2*m.pl)=1):Zz c T m={m with pl:=m.pl+1,sp:=m.sp+1,st:=up m.st m.sp (m.va (bv c (2*m.pl+1)))}:=by unfold Zz;rw[if_neg (by omega),if_pos h]
theorem Jl{m:BC}(h:bv c (2*m.pl)=2):Zz c T m={m with pl:=m.pl+1,sp:=m.sp-1,va:=up m.va (bv c (2*m.pl+1)) (m.st (m.sp-1))}:=by unfold Zz;rw[if_neg (by omega),if_neg (by omega),if_pos h]
theorem Jm{m:BC}(h:bv c (2*m.pl)=8):Zz c T m={m with pl:=bv c (2*m.pl+1)}:=by unfold Zz;rw[if_neg (by omega),if_neg (by omega),if_neg (by omega),if_pos h]
theorem HE{m:BC}(h:bv c (2*m.pl)=9):Zz c T m={m with pl:=if m.st (m.sp-1)=0 then bv c (2*m.pl+1) else m.pl+1,sp:=m.sp-1}:=by unfold Zz;rw[if_neg (by omega),if_neg (by omega),if_neg (by omega),if_neg (by omega),if_pos h]
theorem Ja{m:BC}(h:bv c (2*m.pl)=10):Zz c T m={m with pl:=m.pl+1,sp:=m.sp+1,st:=up m.st m.sp (bv (T (bv c (2*m.pl+1))) (m.po (bv c (2*m.pl+1)))),po:=up m.po (bv c (2*m.pl+1)) (m.po (bv c (2*m.pl+1))+1)}:=by unfold Zz;rw[if_neg (by omega),if_neg (by omega),if_neg (by omega),if_neg (by omega),if_neg (by omega),if_pos h]
theorem Jb{m:BC}(h:bv c (2*m.pl)=11):Zz c T m={m with pl:=m.pl+1,sp:=m.sp-1,lo:=up m.lo (bv c (2*m.pl+1)) (m.lo (bv c (2*m.pl+1))++[m.st (m.sp-1)])}:=by unfold Zz;rw[if_neg (by omega),if_neg (by omega),if_neg (by omega),if_neg (by omega),if_neg (by omega),if_neg (by omega),if_pos h]
theorem Gg{m:BC}(h:3<=bv c (2*m.pl)∧bv c (2*m.pl)<=7):Zz c T m={m with pl:=m.pl+1,sp:=m.sp-1,st:=up m.st (m.sp-2) (AE (bv c (2*m.pl)) (m.st (m.sp-2)) (m.st (m.sp-1)))}:=by unfold Zz;rw[if_neg (by omega),if_neg (by omega),if_neg (by omega),if_neg (by omega),if_neg (by omega),if_neg (by omega),if_neg (by omega)]
structure Bu(c v t:ZB)(n:Int)(h:Nat->Int):Prop where
 ops:∀i:Int,0<=i->i<half c->bv c (2*i)<=11
 rng:Ay c
 ht:Zj c h
 vr:∀i:Int,0<=i->i<half c->bv c (2*i)=1∨bv c (2*i)=2->bv c (2*i+1)<v.size∧Lv n (bv v (bv c (2*i+1)))
 lv:∀i:Int,0<=i->i<half c->bv c (2*i)=10∨bv c (2*i)=11->Lv n (bv c (2*i+1))
 tr:∀a b d:Int,Lv n a->Lv n b->Lv n d->le t n a b=true->le t n b d=true->le t n a d=true
 nb:∀q,¬Bb c v t n h q
 nt:∀q,¬CD c q
def Lo(c v t:ZB)(n:Int)(h:Nat->Int)(o p d:Int):Prop:=∀a,Lv n a->AC c v h a p d->le t n a o=true
structure Cw(c:ZB)(h:Nat->Int)(m:BC):Prop where
 live:Aq c m.pl
 r0:0<=m.pl
 r1:m.pl<=half c
 sp:m.sp=h m.pl.toNat
theorem ZqN{q d:Int}(r:Aq c p)(l:Cq c p q)(b:0<=d)(e:d<h p.toNat-Ab c p)(k:Lo c v t n h o q d):Lo c v t n h o p d:=
 λa g m=>k a g ((Hz c v h a).stay p q d r l b e m)
theorem ZqO{q:Int}(l:Aq c p)(e:Cq c p q)(g:As c p=1)(k:Lo c v t n h o q (h p.toNat-Ab c p))(b:Lv n a)(m:Hc c v h a (AC c v h a) p):le t n a o=true:=
 k a b ((Hz c v h a).push p q l e g m)
theorem ZqP(P:Bu c v t n h)(q:0<=p)(r:p<half c)(w:Aq c p)(x:Lv n o)(m:Lv n (AL c v p))(l:le t n (AL c v p) o=true):Lo c v t n h o p (-1)∧(Bw c p=true->Lo c v t n h o p (h p.toNat-1)):=by
 have g:∀a,Lv n a->(AC c v h a p (-1)∨(Bw c p=true∧AC c v h a p (h p.toNat-1)))->le t n a o=true:=λa b e=>by
  cases k:le t n a (AL c v p)
  ·exact absurd ⟨⟨q,r⟩,w,m.1,a,b,k,e⟩ (P.nb p)
  ·exact P.tr a _ o b m x k l
 exact⟨λa b e=>g a b (.inl e),λy a b e=>g a b (.inr ⟨y,e⟩)⟩
theorem X9{m:BC}(l:bv c (2*m.pl)<=11):(Zz c T m).pl∈AP c m.pl:=by
 have q:=(Zx c (2*m.pl)).1;have b:bv c (2*m.pl)≠8->m.pl+1∈AP c m.pl:=λe=>by unfold AP;rw[if_neg e];split<;>simp
 have g:bv c (2*m.pl)=0∨bv c (2*m.pl)=1∨bv c (2*m.pl)=2∨(3<=bv c (2*m.pl)∧bv c (2*m.pl)<=7)∨bv c (2*m.pl)=8∨bv c (2*m.pl)=9∨bv c (2*m.pl)=10∨bv c (2*m.pl)=11:=by omega
 rcases g with k|k|k|k|k|k|k|k
 ·rw[Jj k];exact b (by omega)
 ·rw[Jk k];exact b (by omega)
 ·rw[Jl k];exact b (by omega)
 ·rw[Gg k];exact b (by omega)
 ·rw[Jm k];unfold AP;rw[if_pos k];simp
 ·rw[HE k];show (if m.st (m.sp-1)=0 then bv c (2*m.pl+1) else m.pl+1)∈AP c m.pl;split
  ·unfold AP;rw[if_neg (by omega)];by_cases e:bv c (2*m.pl+1)=m.pl+1
   ·rw[if_neg (λx=>x.2 e),e];simp
   ·rw[if_pos ⟨k,e⟩];simp
  ·exact b (by omega)
 ·rw[Ja k];exact b (by omega)
 ·rw[Jb k];exact b (by omega)
theorem Pp{m:BC}(e:bv c (2*m.pl)<=11):(Zz c T m).sp=m.sp-Ab c m.pl+As c m.pl:=by
 have g:=(Zx c (2*m.pl)).1;unfold Ab As Aj Ar;have b:bv c (2*m.pl)=0∨bv c (2*m.pl)=1∨bv c (2*m.pl)=2∨(3<=bv c (2*m.pl)∧bv c (2*m.pl)<=7)∨bv c (2*m.pl)=8∨bv c (2*m.pl)=9∨bv c (2*m.pl)=10∨bv c (2*m.pl)=11:=by omega
 rcases b with k|k|k|k|k|k|k|k
 ·rw[Jj k,k];show m.sp+1=_;simp
 ·rw[Jk k,k];show m.sp+1=_;simp
 ·rw[Jl k,k];show m.sp-1=_;simp
 ·rw[Gg k,if_neg (by omega),if_neg (by omega),if_neg (by omega)];show m.sp-1=_;omega
 ·rw[Jm k,k];show m.sp=_;simp
 ·rw[HE k,k];show m.sp-1=_;simp
 ·rw[Ja k,k];show m.sp+1=_;simp
 ·rw[Jb k,k];show m.sp-1=_;simp
theorem ZqQ{m:BC}{d:Int}(e:bv c (2*m.pl)<=11)(hd:d<m.sp-Ab c m.pl):(Zz c T m).st d=m.st d:=by
 have g:=(Zx c (2*m.pl)).1;unfold Ab Aj at hd;have b:bv c (2*m.pl)=0∨bv c (2*m.pl)=1∨bv c (2*m.pl)=2∨(3<=bv c (2*m.pl)∧bv c (2*m.pl)<=7)∨bv c (2*m.pl)=8∨bv c (2*m.pl)=9∨bv c (2*m.pl)=10∨bv c (2*m.pl)=11:=by omega
 rcases b with k|k|k|k|k|k|k|k
 ·rw[Jj k];rw[k]at hd;simp at hd;exact DI (by omega)
 ·rw[Jk k];rw[k]at hd;simp at hd;exact DI (by omega)
 ·rw[Jl k]
 ·rw[Gg k];rw[if_neg (by omega),if_neg (by omega)]at hd;exact DI (by omega)
 ·rw[Jm k]
 ·rw[HE k]
 ·rw[Ja k];rw[k]at hd;simp at hd;exact DI (by omega)
 ·rw[Jb k]
theorem Mv{m:BC}(P:Bu c v t n h)(S:Cw c h m)(b:m.pl<half c):Cw c h (Zz c T m)∧Cq c m.pl (Zz c T m).pl:=by
 have g:=P.ops m.pl S.r0 b;have q:=X9 (T:=T) g;have l:Cq c m.pl (Zz c T m).pl:=⟨S.r0,b,q⟩
 have r:=P.rng _ _ l;have e:((m.pl.toNat:Nat):Int)=m.pl:=Qj S.r0;refine⟨⟨Ac.step S.live l (by omega),r.1,r.2,?_⟩,l⟩;rw[Pp g,S.sp];have:=P.ht.step m.pl.toNat (by rw[e];exact b) (by rw[e];exact S.live) (Zz c T m).pl (by rw[e];exact q);rw[this,e]
structure CV(c v t:ZB)(n:Int)(h:Nat->Int)(o:Int)(m k:BC):Prop where
 va:∀x:Int,0<=x->x<v.size->le t n (bv v x) o=true->m.va x=k.va x
 po:∀l,Lv n l->le t n l o=true->m.po l=k.po l
 lo:∀l,Lv n l->le t n l o=true->m.lo l=k.lo l
theorem Ya{m:BC}(P:Bu c v t n h)(L:Lv n o)(S:Cw c h m)(r:m.pl<half c)(F:¬Lo c v t n h o m.pl (-1)) :
  CV c v t n h o (Zz c T m) m∧∀d,0<=d->d<(Zz c T m).sp->Lo c v t n h o (Zz c T m).pl d->d<m.sp-Ab c m.pl∧Lo c v t n h o m.pl d∧(Zz c T m).st d=m.st d:=by
 have y:=P.ops m.pl S.r0 r;have R:=(Zx c (2*m.pl)).1;obtain⟨Q,E⟩:=Mv (T:=T) P S r;have M:=Pp (T:=T) y;have U:=S.sp;constructor
 ·have q:Lv n (AL c v m.pl)->le t n (AL c v m.pl) o=true->False:=λa b=>F (ZqP P S.r0 r S.live L a b).1;have B:bv c (2*m.pl)=0∨bv c (2*m.pl)=1∨bv c (2*m.pl)=2∨(3<=bv c (2*m.pl)∧bv c (2*m.pl)<=7)∨bv c (2*m.pl)=8∨bv c (2*m.pl)=9∨bv c (2*m.pl)=10∨bv c (2*m.pl)=11:=by omega
  rcases B with k|k|k|k|k|k|k|k
  ·rw[Jj k];exact⟨λ_ _ _ _=>rfl,λ_ _ _=>rfl,λ_ _ _=>rfl⟩
  ·rw[Jk k];exact⟨λ_ _ _ _=>rfl,λ_ _ _=>rfl,λ_ _ _=>rfl⟩
  ·have g:AL c v m.pl=bv v (bv c (2*m.pl+1)):=by unfold AL;rw[if_pos k]
   rw[Jl k];refine⟨λx N O z=>DI (λe=>?_),λ_ _ _=>rfl,λ_ _ _=>rfl⟩;subst e;exact q (by rw[g];exact(P.vr m.pl S.r0 r (.inr k)).2) (by rw[g];exact z)
  ·rw[Gg k];exact⟨λ_ _ _ _=>rfl,λ_ _ _=>rfl,λ_ _ _=>rfl⟩
  ·rw[Jm k];exact⟨λ_ _ _ _=>rfl,λ_ _ _=>rfl,λ_ _ _=>rfl⟩
  ·rw[HE k];exact⟨λ_ _ _ _=>rfl,λ_ _ _=>rfl,λ_ _ _=>rfl⟩
  ·have g:AL c v m.pl=bv c (2*m.pl+1):=by unfold AL;rw[if_neg (by omega),if_pos (.inl k)]
   rw[Ja k];refine⟨λ_ _ _ _=>rfl,λl D z=>DI (λe=>?_),λ_ _ _=>rfl⟩;subst e;exact q (by rw[g];exact D) (by rw[g];exact z)
  ·have g:AL c v m.pl=bv c (2*m.pl+1):=by unfold AL;rw[if_neg (by omega),if_pos (.inr k)]
   rw[Jb k];refine⟨λ_ _ _ _=>rfl,λ_ _ _=>rfl,λl D z=>DI (λe=>?_)⟩;subst e;exact q (by rw[g];exact D) (by rw[g];exact z)
 ·intro d C H A;have K:=Hv c m.pl;have w:d<m.sp-Ab c m.pl:=by
   by_cases e:d<m.sp-Ab c m.pl
   ·exact e
   ·exfalso;have J:As c m.pl=1:=by omega
    have hd:d=h m.pl.toNat-Ab c m.pl:=by omega
    rw[hd]at A;exact F (λa G I=>ZqO S.live E J A G (.inl I))
  exact⟨w,ZqN S.live E C (by omega) A,ZqQ y w⟩
theorem CV.symm{m k:BC}(H:CV c v t n h o m k):CV c v t n h o k m:=
 ⟨λx a b d=>(H.va x a b d).symm,λl a b=>(H.po l a b).symm,λl a b=>(H.lo l a b).symm⟩
theorem CV.trans{m k j:BC}(H:CV c v t n h o m k)(K:CV c v t n h o k j):CV c v t n h o m j:=
 ⟨λx a b d=>(H.va x a b d).trans (K.va x a b d),λl a b=>(H.po l a b).trans (K.po l a b),λl a b=>(H.lo l a b).trans (K.lo l a b)⟩
def Me(c:ZB)(T:Int->ZB):Nat->BC->BC
 | 0,m=>m
 | k+1,m=>if m.pl=half c then m else Me c T k (Zz c T m)
theorem IS{m:BC}(h:m.pl=half c):∀k,Me c T k m=m
 | 0=>rfl
 | k+1=>by unfold Me;rw[if_pos h]
theorem Ii{m:BC}(h:m.pl≠half c)(k:Nat):Me c T (k+1) m=Me c T k (Zz c T m):=by show (if m.pl=half c then m else Me c T k (Zz c T m))=_;rw[if_neg h]
structure GJ(c v t:ZB)(n:Int)(h:Nat->Int)(o i j:Int)(m0 m:BC):Prop where
 S:Cw c h m
 rg:m.pl=j∨Ac c (λx=>x∈AP c i) j m.pl
 al:CV c v t n h o m m0
 st:∀d,0<=d->d<m.sp->Lo c v t n h o m.pl d->d<m0.sp∧Lo c v t n h o i d∧m.st d=m0.st d
theorem GJ.notEnd{A m:BC}(H:GJ c v t n h o i j A m)(r:EW c i j)(w:0<=i)(y:i<half c)(b:m.pl≠j):m.pl≠half c:=by
 intro e;rcases H.rg with k|k
 ·exact b k
 ·rw[e]at k;exact r.on (k (λx=>Ac c (Bx i) j x) (λx l g=>(Ac.start (S:=Bx i) rfl (λq=>r.ne q.symm)).step ⟨w,y,l⟩ g) (λ_ _ l z g=>l.step z g))
theorem GJ.step{E m:BC}(P:Bu c v t n h)(W:Lv n o)(C:EW c i j)(y:0<=i)(z:i<half c)(V:Aq c i)(N:bv c (2*i)=9)(Q:Lv n a)(U:AC c v h a i (h i.toNat-1))(r:le t n a o=false)
  (H:GJ c v t n h o i j E m) (g:m.pl≠j):GJ c v t n h o i j E (Zz c T m):=by
 have D:=H.notEnd C y z g;have Z:=H.S.r1;have b:m.pl<half c:=by omega
 have l:Ac c (λx=>x∈AP c i) j m.pl:=H.rg.resolve_left g;have q:¬Lo c v t n h o m.pl (-1):=λk=>by have:=k a Q ((Hz c v h a).hide i m.pl V y z N (.inr U) ⟨j,C,l⟩ H.S.r0 H.S.r1);rw[r]at this;exact absurd this (by simp)
 obtain⟨F,R⟩:=Mv (T:=T) P H.S b;obtain⟨A,B⟩:=Ya (T:=T) P W H.S b q;refine⟨F,?_,A.trans H.al,λd w J O=>?_⟩
 ·by_cases e:(Zz c T m).pl=j
  ·exact .inl e
  ·exact .inr (l.step R e)
 ·obtain⟨Y,G,I⟩:=B d w J O;have X:=(Hv c m.pl).1;obtain⟨K,L,M⟩:=H.st d w (by omega) G;exact⟨K,L,I.trans M⟩
theorem GJ.run{w:BC}(P:Bu c v t n h)(C:Lv n o)(q:EW c i j)(g:0<=i)(l:i<half c)(B:Aq c i)(y:bv c (2*i)=9)(z:Lv n a)(A:AC c v h a i (h i.toNat-1))(b:le t n a o=false) :
  ∀(k:Nat) (m:BC),GJ c v t n h o i j w m->(∃r x,r<=k∧GJ c v t n h o i j w x∧x.pl=j∧Me c T k m=Me c T (k-r) x)∨(GJ c v t n h o i j w (Me c T k m)∧(Me c T k m).pl≠half c)
 | 0,m,H=>by
  by_cases e:m.pl=j
  ·exact .inl ⟨0,m,Qb _,H,e,rfl⟩
  ·exact .inr ⟨H,H.notEnd q g l e⟩
 | k+1,m,H=>by
  by_cases e:m.pl=j
  ·exact .inl ⟨0,m,by omega,H,e,rfl⟩
  ·rw[Ii (H.notEnd q g l e)];rcases GJ.run P C q g l B y z A b k (Zz c T m) (H.step P C q g l B y z A b e) with ⟨r,x,I,D,E,F⟩|G
   ·exact .inl ⟨r+1,x,by omega,D,E,by rw[F,show k+1-(r+1)=k-r from by omega]⟩
   ·exact .inr G
def numM(c:ZB)(T:Int->ZB):Nat->BC->Nat
 | 0,_=>0
 | k+1,m=>if m.pl=half c then 0 else numM c T k (Zz c T m)+1
theorem Mw{m:BC}(h:m.pl=half c):∀k,numM c T k m=0
 | 0=>rfl
 | k+1=>by unfold numM;rw[if_pos h]
theorem MF{m:BC}(h:m.pl≠half c)(k:Nat):numM c T (k+1) m=numM c T k (Zz c T m)+1:=by show (if m.pl=half c then 0 else numM c T k (Zz c T m)+1)=_;rw[if_neg h]
theorem OD(c:ZB)(T:Int->ZB):∀(a b:Nat) (m:BC),Me c T (a+b) m=Me c T b (Me c T a m)
 | 0,b,m=>by rw[QT];rfl
 | a+1,b,m=>by
  by_cases h:m.pl=half c
  ·rw[IS h,IS h,IS h]
  ·rw[show a+1+b=(a+b)+1 from by omega,Ii h,Ii h];exact OD c T a b _
theorem Rt(c:ZB)(T:Int->ZB):∀(a b:Nat) (m:BC),(Me c T a m).pl=half c->numM c T (a+b) m=numM c T a m
 | 0,b,m,h=>by have g:m.pl=half c:=h;rw[Mw g,Mw g]
 | a+1,b,m,h=>by
  by_cases e:m.pl=half c
  ·rw[Mw e,Mw e]
  ·rw[Ii e]at h;rw[show a+1+b=(a+b)+1 from by omega,MF e,MF e,Rt c T a b _ h]
def start:BC:=⟨0,0,λ_=>0,λ_=>0,λ_=>0,λ_=>[]⟩
theorem Ru(P:Bu c v t n h):Cw c h start:=
 ⟨Ac.start rfl (by show (0:Int)≠-1;omega),QP _,(Zn c).1,P.ht.zero.symm⟩
structure DR(m:BC):Prop where
 st:∀d,0<=m.st d∧m.st d<=255
 va:∀x,0<=m.va x∧m.va x<=255
 lo:∀l x,x∈m.lo l->0<=x∧x<=255
theorem RO:DR start:=⟨λ_=>by show (0:Int)<=0∧(0:Int)<=255;omega,λ_=>by show (0:Int)<=0∧(0:Int)<=255;omega,λl x b=>absurd b (by show ¬x∈([]:List Int);simp)⟩
theorem LQ{p:Int->Prop}{k x:Int}(h:∀d,p (f d))(b:p x):∀d,p (up f k x d):=λd=>by
 by_cases e:d=k
 ·subst e;rw[Fa];exact b
 ·rw[DI e];exact h d
theorem Rv(op a b:Int):0<=AE op a b∧AE op a b<=255:=by
 unfold AE;split
 ·omega
 split
 ·omega
 split
 ·have:=Int.emod_nonneg (a*b) (show (256:Int)≠0 by omega);have:=Int.emod_lt_of_pos (a*b) (show (0:Int)<256 by omega);omega
 split
 ·split<;>omega
 ·split<;>omega
theorem Yb{m:BC}(V:DR m):DR (Zz c T m):=by
 have g:∀(s:ZB) (k:Int),0<=bv s k∧bv s k<=255:=λs k=>by have:=Zx s k;omega
 unfold Zz;split
 ·exact⟨LQ (p:=λx=>0<=x∧x<=255) V.st (g _ _),V.va,V.lo⟩
 split
 ·exact⟨LQ (p:=λx=>0<=x∧x<=255) V.st (V.va _),V.va,V.lo⟩
 split
 ·exact⟨V.st,LQ (p:=λx=>0<=x∧x<=255) V.va (V.st _),V.lo⟩
 split
 ·exact⟨V.st,V.va,V.lo⟩
 split
 ·exact⟨V.st,V.va,V.lo⟩
 split
 ·exact⟨LQ (p:=λx=>0<=x∧x<=255) V.st (g _ _),V.va,V.lo⟩
 split
 ·refine⟨V.st,V.va,λl x b=>?_⟩;by_cases e:l=bv c (2*m.pl+1)
  ·subst e;have b:x∈up m.lo (bv c (2*m.pl+1)) (m.lo (bv c (2*m.pl+1))++[m.st (m.sp-1)]) (bv c (2*m.pl+1)):=b;rw[Fa,QI,QA]at b;rcases b with b|b
   ·exact V.lo _ x b
   ·rw[b];exact V.st _
  ·have b:x∈up m.lo (bv c (2*m.pl+1)) (m.lo (bv c (2*m.pl+1))++[m.st (m.sp-1)]) l:=b;rw[DI e]at b;exact V.lo l x b
 ·exact⟨LQ (p:=λx=>0<=x∧x<=255) V.st (Rv _ _ _),V.va,V.lo⟩
structure CC(c d v u:ZB):Prop where
 hf:half d=half c
 op:∀i:Int,0<=i->i<half c->bv d (2*i)=bv c (2*i)
 ar:∀i:Int,0<=i->i<half c->¬(bv c (2*i)=1∨bv c (2*i)=2)->bv d (2*i+1)=bv c (2*i+1)
 va:∀i:Int,0<=i->i<half c->bv c (2*i)=1∨bv c (2*i)=2->bv u (bv d (2*i+1))=bv v (bv c (2*i+1))
theorem CC.nxt(H:CC c d v u)(b:0<=i)(g:i<half c):AP d i=AP c i:=by
 unfold Go.Proofs.YtcnbifdlkalimabGreat.AP;rw[H.op i b g];by_cases e:bv c (2*i)=1∨bv c (2*i)=2
 ·rw[if_neg (by omega),if_neg (λk=>by have:=k.1;omega),if_neg (by omega),if_neg (λk=>by have:=k.1;omega)]
 ·rw[H.ar i b g e]
theorem CC.edge(H:CC c d v u):Cq d=Cq c:=by
 funext i j;unfold Cq;rw[H.hf];apply propext;constructor
 ·rintro⟨a,b,e⟩;exact⟨a,b,by rwa [H.nxt a b]at e⟩
 ·rintro⟨a,b,e⟩;exact⟨a,b,by rwa [H.nxt a b]⟩
theorem CC.reach(H:CC c d v u):Ac d=Ac c:=by funext S w j;unfold Ac;rw[H.edge]
theorem CC.live(H:CC c d v u):Aq d=Aq c:=by funext i;unfold Aq;rw[H.reach]
theorem CC.isJ(H:CC c d v u)(i j:Int):EW d i j↔EW c i j:=by
 constructor
 ·intro k;refine⟨k.lo,by rw[<-H.hf];exact k.hi,k.ne,λh=>k.on (by rw[H.reach,H.hf];exact h),λb g l m q r e=>k.first b g (by rw[H.hf];exact l) m q (λh=>r (by rw[H.reach,H.hf]at h;exact h)) (by rw[H.reach];exact e)⟩
 ·intro k;refine⟨k.lo,by rw[H.hf];exact k.hi,k.ne,λh=>k.on (by rw[H.reach,H.hf]at h;exact h),λb g l m q r e=>k.first b g (by rw[<-H.hf];exact l) m q (λh=>r (by rw[H.reach,H.hf];exact h)) (by rw[H.reach]at e;exact e)⟩
theorem CC.reg(H:CC c d v u)(e:0<=i)(g:i<half c)(p:Int):CO d i p↔CO c i p:=by
 unfold CO;rw[H.nxt e g,H.reach];constructor
 ·rintro⟨j,a,b⟩;exact⟨j,(H.isJ i j).1 a,b⟩
 ·rintro⟨j,a,b⟩;exact⟨j,(H.isJ i j).2 a,b⟩
theorem CC.takes(H:CC c d v u)(b:0<=i)(e:i<half c):Ab d i=Ab c i:=by unfold Ab;rw[H.op i b e]
theorem CC.gives(H:CC c d v u)(b:0<=i)(e:i<half c):As d i=As c i:=by unfold As;rw[H.op i b e]
theorem CC.heights(H:CC c d v u)(K:Zj c h):Zj d h:=by
 refine⟨K.zero,λi b e=>K.rng i (by rw[<-H.hf];exact b) (by rw[<-H.live];exact e),λe=>by rw[H.hf];exact K.fin (by rw[H.live,H.hf]at e;exact e),λi b e=>?_,λi b e j g=>?_⟩
 ·rw[H.hf]at b;rw[H.takes (by omega) b];exact K.pops i b (by rw[<-H.live];exact e)
 ·rw[H.hf]at b;rw[H.takes (by omega) b,H.gives (by omega) b];exact K.step i b (by rw[<-H.live];exact e) j (by rw[<-H.nxt (by omega) b];exact g)
theorem CC.fcl(H:CC c d v u){P:Int->Int->Prop}(K:IF c v h a P):IF d u h a P:=by
 refine⟨λi j e g b m l q=>?_,λi j g b y r=>?_,λi p g m l x q A B z=>?_⟩
 ·rw[H.live]at g;rw[H.edge]at b;rw[H.takes b.1 b.2.1]at l;exact K.stay i j e g b m l q
 ·rw[H.live]at g;rw[H.edge]at b;rw[H.gives b.1 b.2.1]at y;rw[H.takes b.1 b.2.1];refine K.push i j g b y ?_;unfold Hc at r ⊢;rw[H.op i b.1 b.2.1]at r;rcases r with k|⟨k,w⟩|⟨k,w⟩|k
  ·exact .inl k
  ·exact .inr (.inl ⟨k,by rw[<-H.va i b.1 b.2.1 (.inl k)];exact w⟩)
  ·exact .inr (.inr (.inl ⟨k,by rw[<-H.ar i b.1 b.2.1 (by omega)];exact w⟩))
  ·exact .inr (.inr (.inr k))
 ·rw[H.live]at g;rw[H.hf]at l z;rw[H.op i m l]at x;exact K.hide i p g m l x q ((H.reg m l p).1 A) B z
theorem CC.symm(H:CC c d v u):CC d c u v:=
 ⟨H.hf.symm,λi b e=>(H.op i b (by rw[<-H.hf];exact e)).symm,λi b e k=>(H.ar i b (by rw[<-H.hf];exact e) (by rw[<-H.op i b (by rw[<-H.hf];exact e)];exact k)).symm,λi b e k=>(H.va i b (by rw[<-H.hf];exact e) (by rw[<-H.op i b (by rw[<-H.hf];exact e)];exact k)).symm⟩
theorem CC.flow(H:CC c d v u){e:Int}(K:AC c v h a p e):AC d u h a p e:=λP b=>K P (H.symm.fcl b)
theorem CC.sinkTo(H:CC c d v u)(g:0<=i)(l:i<half c):AL d u i=AL c v i:=by
 unfold Go.Proofs.YtcnbifdlkalimabGreat.AL;rw[H.op i g l];by_cases e:bv c (2*i)=2
 ·rw[if_pos e,if_pos e,H.va i g l (.inr e)]
 ·rw[if_neg e,if_neg e];by_cases b:bv c (2*i)=10∨bv c (2*i)=11
  ·rw[if_pos b,if_pos b,H.ar i g l (by omega)]
  ·rw[if_neg b,if_neg b]
theorem CC.breaks(H:CC c d v u)(K:Bb c v t n h i):Bb d u t n h i:=by
 obtain⟨⟨e,g⟩,r,w,a,q,l,b⟩:=K;refine⟨⟨e,by rw[H.hf];exact g⟩,by rw[H.live];exact r,by rw[H.sinkTo e g];exact w,a,q,by rw[H.sinkTo e g];exact l,?_⟩;rcases b with b|⟨m,b⟩
 ·exact .inl (H.flow b)
 ·exact .inr ⟨by unfold Bw at m ⊢;rw[H.op i e g];exact m,H.flow b⟩
theorem CC.trap(H:CC c d v u)(K:CD c i):CD d i:=
 ⟨⟨K.1.1,by rw[H.hf];exact K.1.2⟩,by rw[H.live];exact K.2.1,by rw[H.reach,H.hf];exact K.2.2⟩
theorem CC.code{e:Int}(H:CC c d v u)(K:Gq c v t n p e):Gq d u t n p e:=by
 rcases K with ⟨a,b,k⟩|⟨w,K⟩
 ·exact .inl ⟨a,H.trap b,λq m r=>k q m (H.symm.trap r)⟩
 ·refine .inr ⟨λq r=>w q (H.symm.trap r),?_⟩;rcases K with ⟨a,b,k⟩|⟨h,l,K⟩
  ·exact .inl ⟨a,b,λ⟨h,l⟩=>k ⟨h,H.symm.heights l⟩⟩
  ·refine .inr ⟨h,H.heights l,?_⟩;rcases K with ⟨a,b,k⟩|⟨a,b,k⟩
   ·exact .inl ⟨a,H.breaks b,λq m g=>k q m (H.symm.breaks g)⟩
   ·exact .inr ⟨a,b,λq g=>k q (H.symm.breaks g)⟩
theorem Yc{m:BC}{l:Int}(P:Bu c v t n h)(S:Cw c h m)(b:m.pl<half c)(r:¬Lv n l):(Zz c T m).lo l=m.lo l:=by
 by_cases e:bv c (2*m.pl)=11
 ·rw[Jb e];exact DI (λk=>r (by rw[k];exact P.lv m.pl S.r0 b (.inr e)))
 ·have q:=P.ops m.pl S.r0 b;have w:=(Zx c (2*m.pl)).1;have g:bv c (2*m.pl)=0∨bv c (2*m.pl)=1∨bv c (2*m.pl)=2∨(3<=bv c (2*m.pl)∧bv c (2*m.pl)<=7)∨bv c (2*m.pl)=8∨bv c (2*m.pl)=9∨bv c (2*m.pl)=10:=by omega
  rcases g with z|z|z|z|z|z|z
  ·rw[Jj z]
  ·rw[Jk z]
  ·rw[Jl z]
  ·rw[Gg z]
  ·rw[Jm z]
  ·rw[HE z]
  ·rw[Ja z]
theorem Od{c v t:ZB}{T:Int->ZB}{n:Int}{h:Nat->Int}(P:Bu c v t n h):∀(k:Nat) (m:BC),Cw c h m->DR m->Cw c h (Me c T k m)∧DR (Me c T k m)∧∀l,¬Lv n l->(Me c T k m).lo l=m.lo l
 | 0,m,S,V=>⟨S,V,λ_ _=>rfl⟩
 | k+1,m,S,V=>by
  by_cases e:m.pl=half c
  ·rw[IS e];exact⟨S,V,λ_ _=>rfl⟩
  ·have r:=S.r1;have g:m.pl<half c:=by omega
   rw[Ii e];obtain⟨a,b,d⟩:=Od (T:=T) P k _ (Mv (T:=T) P S g).1 (Yb (c:=c) (T:=T) V);exact⟨a,b,λl q=>(d l q).trans (Yc P S g q)⟩
def CM(f:Int->Int)(k:Nat):List Int:=(List.range k).map λi=>f (i:Nat)
theorem Pq(f:Int->Int)(k:Nat):(CM f k).length=k:=by simp[CM]
theorem OE(f:Int->Int)(k:Nat):CM f (k+1)=CM f k++[f k]:=by unfold CM;rw[List.range_succ];simp
theorem Sy{g:Int->Int}(h:∀i:Nat,i<k->f i=g i):CM f k=CM g k:=by unfold CM;apply List.map_congr_left;intro i b;exact h i (Ut.1 b)
theorem ZqR{i:Nat}(h:i<k):(CM f k)[i]?=some (f i):=by unfold CM;simp[h]
def Du(st:Int->Int)(sp:Int):ZB:=bs (CM st sp.toNat)
theorem TF(st:Int->Int)(sp:Int):(Du st sp).size=sp.toNat:=by unfold Du;rw[Zd,Pq]
theorem Ld(x:Int)(h:0<=sp):Du (up st sp x) (sp+1)=Du st sp++bs [x]:=by unfold Du;rw[show (sp+1).toNat=sp.toNat+1 from by omega,OE,Zg,show ((sp.toNat:Nat):Int)=sp from by omega,Fa];congr 2;exact Sy λi b=>DI (by omega)
theorem Y8(a b:ZB):(a++b).extract 0 a.size=a:=by apply ByteArray.ext;rw[Up,QU];show (a.data++b.data).extract 0 a.data.size=a.data;simp
theorem LL(h:1<=sp):(Du st sp).extract 0 (sp-1).toNat=Du st (sp-1):=by
 have e:Du st sp=Du st (sp-1)++bs [st (sp-1)]:=by
  have:=Ld (st:=st) (sp:=sp-1) (st (sp-1)) (by omega);rw[show sp-1+1=sp from by omega]at this;rw[<-this];unfold Du;congr 1;exact Sy λi b=>by
   by_cases k:(i:Int)=sp-1
   ·rw[k,Fa]
   ·rw[DI k]
 rw[e];have:=Y8 (Du st (sp-1)) (bs [st (sp-1)]);rw[TF]at this;exact this
theorem TX{k:Int}(g:0<=k)(h:k<sp)(b:0<=st k∧st k<=255):bv (Du st sp) k=st k:=by
 have e:((k.toNat:Nat):Int)=k:=by omega
 have:=Nt (L:=CM st sp.toNat) (k:=k.toNat) (x:=st k) (by rw[ZqR (by omega),e]) b.1 b.2;rw[e]at this;exact this
theorem ZqS(x:Int)(h:2<=sp):(Du st sp).extract 0 (sp-2).toNat++bs [x]=Du (up st (sp-2) x) (sp-1):=by have a:=Ld (st:=st) (sp:=sp-2) x (by omega);rw[show sp-2+1=sp-1 from by omega]at a;rw[a];congr 1;have b:=LL (st:=st) (sp:=sp) (by omega);have c:=LL (st:=st) (sp:=sp-1) (by omega);rw[<-b]at c;rw[show sp-1-1=sp-2 from by omega]at c;rw[<-c,ByteArray.extract_extract];congr 1;omega
theorem Zs3(s:ZB)(k:Nat):tl (tl s k) 1=tl s ((k+1:Nat):Int):=by
 unfold tl;rw[ByteArray.extract_extract];congr 1;have:(s.extract (k:Int).toNat s.size).size=s.size-k:=by rw[QX];simp
 rw[this];omega
theorem TL{k:Int}(h:(s.size:Int)<=k):bv s k=0:=by
 unfold bv DP;have:s.data.toList.length=s.size:=by simp
 rw[List.getD,Uh (by rw[this];omega)];rfl
theorem Zs4(h:k<s.size):bv (tl s k) 0=bv s k:=by unfold bv tl;have:=M8 s k s.size 0 (Qb _) (by omega);simp at this ⊢;rw[this]
theorem Ps(h:s.size<=k):tl s k={data:=#[]}:=by apply ByteArray.ext;unfold tl;rw[Up];have:s.data.size<=k:=h;simp;omega
theorem ZqT(s:ZB):tl s 0=s:=by unfold tl;simp
theorem WU(s:ZB)(k:Nat):(tl s k).size=s.size-k:=by unfold tl;rw[QX];simp
def Df(c:ZB)(T:Int->ZB)(f:Nat):Int:=if (Me c T f start).pl=half c then 1 else 2
def BM(c:ZB)(T:Int->ZB)(f:Nat)(l:Int):ZB:=bs ((Me c T f start).lo l)
def Cz(c v:ZB)(T:Int->ZB)(f:Nat):ZB:=bs (CM (Me c T f start).va v.size)
def De(c:ZB)(T:Int->ZB)(f:Nat):Int:=(numM c T f start:Nat)
def Fz(c v:ZB)(T:Int->ZB)(f:Nat):Value:=.agg #[.int .i64 (Df c T f),.int .i64 (De c T f),.string (BM c T f 0),.string (BM c T f 1),.string (BM c T f 2),.string (BM c T f 3),.string (BM c T f 4),.string (BM c T f 5),.string (Cz c v T f)]
def FX:Value:=.agg #[.int .i64 0,.int .i64 0,.string {data:=#[]},.string {data:=#[]},.string {data:=#[]},.string {data:=#[]},.string {data:=#[]},.string {data:=#[]},.string {data:=#[]}]
def EC(T:Int->ZB):Value:=.agg #[.string (T 0),.string (T 1),.string (T 2),.string (T 3),.string (T 4),.string (T 5)]
theorem Y9(c:ZB)(T:Int->ZB)(m:BC)(l:Int):((Zz c T m).lo l).length<=(m.lo l).length+1:=by
 unfold Zz;split
 ·show (m.lo l).length<=_;omega
 split
 ·show (m.lo l).length<=_;omega
 split
 ·show (m.lo l).length<=_;omega
 split
 ·show (m.lo l).length<=_;omega
 split
 ·show (m.lo l).length<=_;omega
 split
 ·show (m.lo l).length<=_;omega
 split
 ·show (up m.lo (bv c (2*m.pl+1)) (m.lo (bv c (2*m.pl+1))++[m.st (m.sp-1)]) l).length<=_;by_cases e:l=bv c (2*m.pl+1)
  ·subst e;rw[Fa];simp
  ·rw[DI e];omega
 ·show (m.lo l).length<=_;omega
theorem Pt(c:ZB)(T:Int->ZB)(l:Int):∀(k:Nat) (m:BC),((Me c T k m).lo l).length<=(m.lo l).length+k
 | 0,m=>Qb _
 | k+1,m=>by
  by_cases e:m.pl=half c
  ·rw[IS e];omega
  ·rw[Ii e];have a:=Pt c T l k (Zz c T m);have b:=Y9 c T m l;omega
theorem Sz{m:BC}(h:(Me c T k m).pl≠half c):Me c T (k+1) m=Zz c T (Me c T k m):=by rw[OD c T k 1 m,Ii h];rfl
theorem SA{m:BC}(h:(Me c T k m).pl=half c)(f:Nat)(b:k<=f):Me c T f m=Me c T k m∧numM c T f m=numM c T k m:=by
 have e:f=k+(f-k):=by omega
 constructor
 ·rw[e,OD,IS h]
 ·rw[e,Rt c T k (f-k) m h]
end Go.Proofs.YtcnbifdlkalimabGreat
