/- Lemmas; their conditions stand in each. -/
import Derived.Test.YtcnbifdlkalimabGreatPrgM
import Derived.Deep.WholeRow
import Derived.Deep.LoopGhost
namespace Go.Proofs.YtcnbifdlkalimabGreat
open Go.RowKit Go.Proofs.Tryz
set_option linter.all false
variable{g:Bool}{bar d k n p q x y:Int}{A A0 T a t:Int->Int}{U:Int->Int->Bool}{S:Int->Prop}{B b o:Nat}{m m':Nat->Bool}{w w' w1:World}{c v:ZB}
def nx1(c:ZB)(k:Int):Int:=if k=half c then half c else if bv c (2*k)=8 then bv c (2*k+1) else k+1
def nx2(c:ZB)(k:Int):Int:=if k=half c then half c else if bv c (2*k)=8∨bv c (2*k)=9 then bv c (2*k+1) else k+1
theorem D8(j:k<half c):q∈AP c k↔q=nx1 c k∨q=nx2 c k:=by
 have f:¬k=half c:=by omega
 by_cases i:bv c (2*k)=8
 ·simp[AP,nx1,nx2,f,i]
 ·by_cases h:bv c (2*k)=9
  ·by_cases e:bv c (2*k+1)=k+1
   ·simp[AP,nx1,nx2,f,h,e]
   ·simp[AP,nx1,nx2,f,h,e]
  ·simp[AP,nx1,nx2,f,i,h]
set_option maxHeartbeats 6400000
theorem XZ(n:Int)(t v c:ZB)(w:World)(f:c.size<=maxLen) :
  Calls prog 114 #[.agg #[.int .i64 n,.string t,.string v,.string c],.int .i64 (half c)] w λe w'=>e=.returned (.tuple #[.int .i64 8,.int .i64 (half c)])∧Below w.heap.size w w':=by
 unfold maxLen at f;have h:=Zn c;have hd:(half c:Int)=(c.size:Int)/2:=rfl;rw[hd]at h ⊢;clear hd;go_in;go_wp2;go_quiet (fail);go_wp2;go_ret2;exact⟨rfl,below_drewN ((Qh _ _).alloc (Qb _) _) _⟩
def FF(c:ZB)(k:Int):Int:=if k=half c then 8 else bv c (2*k)
def En(c:ZB)(k:Int):Int:=if k=half c then half c else bv c (2*k+1)
theorem Vn(n k:Int)(t v c:ZB)(w:World)(f:c.size<=maxLen)(h:0<=k)(i:k<=half c) :
  Calls prog 114 #[.agg #[.int .i64 n,.string t,.string v,.string c],.int .i64 k] w λe w'=>e=.returned (.tuple #[.int .i64 (FF c k),.int .i64 (En c k)])∧Below w.heap.size w w':=by
 by_cases e:k=half c
 ·subst e;rw[show FF c (half c)=8 from if_pos rfl,show En c (half c)=half c from if_pos rfl];exact XZ n t v c w f
 ·rw[show FF c k=bv c (2*k) from if_neg e,show En c k=bv c (2*k+1) from if_neg e];exact HX n k t v c w f h (by omega)
theorem II(n k:Int)(t v c:ZB)(w:World)(C:c.size<=maxLen)(z:half c<=200)(u:0<=k)(s:k<=half c) :
  Calls prog 128 #[.agg #[.int .i64 n,.string t,.string v,.string c],.int .i64 k] w λe w'=>e=.returned (.tuple #[.int .i64 (nx1 c k),.int .i64 (nx2 c k)])∧Below w.heap.size w w':=by
 have i:=λw1=>Vn n k t v c w1 C u s;have j:nx1 c k=if FF c k=8 then En c k else k+1:=by
  unfold nx1 FF En;by_cases e:k=half c
  ·simp[e]
  ·simp[e]
 have l:nx2 c k=if FF c k=8∨FF c k=9 then En c k else k+1:=by
  unfold nx2 FF En;by_cases e:k=half c
  ·simp[e]
  ·simp[e]
 rw[j,l];generalize FF c k=x at *;generalize En c k=y at *;clear j l;have D:k<=200:=by omega
 clear s z;by_cases h:x=8
 ·subst h;rw[if_pos rfl,if_pos (.inl rfl)];go_in;go_wp2_with fail;refine(i _).mono ?_;rintro e w1 ⟨rfl,f⟩;go_wp2;go_ret2;exact⟨rfl,((Qh _ _).alloc (Qb _) _).trans (f.mono (by simp))⟩
 ·rw[if_neg h];by_cases r:x=9
  ·subst r;rw[if_pos (.inr rfl)];go_in;go_wp2_with fail;refine(i _).mono ?_;rintro e w1 ⟨rfl,f⟩;go_wp2;go_ret2;exact⟨rfl,((Qh _ _).alloc (Qb _) _).trans (f.mono (by simp))⟩
  ·rw[if_neg (by omega)];have E:(x==8)=false:=Qf.2 h;have F:(x==9)=false:=Qf.2 r;go_in;go_wp2_with fail;refine(i _).mono ?_;rintro e w1 ⟨rfl,f⟩;go_wp2;go_ret2;exact⟨rfl,((Qh _ _).alloc (Qb _) _).trans (f.mono (by simp))⟩
theorem Og(op:Int)(w:World)(h:0<=op)(i:op<=11) :
  Calls prog 182 #[.int .i64 op] w λe w'=>e=.returned (.int .i64 (Aj op))∧w'=w:=by
 have f:op=0∨op=1∨op=2∨op=3∨op=4∨op=5∨op=6∨op=7∨op=8∨op=9∨op=10∨op=11:=by omega
 rcases f with rfl|rfl|rfl|rfl|rfl|rfl|rfl|rfl|rfl|rfl|rfl|rfl;all_goals
  go_in;go_wp2;go_ret;exact⟨rfl,rfl⟩
theorem NL(op:Int)(w:World)(h:0<=op)(i:op<=11) :
  Calls prog 183 #[.int .i64 op] w λe w'=>e=.returned (.int .i64 (Ar op))∧w'=w:=by
 have f:op=0∨op=1∨op=2∨op=3∨op=4∨op=5∨op=6∨op=7∨op=8∨op=9∨op=10∨op=11:=by omega
 rcases f with rfl|rfl|rfl|rfl|rfl|rfl|rfl|rfl|rfl|rfl|rfl|rfl;all_goals
  go_in;go_wp2;go_ret;exact⟨rfl,rfl⟩
theorem Sv(n k:Int)(t v c:ZB)(w:World)(f:v.size<=maxLen)(l:0<=k)(r:k<v.size) :
  Calls prog 189 #[.agg #[.int .i64 n,.string t,.string v,.string c],.int .i64 k] w λe w'=>e=.returned (.int .i64 (bv v k))∧Below w.heap.size w w':=by
 unfold maxLen at f;have j:((v[k.toNat]'(by omega)).toNat:Int)=bv v k:=Ir v k (by omega);obtain⟨h,i⟩:=Zx v k;generalize bv v k=x at *;go_in;go_wp2;go_ret;exact⟨rfl,(Qh _ _).alloc (Qb _) _⟩
set_option maxRecDepth 100000
structure AG(b B:Nat)(w w':World):Prop where
 os:w'.os=w.os
 tape:w'.tape=w.tape
 output:w'.output=w.output
 size:w.heap.size<=w'.heap.size
 block:∀k,k<B->k≠b->w'.heap[k]?=w.heap[k]?
theorem AG.refl(b B:Nat)(w:World):AG b B w w:=⟨rfl,rfl,rfl,Qb _,λ_ _ _=>rfl⟩
theorem AG.trans{x y z:World}(h:AG b B x y)(k:AG b B y z):AG b B x z:=
 ⟨k.os.trans h.os,k.tape.trans h.tape,k.output.trans h.output,Qg h.size k.size,λi f e=>(k.block i f e).trans (h.block i f e)⟩
theorem AG.of(h:Below B w w'):AG b B w w':=⟨h.os,h.tape,h.output,h.size,λk e _=>h.block k e⟩
theorem AG.mono{e:Nat}(h:AG b B w w')(f:e<=B):AG b e w w':=⟨h.os,h.tape,h.output,h.size,λk j i=>h.block k (Qq j f) i⟩
theorem AG.setCell{x:World}(h:AG b B x w)(o:Nat)(u:Value):AG b B x (w.setCell ⟨b,o,none⟩ u):=
 ⟨h.os,h.tape,h.output,by simpa using h.size,λk f e=>by rw[Below.heap_setCell w ⟨b,o,none⟩ u k e];exact h.block k f e⟩
theorem AG.cell(h:AG b B w w'){p:Addr}(f:p.block<B)(e:p.block≠b):w'.cell? p=w.cell? p:=Qo (w:=w) (h.block p.block f e)
theorem AG.frozen(h:AG b B w w'){p:Addr}(f:p.block<B)(e:p.block≠b):w'.frozen? p=w.frozen? p:=Qz (w:=w) (h.block p.block f e)
theorem AG.below(h:AG b B w w')(f:B<=b):Below B w w':=⟨h.os,h.tape,h.output,h.size,λk e=>h.block k e (by omega)⟩
structure Cp(w:World)(b o:Nat)(m:Nat->Bool):Prop where
 lt:b<w.heap.size
 c:∀j,j<201->w.cell? ⟨b,o+j,none⟩=some (.bool (m j))
 f:∀j,j<201->w.frozen? ⟨b,o+j,none⟩=false
theorem Cp.set(h:Cp w b o m){p:Nat}(l:p<201)(x:Bool):Cp (w.setCell ⟨b,o+p,none⟩ (.bool x)) b o (λj=>if j=p then x else m j):=by
 refine⟨by simpa using h.lt,λj i=>?_,λj i=>by rw[World.frozen?_setCell];exact h.f j i⟩;by_cases e:j=p
 ·subst e;rw[if_pos rfl];exact Qk _ _ _ (h.c j i)
 ·rw[if_neg e,QN w ⟨b,o+p,none⟩ ⟨b,o+j,none⟩ _ (by intro k;have:=congrArg Addr.off k;simp at this;omega)];exact h.c j i
theorem Cp.step(h:Cp w b o m)(e:Below w.heap.size w w1):Cp w1 b o m:=
 ⟨Qq h.lt e.size,λj i=>by rw[e.cell (p:=⟨b,o+j,none⟩) h.lt];exact h.c j i,λj i=>by rw[e.frozen (p:=⟨b,o+j,none⟩) h.lt];exact h.f j i⟩
theorem Cp.but{r:Nat}(h:Cp w b o m)(i:AG r w.heap.size w w1)(e:b≠r):Cp w1 b o m:=
 ⟨Qq h.lt i.size,λj l=>by rw[i.cell (p:=⟨b,o+j,none⟩) h.lt e];exact h.c j l,λj l=>by rw[i.frozen (p:=⟨b,o+j,none⟩) h.lt e];exact h.f j l⟩
theorem AF.but{g:Nat}{vs:List Value}(h:AF w g vs)(j:AG b w.heap.size w w1)(e:g≠b):AF w1 g vs:=
 ⟨Qq h.lt j.size,λi v l=>by rw[j.cell (p:=⟨g,i,none⟩) h.lt e];exact h.c i v l,λi v l=>by rw[j.frozen (p:=⟨g,i,none⟩) h.lt e];exact h.f i v l⟩
theorem IJ(b o:Nat)(m:Nat->Bool)(p:Nat)(w:World)(f:Cp w b o m)(h:p<201) :
  Calls prog 120 #[.pointer (some ⟨b,o,none⟩),.int .i64 p] w λe w'=>e=.returned (.bool (m p))∧w'=w:=by
 have j:=f.c p h;have i:(p:Int)<201:=by omega
 clear f;go_in;go_wp2;go_ret;exact⟨rfl,rfl⟩
theorem LI(b o:Nat)(m:Nat->Bool)(p:Nat)(w:World)(f:Cp w b o m)(j:p<201)(i:m p=true) :
  Calls prog 123 #[.pointer (some ⟨b,o,none⟩),.int .i64 p] w λe w'=>e=.returned (.bool false)∧w'=w:=by
 have h:=f.c p j;rw[i]at h;have l:(p:Int)<201:=by omega
 clear f;go_in;go_wp2;go_ret;exact⟨rfl,rfl⟩
theorem LJ(b o:Nat)(m:Nat->Bool)(p:Nat)(w:World)(h:Cp w b o m)(i:p<201)(l:m p=false) :
  Calls prog 123 #[.pointer (some ⟨b,o,none⟩),.int .i64 p] w λe w'=>e=.returned (.bool true)∧w'=w.setCell ⟨b,o+p,none⟩ (.bool true):=by
 have j:=h.c p i;have s:=h.f p i;rw[l]at j;have r:(p:Int)<201:=by omega
 clear h;go_in;go_wp2;go_ret;exact⟨rfl,rfl⟩
theorem XL(b o:Nat)(m:Nat->Bool)(p:Nat)(w:World)(h:Cp w b o m)(i:p<201)(l:m p=true) :
  Calls prog 184 #[.pointer (some ⟨b,o,none⟩),.int .i64 p] w λe w'=>e=.returned (.bool true)∧w'=w.setCell ⟨b,o+p,none⟩ (.bool false):=by
 have j:=h.c p i;have s:=h.f p i;rw[l]at j;have r:(p:Int)<201:=by omega
 clear h;go_in;go_wp2;go_ret;exact⟨rfl,rfl⟩
theorem XM(b o:Nat)(m:Nat->Bool)(p:Nat)(w:World)(f:Cp w b o m)(j:p<201)(i:m p=false) :
  Calls prog 184 #[.pointer (some ⟨b,o,none⟩),.int .i64 p] w λe w'=>e=.returned (.bool false)∧w'=w:=by
 have h:=f.c p j;rw[i]at h;have l:(p:Int)<201:=by omega
 clear f;go_in;go_wp2;go_ret;exact⟨rfl,rfl⟩
structure DH(c:ZB)(bar:Int)(S:Int->Prop)(m m':Nat->Bool):Prop where
 more:∀j,m j=true->m' j=true
 sound:∀j:Nat,m' j=true->m j=true∨((j:Int)<=half c∧Ac c S bar j)
 begun:∀p:Nat,S p->(p:Int)≠bar->m' p=true
 shut:∀i:Nat,m' i=true->m i=false->∀j:Int,(i:Int)<half c->j∈AP c i->j≠bar->m' j.toNat=true
theorem DH.nothing{p:Nat}(h:(p:Int)≠bar->m p=true):DH c bar (Bx p) m m:=
 ⟨λ_ h=>h,λ_ h=>.inl h,λq s r=>by
  have e:(q:Int)=p:=s;have j:q=p:=by omega
  subst j;exact h r,λi l f=>by rw[l]at f;exact absurd f (by simp)⟩
theorem DH.union{T:Int->Prop}{s:Nat->Bool}(h:DH c bar S m m')(k:DH c bar T m' s):DH c bar (λx=>S x∨T x) m s:=by
 refine⟨λj e=>k.more j (h.more j e),λj e=>?_,λp r l=>?_,λi f u j D e l=>?_⟩
 ·rcases k.sound j e with f|⟨f,u⟩
  ·rcases h.sound j f with z|⟨z,F⟩
   ·exact .inl z
   ·exact .inr ⟨z,F.congr (λ_ C=>.inl C)⟩
  ·exact .inr ⟨f,u.congr (λ_ C=>.inr C)⟩
 ·rcases r with r|r
  ·exact k.more p (h.begun p r l)
  ·exact k.begun p r l
 ·cases E:m' i
  ·exact k.shut i f E j D e l
  ·exact k.more _ (h.shut i E u j D e l)
theorem DH.step{p:Nat}(O:Ay c)(M:(p:Int)<=half c)(D:(p:Int)≠bar)(J:∀x,S x->((p:Int)<half c∧x∈AP c p)∨x=p)(C:(p:Int)<half c->∀x,x∈AP c p->S x)
  (h:DH c bar S (λj=>if j=p then true else m j) m'):DH c bar (Bx p) m m':=by
 have G:m' p=true:=h.more p (by simp);refine⟨λj f=>h.more j (by simp[f]),λj f=>?_,λq N _=>?_,λi l z j E f s=>?_⟩
 ·rcases h.sound j f with l|⟨l,z⟩
  ·by_cases e:j=p
   ·subst e;exact .inr ⟨M,Ac.start rfl D⟩
   ·simp only[if_neg e]at l;exact .inl l
  ·refine .inr ⟨l,z (λx=>Ac c (Bx p) bar x) (λx u H=>?_) (λ_ _ u K P=>u.step K P)⟩;rcases J x u with ⟨F,L⟩|u
   ·exact(Ac.start (S:=Bx p) rfl D).step ⟨by omega,F,L⟩ H
   ·rw[u];exact Ac.start rfl D
 ·have e:(q:Int)=p:=N;have I:q=p:=by omega
  subst I;exact G
 ·by_cases e:i=p
  ·subst e;have r:=O i j ⟨by omega,E,f⟩;have:=h.begun j.toNat (by rw[Qj r.1];exact C E j f) (by rw[Qj r.1];exact s)
   exact this
  ·exact h.shut i l (by simp only[if_neg e];exact z) j E f s
theorem DH.done(E:Ay c)(C:∀x,S x->0<=x)(h:DH c bar S (λ_=>false) m)(j:Nat):m j=true↔(j:Int)<=half c∧Ac c S bar j∨(m j=true∧¬(j:Int)<=half c):=by
 constructor
 ·intro D;rcases h.sound j D with f|f
  ·exact absurd f (by simp)
  ·exact .inl f
 ·rintro(⟨f,z⟩|f)
  ·have:=z (λx=>0<=x∧m x.toNat=true) (λx i r=>?_) (λx y i s r=>?_)
   ·have u:=this.2;rw[QC]at u;exact u
   ·have l:=C x i;exact⟨l,h.begun x.toNat (by rw[Qj l];exact i) (by rw[Qj l];exact r)⟩
   ·have e:((x.toNat:Nat):Int)=x:=Qj i.1;exact⟨(E x y s).1,h.shut x.toNat i.2 rfl y (by rw[e];exact s.2.1) (by rw[e];exact s.2.2) r⟩
  ·exact f.1
theorem DH.iff(l:Ay c)(i:∀x,S x->0<=x)(h:DH c bar S (λ_=>false) m)(j:Nat):m j=true↔(j:Int)<=half c∧Ac c S bar j:=by
 constructor
 ·intro f;rcases h.sound j f with e|e
  ·exact absurd e (by simp)
  ·exact e
 ·intro f;exact(h.done l i j).2 (.inl f)
theorem Kn(i:Ay c)(h:0<=k)(r:k<=half c):(0<=nx1 c k∧nx1 c k<=half c)∧(0<=nx2 c k∧nx2 c k<=half c):=by
 by_cases e:k=half c
 ·have j:nx1 c k=half c:=if_pos e;have l:nx2 c k=half c:=if_pos e;omega
 ·have f:k<half c:=by omega
  exact⟨i k _ ⟨h,f,(D8 f).2 (.inl rfl)⟩,i k _ ⟨h,f,(D8 f).2 (.inr rfl)⟩⟩
theorem Zr6{p:Nat}(l:(p:Int)<=half c):(∀x,(x=nx1 c p∨x=nx2 c p)->((p:Int)<half c∧x∈AP c p)∨x=p)∧((p:Int)<half c->∀x,x∈AP c p->(x=nx1 c p∨x=nx2 c p)):=by
 constructor
 ·intro x h;by_cases e:(p:Int)=half c
  ·have i:nx1 c p=half c:=if_pos e;have j:nx2 c p=half c:=if_pos e;rw[i,j]at h;exact .inr (by omega)
  ·have f:(p:Int)<half c:=by omega
   exact .inl ⟨f,(D8 f).2 h⟩
 ·intro f x h;exact(D8 f).1 h
theorem TV(h:∀j,m j=true->m' j=true)(k:Nat):BG m' k<=BG m k:=by
 induction k with
 | zero=>exact Qb _
 | succ k f=>
  simp only[BG];cases e:m k with
  | false=>cases m' k<;>simp<;>omega
  | true=>rw[h k e];simpa using f
theorem LK(m:Nat->Bool)(k:Nat):BG m k<=k:=by
 induction k with
 | zero=>exact Qb _
 | succ k e=>simp only[BG];split<;>omega
theorem NM(n bar:Int)(b o:Nat)(t v c:ZB)(hc:c.size<=maxLen)(hK:half c<=200)(hr:Kp (Ay c))(k:Nat):∀(m:Nat->Bool) (p:Nat) (w:World),BG m 201<=k->Cp w b o m->(p:Int)<=half c->
  Calls prog 116 #[.pointer (some ⟨b,o,none⟩),.agg #[.int .i64 n,.string t,.string v,.string c],.int .i64 p,.int .i64 bar] w λe w'=>
   e=.returned (.tuple #[])∧∃m':Nat->Bool,Cp w' b o m'∧AG b w.heap.size w w'∧DH c bar (Bx p) m m':=by
 induction k with
 | zero=>
  intro m p w R f W;have J:m p=true:=by
   cases h:m p
   ·have:=Hu (m:=m) (k:=201) (j:=p) (by omega) h;omega
   ·rfl
  have hF:Kp (DH c bar (Bx p) m m):=⟨DH.nothing (λ_=>J)⟩
  replace f:Kp (Cp w b o m):=⟨f⟩
  clear R;have bl:=λo=>(Qh w.heap.size w).alloc (Qb _) o;by_cases Q:(p:Int)=bar
  ·go_in;go_wp2_with fail;first|go_end0|refine Qi (Qp rfl _ _ _) rfl ?_
   exact⟨rfl,m,f.o.step (bl _),AG.of (bl _),hF.o⟩
  ·have ae:((p:Int)==bar)=false:=Qf.2 Q;go_in;go_wp2_with fail;refine(LI b o m p _ (f.o.step (bl _)) (by omega) J).mono ?_;rintro e w1 ⟨rfl,rfl⟩;go_wp2_with fail;first|go_end0|refine Qi (Qp rfl _ _ _) rfl ?_
   exact⟨rfl,m,f.o.step (bl _),AG.of (bl _),hF.o⟩
 | succ k ih=>
  intro m p w R f W;replace f:Kp (Cp w b o m):=⟨f⟩
  have bl:=λo=>(Qh w.heap.size w).alloc (Qb _) o;by_cases Q:(p:Int)=bar
  ·have hF:Kp (DH c bar (Bx p) m m):=⟨DH.nothing (λh=>absurd Q h)⟩
   clear R;go_in;go_wp2_with fail;first|go_end0|refine Qi (Qp rfl _ _ _) rfl ?_
   exact⟨rfl,m,f.o.step (bl _),AG.of (bl _),hF.o⟩
  ·have ae:((p:Int)==bar)=false:=Qf.2 Q;cases J:m p with
   | true=>
    have hF:Kp (DH c bar (Bx p) m m):=⟨DH.nothing (λ_=>J)⟩
    clear R;go_in;go_wp2_with fail;refine(LI b o m p _ (f.o.step (bl _)) (by omega) J).mono ?_;rintro e w1 ⟨rfl,rfl⟩;go_wp2_with fail;first|go_end0|refine Qi (Qp rfl _ _ _) rfl ?_
    exact⟨rfl,m,f.o.step (bl _),AG.of (bl _),hF.o⟩
   | false=>
    have D:Kp (BG (λj=>if j=p then true else m j) 201<=k):=⟨by have:=Hu (m:=m) (k:=201) (j:=p) (by omega) J;omega⟩
    have af:=Kn hr.o (k:=p) (by omega) W;obtain⟨⟨n1,n2⟩,n3,n4⟩:=af;have o0:=AF.new4 w (.int .i64 n) (.string t) (.string v) (.string c) 76;have V:=f.o.lt;clear R;go_in;go_wp2_with fail;refine(LJ b o m p _ (f.o.step (bl _)) (by omega) J).mono ?_;rintro e w1 ⟨rfl,z⟩;have O:Cp w1 b o (λj=>if j=p then true else m j):=by rw[z];exact(f.o.step (bl _)).set (by omega) true
    have E:AG b w.heap.size w w1:=by rw[z];exact(AG.of (bl _)).setCell _ _
    have l:AF w1 w.heap.size [.int .i64 n,.string t,.string v,.string c]:=by rw[z];exact o0.but ((AG.refl b _ _).setCell _ _) (by omega)
    clear z o0;have X:=l.c 0 _ rfl;have Y:=l.c 1 _ rfl;have Z:=l.c 2 _ rfl;have q3:=l.c 3 _ rfl;go_wp2_with fail;refine(II n p t v c _ hc hK (by omega) W).mono ?_;rintro e w2 ⟨rfl,i⟩;have P:=O.step i;have F:=E.trans (AG.of (i.mono E.size));have r:=l.step i;clear X Y Z q3 O l E i;have X:=r.c 0 _ rfl;have Y:=r.c 1 _ rfl;have Z:=r.c 2 _ rfl;have q3:=r.c 3 _ rfl;have L:nx1 c p=((nx1 c p).toNat:Nat):=by omega
    have M:nx2 c p=((nx2 c p).toNat:Nat):=by omega
    replace L:=Z_ L;replace M:=Z_ M;go_wp2_with fail;rw[L.o];refine(ih _ (nx1 c p).toNat w2 D.o P (by omega)).mono ?_;rintro e w3 ⟨rfl,m3,ab,G,s⟩;have u:=r.but G (by omega);have C:=F.trans (G.mono F.size);replace s:=Z_ s;have I:Kp (BG m3 201<=k):=⟨Qg (TV s.o.more 201) D.o⟩
    clear X Y Z q3 P r F G;have X:=u.c 0 _ rfl;have Y:=u.c 1 _ rfl;have Z:=u.c 2 _ rfl;have q3:=u.c 3 _ rfl;go_wp2_with fail;rw[M.o];refine(ih _ (nx2 c p).toNat w3 I.o ab (by omega)).mono ?_;rintro e w4 ⟨rfl,m4,ad,aa,H⟩;replace H:=Z_ H;have N:=C.trans (aa.mono C.size);go_wp2_with fail;first|go_end0|refine Qi (Qp rfl _ _ _) rfl ?_
    refine⟨rfl,m4,ad,N,?_⟩;have hu:=DH.union s.o H.o;have hx:=Zr6 (c:=c) (p:=p) W;refine DH.step hr.o W Q ?_ ?_ hu
    ·intro x K;refine hx.1 x ?_;rcases K with h|h
     ·exact .inl (by have h:x=_:=h;rw[h];exact L.o.symm)
     ·exact .inr (by have h:x=_:=h;rw[h];exact M.o.symm)
    ·intro V x K;rcases hx.2 V x K with h|h
     ·exact .inl (by show x=_;rw[h];exact L.o)
     ·exact .inr (by show x=_;rw[h];exact M.o)
def Bg(n:Nat)(f:Nat->Value):Array Value:=((List.range n).map f).toArray
theorem Oh(n:Nat)(f:Nat->Value):(Bg n f).size=n:=by simp[Bg]
theorem ZqE(n:Nat)(f:Nat->Value)(j:Nat)(h:j<n):(Bg n f).toList[j]?=some (f j):=by simp[Bg,List.getElem?_range h]
theorem IZ(n:Nat)(f:Nat->Value):(Bg n f).toList.length=n:=by simp[Bg]
theorem Zr7(n:Nat)(f:Nat->Value)(h:n≠0):¬Bg n f=#[]:=λe=>h (by have:=congrArg Array.size e;rw[Oh]at this;simpa using this)
theorem ZqF{n:Nat}{f:Nat->Value}{v:Value}(h:v∈(Bg n f).toList):∃j,j<n∧v=f j:=by simp[Bg]at h;obtain⟨j,i,e⟩:=h;exact⟨j,i,e.symm⟩
theorem Zr8{P:Program}(w:World)(b o n:Nat)(f:Nat->Value)(h:∀j,j<n->w.cell? ⟨b,o+j,none⟩=some (f j)) :
  (loadCellsFrom ⟨b,o,none⟩ 0 n #[]).run P w=.ok (Bg n f) w:=by
 have r:(loadCells ⟨b,o,none⟩ ((List.range n).map f).length).run P w=.ok ((List.range n).map f).toArray w:=
  run_loadCells_list (P:=P) w ⟨b,o,none⟩ ((List.range n).map f) (λj v i=>by
   have e:(⟨b,o,none⟩:Addr).add j=⟨b,o+j,none⟩:=by unfold Addr.add;split<;>simp_all
   rw[Ui]at i;by_cases l:j<n
   ·rw[List.getElem?_range l]at i;rw[e,h j l];simpa using i
   ·rw[Uh (by simp;omega)]at i;simp at i)
 rw[List.length_map,List.length_range]at r;exact r
theorem ZpV{P:Program}(w:World)(b o n:Nat)(f:Nat->Value)(h:∀j,j<n->(w.cell? ⟨b,o+j,none⟩).isSome=true)(r:∀j,j<n->w.frozen? ⟨b,o+j,none⟩=false)(l:∀j,j<n->(f j).oneCell'=true) :
  (storeCells ⟨b,o,none⟩ (Bg n f).toList 0).run P w=.ok () (w.setCells b o (Bg n f).toList):=by
 have i:=run_storeCells_cells (P:=P) b o (Bg n f).toList 0 w (by rw[IZ];simpa using h) (by rw[IZ];simpa using r) (λv u=>by obtain⟨j,s,e⟩:=ZqF u;rw[e];exact l j s);rw[Nat.add_zero]at i;exact i
theorem ZE(w:World)(b o n:Nat)(f:Nat->Value)(h:∀j,j<n->(w.cell? ⟨b,o+j,none⟩).isSome=true)(j:Nat)(e:j<n):(w.setCells b o (Bg n f).toList).cell? ⟨b,o+j,none⟩=some (f j):=by have:=World.cell?_setCells_in b (Bg n f).toList o w (by rw[IZ];exact h) j (by rw[IZ];exact e);rw[this];have i:=ZqE n f j e;rw[Qn (by rw[IZ];exact e)]at i;exact i
theorem MM{P:Program}(w:World)(l:TypeId)(d:TypeDesc)(b o n:Nat)(f:Nat->Value)(C:P.underlying l=some d)(hd:(match d with|.struct _|.array _ _=>true|_=>false)=true)(s:(P.info? l).map (·.size)=some n)(h:∀j,j<n->w.cell? ⟨b,o+j,none⟩=some (f j)) :
  (loadVar l ⟨b,o,none⟩).run P w=.ok (.agg (Bg n f)) w:=by
 have u:(loadCells ⟨b,o,none⟩ n).run P w=.ok (Bg n f) w:=Zr8 w b o n f h;cases r:P.info? l with
 | none=>simp[r]at s
 | some i=>
  have z:i.size=n:=by simpa [r] using s
  have e:(isAgg l).run P w=.ok true w:=by unfold isAgg;rw[Ue,run_underlying C w];cases d<;>simp_all
  simp[loadVar,Sem.run_bind,e,sizeOf,typeInfo,r,z,u]
theorem KO{P:Program}{op:Oper}{a:Act}{K:Act->World->Prop}{Q:Exit->Act->World->Prop}(e:TypeId)(x:Operand)(r:op.op=.load e x)
  (b o n:Nat) (f:Nat->Value) (u:a.eval x=.pointer (some ⟨b,o,none⟩)) (d:TypeDesc) (s:P.underlying e=some d) (hd:(match d with|.struct _|.array _ _=>true|_=>false)=true) (l:(P.info? e).map (·.size)=some n)
  (i:∀j,j<n->w.cell? ⟨b,o+j,none⟩=some (f j)) (h:K (a.put op.dst (.agg (Bg n f))) w):op.wp P a w K Q:=by
 unfold Oper.wp execOp;simp only[r,u,Instr.loadAt,Instr.sureAddr,Ue,Sem.run_pure,MM w e d b o n f s hd l i,Uo];exact h
theorem Zp{P:Program}{op:Oper}{a:Act}{K:Act->World->Prop}{Q:Exit->Act->World->Prop}(l:TypeId)(x y:Operand)(D:op.op=.store l x y)
  (b o n:Nat) (f:Nat->Value) (F:a.eval x=.pointer (some ⟨b,o,none⟩)) (G:a.eval y=.agg (Bg n f)) (r:(P.info? l).map (·.size)=some n)
  (u:∀j,j<n->(w.cell? ⟨b,o+j,none⟩).isSome=true) (z:∀j,j<n->w.frozen? ⟨b,o+j,none⟩=false) (s:∀j,j<n->(f j).oneCell'=true) (h:K (a.put op.dst undef) (w.setCells b o (Bg n f).toList)):op.wp P a w K Q:=by
 have C:=ZpV (P:=P) w b o n f u z s;unfold Oper.wp execOp;cases e:P.info? l with
 | none=>simp[e]at r
 | some i=>
  have E:i.size=n:=by simpa [e] using r
  simp[D,F,G,Instr.storeAt,Instr.sureAddr,storeVar,sizeOf,typeInfo,e,Value.cells,E,C,Oh];exact h
theorem Ms{P:Program}{r:Func}{p:Tmp}{i:TypeId}(h:r.results=#[.cell p i])(e:Array Value)(w:World)(b o n:Nat)(f:Nat->Value)(d:TypeDesc)
  (z:e.getD p undef=.pointer (some ⟨b,o,none⟩)) (C:P.underlying i=some d) (hd:(match d with|.struct _|.array _ _=>true|_=>false)=true) (u:(P.info? i).map (·.size)=some n)
  (s:∀j,j<n->w.cell? ⟨b,o+j,none⟩=some (f j)):(results r e).run P w=.ok (.agg (Bg n f)) w:=by
 have l:e[p]?.getD undef=.pointer (some ⟨b,o,none⟩):=by simpa using z
 simp[results,h,l,asAddr,MM w i d b o n f C hd u s]
theorem Hs{x:World}(h:Below B x w)(e:B<=b)(vs:List Value):∀o,Below B x (w.setCells b o vs):=by
 induction vs generalizing w with
 | nil=>exact λ_=>h
 | cons v r f=>exact λo=>f (h.setCell (p:=⟨b,o,none⟩) e v) (o+1)
theorem Z6{x:World}(h:AG b B x w)(vs:List Value):∀o,AG b B x (w.setCells b o vs):=by
 induction vs generalizing w with
 | nil=>exact λ_=>h
 | cons v r e=>exact λo=>e (h.setCell o v) (o+1)
theorem WR(w:World)(g:Nat)(e:Array Value)(t:TypeId)(i:w.heap[g]?=some (.cells e t (0,0))):w.setRow g e=w:=by have h:=run_storeCells_from (P:=prog) g t [] e.size e w i (by simp) (by simp);simp only[storeCells,QS]at h;rw[show e.toList.take e.size=e.toList from Ux (by simp),Array.toArray_toList]at h;have f:Result.ok () w=Result.ok () (w.setRow g e):=h;injection f with _ h3;exact h3.symm
theorem RK(w:World)(g:Nat)(e:Array Value)(t:TypeId)(f:w.heap[g]?=some (.cells e t (0,0)))(i:e.all (·.oneCell')=true) :
  (storeCells ⟨g,0,none⟩ e.toList 0).run prog w=.ok () w:=by
 have h:=run_storeCells_from (P:=prog) g t e.toList 0 e w f (by simp) (λv j=>(Array.all_eq_true_iff_forall_mem.1 i) v (by simpa using j));rw[h];simp only[List.take_zero,List.nil_append,Array.toArray_toList];rw[WR w g e t f]
theorem TW(n:Nat)(v:Value)(h:v.oneCell'=true):(Array.replicate n v).all (·.oneCell')=true:=by rw[Array.all_eq_true];intro i e;simp[h]
theorem Et(w:World)(e f i:Obj):(((w.alloc e).alloc f).alloc i).heap[w.heap.size+1+1]?=some i:=by have h:=heap_alloc_last ((w.alloc e).alloc f) i;rw[show ((w.alloc e).alloc f).heap.size=w.heap.size+1+1 from by simp]at h;exact h
theorem EV(w:World)(e f i:Obj):(((w.alloc e).alloc f).alloc i).heap[w.heap.size+1]?=some f:=by rw[Below.heap_alloc ((w.alloc e).alloc f) i (w.heap.size+1) (by simp)];have h:=heap_alloc_last (w.alloc e) f;rw[show (w.alloc e).heap.size=w.heap.size+1 from by simp]at h;exact h
theorem Cp.of_row{g:Nat}{t:TypeId}(e:w.heap[g]?=some (.cells (Array.replicate 201 (.bool false)) t (0,0))):Cp w g 0 (λ_=>false):=by
 refine⟨(Ug.1 e).1,λj f=>?_,λj f=>?_⟩
 ·rw[QT,cell_of_row w g j _ t (0,0) e,Array.getElem?_replicate,if_pos f]
 ·simp[World.frozen?,e]
theorem JQ:Tryz.zeroCells134=Array.replicate 201 (.bool false):=by rfl
def CR(f:Int->Int)(p v:Int):Int->Int:=λx=>if x=p then v else f x
theorem Ej(f:Int->Int)(p v:Int):CR f p v p=v:=if_pos rfl
theorem Dj{f:Int->Int}{v:Int}(h:x≠p):CR f p v x=f x:=if_neg h
theorem YZ{f:Int->Int}{v:Int}(h:v=f p):CR f p v=f:=by
 funext x;by_cases e:x=p
 ·rw[e,Ej,h]
 ·rw[Dj e]
def ZN(c:ZB)(a:Int->Int)(x d:Int):Prop:=∀P:Int->Prop,P x->(∀y,P y->y≠half c->P (a y))->P d
theorem ZN.refl(c:ZB)(a:Int->Int)(x:Int):ZN c a x x:=λ_ h _=>h
theorem ZN.snoc(h:ZN c a x y)(i:y≠half c):ZN c a x (a y):=λP f e=>e y (h P f e) i
theorem ZN.trans{z:Int}(h:ZN c a x y)(k:ZN c a y z):ZN c a x z:=
 k (λz=>ZN c a x z) h (λ_ f e=>f.snoc e)
theorem ZN.head(e:x≠half c)(h:ZN c a (a x) d):ZN c a x d:=((ZN.refl c a x).snoc e).trans h
theorem ZN.cases(h:ZN c a x d):d=x∨(x≠half c∧ZN c a (a x) d):=
 h (λd=>d=x∨(x≠half c∧ZN c a (a x) d)) (.inl rfl) (λy f e=>by
  rcases f with rfl|⟨i,f⟩
  ·exact .inr ⟨e,ZN.refl _ _ _⟩
  ·exact .inr ⟨i,f.snoc e⟩)
structure Di(c:ZB)(t a:Int->Int):Prop where
 nn:∀x,0<=t x
 fin:t (half c)=1
 pos:∀x,0<t x->0<=x∧x<=half c
 inj:∀x y,0<t x->t x=t y->x=y
 down:∀x,0<t x->x≠half c->0<t (a x)∧t (a x)<t x
 edge:∀x,0<t x->x≠half c->∃q,q∈AP c x∧0<t q∧t q<t x
 via:∀x d,0<t x->x≠half c->d≠x->t d<t (a x)->Ac c (Bx x) d (a x)
 dom:∀x d,0<t x->x≠half c->d≠x->D1 c x d->d=a x∨t d<t (a x)
 lone:∀x q,0<t x->x≠half c->q∈AP c x->t q=0->a x∈AP c x
 full:∀x q,0<=x->x<half c->q∈AP c x->0<t q->0<t x
 ends:∀x,0<t x->Ac c (Bx x) (-1) (half c)
theorem M4(H:Di c t a)(i:0<t x)(h:ZN c a x d):0<t d∧(d=x∨t d<t x):=
 h (λd=>0<t d∧(d=x∨t d<t x)) ⟨i,.inl rfl⟩ (λy f e=>by
  have hd:=H.down y f.1 e;refine⟨hd.1,.inr ?_⟩;rcases f.2 with rfl|j
  ·exact hd.2
  ·omega)
theorem Ji(H:Di c t a)(e:0<t x)(h:ZN c a x d):t d<=t x:=by
 rcases(M4 H e h).2 with rfl|f
 ·exact QP _
 ·omega
theorem ZqG(H:Di c t a)(s:0<t x)(h:ZN c a x y)(hd:d≠x)(j:t d<t y):Ac c (Bx x) d y:=
 (h (λy=>0<t y∧(t d<t y->Ac c (Bx x) d y)) ⟨s,λ_=>Ac.start rfl (λe=>hd e.symm)⟩ (λy l f=>by
  have i:=H.down y l.1 f;refine⟨i.1,λr=>?_⟩;exact(l.2 (by omega)).trans (H.via y d l.1 f (λe=>by subst e;omega) r))).2 j
theorem Nr(H:Di c t a):∀n:Nat,∀x d:Int,t x<=n->0<t x->d≠x->D1 c x d->ZN c a x d:=by
 intro n;induction n with
 | zero=>intro x d u r;omega
 | succ n C=>
  intro x d u r h j;by_cases f:x=half c
  ·exact absurd (Ac.start (c:=c) (S:=Bx x) (wall:=d) (i:=half c) f.symm (λe=>h (by rw[f];exact e.symm))) j
  ·have s:=H.down x r f;rcases H.dom x d r f h j with rfl|l
   ·exact(ZN.refl _ _ _).snoc f
   ·refine ZN.head f (C (a x) d (by omega) s.1 (λe=>by rw[e]at l;omega) (λz=>j ?_));exact(H.via x d r f h l).trans z
theorem NN(i:0<=x)(j:x<half c)(h:D1 c x d)(f:d≠x)(r:q∈AP c x):q=d∨D1 c q d:=by
 by_cases e:q=d
 ·exact .inl e
 ·exact .inr (λl=>h (((Ac.start (S:=Bx x) rfl (λe=>f e.symm)).step ⟨i,j,r⟩ e).trans l))
theorem TA(c:ZB)(x:Int):∃q,q∈AP c x:=by
 unfold AP;split
 ·exact⟨_,QA.2 rfl⟩
 ·split
  ·exact⟨x+1,by simp⟩
  ·exact⟨x+1,by simp⟩
structure FO(c:ZB)(t a:Int->Int)(x m:Int):Prop where
 here:∀q,q∈AP c x->0<t q∧ZN c a q m
 low:∀d,(∀q,q∈AP c x->ZN c a q d)->ZN c a m d
theorem FO.own(H:Di c t a){m:Int}(j:0<=x)(l:x<half c)(M:FO c t a x m):0<t x∧0<t m∧t m<t x:=by obtain⟨q,h⟩:=TA c x;have i:=H.full x q j l h (M.here q h).1;obtain⟨r,f,_,s⟩:=H.edge x i (by omega);have e:=M.here r f;have:=Ji H e.1 e.2;exact⟨i,(M4 H e.1 e.2).1,by omega⟩
theorem Sw(H:Di c t a){m:Int}(u:0<=x)(z:x<half c)(M:FO c t a x m):Di c t (CR a x m):=by
 obtain⟨J,E,C⟩:=M.own H u z;refine⟨H.nn,H.fin,H.pos,H.inj,λy i f=>?_,H.edge,λy d i f hd s=>?_,λy d i f hd j=>?_,λy q i f h D=>?_,H.full,H.ends⟩
 ·by_cases e:y=x
  ·subst e;rw[Ej];exact⟨E,C⟩
  ·rw[Dj e];exact H.down y i f
 ·by_cases e:y=x
  ·subst e;rw[Ej]at s ⊢;obtain⟨q,h⟩:=TA c y;have r:=M.here q h;have F:=Ji H r.1 r.2;have l:q≠d:=λe=>by subst e;omega
   exact((Ac.start (S:=Bx y) rfl (λe=>hd e.symm)).step ⟨u,z,h⟩ l).trans (ZqG H r.1 r.2 (λe=>l e.symm) s)
  ·rw[Dj e]at s ⊢;exact H.via y d i f hd s
 ·by_cases e:y=x
  ·subst e;rw[Ej];have I:=M.low d (λq h=>by
    rcases NN u z j hd h with rfl|G
    ·exact ZN.refl _ _ _
    ·by_cases e:d=q
     ·rw[e];exact ZN.refl _ _ _
     ·exact Nr H (t q).toNat q d (by have:=H.nn q;omega) (M.here q h).1 e G)
   exact(M4 H E I).2
  ·rw[Dj e];exact H.dom y d i f hd j
 ·by_cases e:y=x
  ·subst e;have:=(M.here q h).1;omega
  ·rw[Dj e];exact H.lone y q i f h D
structure HU(c:ZB)(t a:Int->Int)(n:Int):Prop where
 nn:∀x,0<=t x
 fin:t (half c)=1
 pos:∀x,0<t x->0<=x∧x<=half c
 inj:∀x y,0<t x->t x=t y->x=y
 top:∀x,t x<=n
 down:∀x,0<t x->x≠half c->a x∈AP c x∧0<t (a x)∧t (a x)<t x
theorem XN(c:ZB):HU c (CR (λ_=>0) (half c) 1) (CR (λ_=>0) (half c) (half c)) 1:=by
 have s:=(Zn c).1;have f:∀x,CR (λ_=>0) (half c) 1 x=0∨(x=half c∧CR (λ_=>0) (half c) 1 x=1):=λx=>by
  by_cases e:x=half c
  ·subst e;exact .inr ⟨rfl,Ej _ _ _⟩
  ·exact .inl (Dj e)
 refine⟨λx=>?_,Ej _ _ _,λx i=>?_,λx y i l=>?_,λx=>?_,λx i j=>?_⟩
 ·rcases f x with h|⟨_,h⟩<;>omega
 ·rcases f x with h|⟨h,_⟩<;>omega
 ·rcases f x with h|⟨h,r⟩
  ·omega
  ·rcases f y with k|⟨k,u⟩
   ·omega
   ·omega
 ·rcases f x with h|⟨_,h⟩<;>omega
 ·rcases f x with h|⟨h,_⟩<;>omega
theorem Y4(H:HU c t a n)(z:0<=p)(C:p<half c)(r:t p=0)(u:q∈AP c p)(i:0<t q):HU c (CR t p (n+1)) (CR a p q) (n+1):=by
 have D:1<=n:=by have:=H.top (half c);rw[H.fin]at this;exact this
 have l:q≠p:=λe=>by rw[e,r]at i;omega
 refine⟨λx=>?_,?_,λx h=>?_,λx y h f=>?_,λx=>?_,λx h j=>?_⟩
 ·by_cases e:x=p
  ·subst e;rw[Ej];omega
  ·rw[Dj e];exact H.nn x
 ·rw[Dj (by omega)];exact H.fin
 ·by_cases e:x=p
  ·omega
  ·rw[Dj e]at h;exact H.pos x h
 ·by_cases e:x=p
  ·by_cases k:y=p
   ·omega
   ·subst e;rw[Ej,Dj k]at f;have:=H.top y;omega
  ·by_cases k:y=p
   ·subst k;rw[Ej,Dj e]at f;have:=H.top x;omega
   ·rw[Dj e]at h;rw[Dj e,Dj k]at f;exact H.inj x y h f
 ·by_cases e:x=p
  ·subst e;rw[Ej];omega
  ·rw[Dj e];have:=H.top x;omega
 ·by_cases e:x=p
  ·subst e;rw[Ej,Ej,Dj l];have:=H.top q;exact⟨u,i,by omega⟩
  ·rw[Dj e]at h;have hd:=H.down x h j;have s:a x≠p:=λk=>by rw[k,r]at hd;omega
   rw[Dj e,Dj e,Dj s];exact hd
theorem X4(H:HU c t a n)(u:∀x q,0<=x->x<half c->q∈AP c x->0<t q->0<t x):Di c t a:=by
 have G:∀x,0<t x->x≠half c->Cq c x (a x):=λx j f=>by have:=H.pos x j;exact⟨this.1,by omega,(H.down x j f).1⟩
 have s:∀n:Nat,∀x,t x<=n->0<t x->Ac c (Bx x) (-1) (half c):=by
  intro n;induction n with
  | zero=>intro x E r;omega
  | succ n F=>
   intro x E r;have D:=H.pos x r;by_cases e:x=half c
   ·exact Ac.start e.symm (by omega)
   ·have hd:=H.down x r e;exact((Ac.start (S:=Bx x) rfl (by omega)).step (G x r e) (by have:=H.pos _ hd.2.1;omega)).trans (F (a x) (by omega) hd.2.1)
 have C:∀n:Nat,∀x d,t x<=n->0<t x->d≠x->D1 c x d->t d<t x:=by
  intro n;induction n with
  | zero=>intro x d E r;omega
  | succ n F=>
   intro x d E r f l;by_cases e:x=half c
   ·exact absurd (Ac.start (c:=c) (S:=Bx x) (wall:=d) (i:=half c) e.symm (λk=>f (by rw[e];exact k.symm))) l
   ·have hd:=H.down x r e;have D:=H.pos x r;by_cases k:d=a x
    ·subst k;exact hd.2.2
    ·rcases NN D.1 (by omega) l f hd.1 with h|h
     ·exact absurd h.symm k
     ·have:=F (a x) d (by omega) hd.2.1 k h;omega
 refine⟨H.nn,H.fin,H.pos,H.inj,λx j f=>(H.down x j f).2,λx j f=>⟨a x,H.down x j f⟩,λx d j f hd I=>?_,λx d j f hd l=>?_,λx q j f _ _=>(H.down x j f).1,u,λx j=>s (t x).toNat x (by omega) j⟩
 ·exact(Ac.start (S:=Bx x) rfl (λe=>hd e.symm)).step (G x j f) (λe=>by rw[e]at I;omega)
 ·have D:=H.pos x j;have z:=H.down x j f;by_cases k:d=a x
  ·exact .inl k
  ·rcases NN D.1 (by omega) l hd z.1 with h|h
   ·exact absurd h.symm k
   ·exact .inr (C (t (a x)).toNat (a x) d (by omega) z.2.1 k h)
def D3(c:ZB)(t:Int->Int)(U:Int->Int->Bool)(x d:Int):Bool:=
 decide (x=d)||(decide (x≠half c)&&(AP c x).all (λq=>decide (t q=0)||U q d))
theorem ZU:D3 c t U x d=true↔x=d∨(x≠half c∧∀q,q∈AP c x->t q=0∨U q d=true):=by
 unfold D3;rw[QJ,Qr,decide_eq_true_iff,decide_eq_true_iff,List.all_eq_true];constructor
 ·rintro(h|⟨e,f⟩)
  ·exact .inl h
  ·refine .inr ⟨e,λq i=>?_⟩;have:=f q i;rw[QJ,decide_eq_true_iff]at this;exact this
 ·rintro(h|⟨e,f⟩)
  ·exact .inl h
  ·refine .inr ⟨e,λq i=>?_⟩;rw[QJ,decide_eq_true_iff];exact f q i
structure Eh(c:ZB)(t:Int->Int)(U:Int->Int->Bool):Prop where
 trans:∀x y d,U x y=true->U y d=true->U x d=true
 dec:∀x d,D3 c t U x d=true->U x d=true
theorem Eh.begin(c:ZB)(t:Int->Int):Eh c t (λ_ _=>true):=⟨λ_ _ _ _ _=>rfl,λ_ _ _=>rfl⟩
theorem Eh.step(H:Eh c t U):Eh c t (D3 c t U):=by
 refine⟨λx y d l j=>?_,λx d h=>?_⟩
 ·rcases ZU.1 l with rfl|⟨i,e⟩
  ·exact j
  ·refine ZU.2 (.inr ⟨i,λq f=>?_⟩);rcases e q f with h|h
   ·exact .inl h
   ·exact .inr (H.trans q y d h (H.dec y d j))
 ·rcases ZU.1 h with rfl|⟨i,e⟩
  ·exact ZU.2 (.inl rfl)
  ·refine ZU.2 (.inr ⟨i,λq f=>?_⟩);rcases e q f with h|h
   ·exact .inl h
   ·exact .inr (H.dec q d h)
theorem RL(H:Eh c t U){z e:Int}(h:D3 c t U y z=true)(f:y≠z)(l:U z e=true):D3 c t U y e=true:=by
 rcases ZU.1 h with rfl|⟨r,i⟩
 ·exact absurd rfl f
 ·refine ZU.2 (.inr ⟨r,λq j=>?_⟩);rcases i q j with h|h
  ·exact .inl h
  ·exact .inr (H.trans q z e h l)
structure Fk(c:ZB)(t a:Int->Int)(U:Int->Int->Bool)(k:Int):Prop where
 sub:∀x d,0<t x->ZN c a x d->U x d=true
 done:∀x d,k<=x->0<t x->ZN c a x d->D3 c t U x d=true
theorem Sx(H:Di c t a)(l:Eh c t U){m:Int}(D:0<=x)(E:x<half c)(M:FO c t a x m)(P:Fk c t a U (x+1)):Fk c t (CR a x m) U x:=by
 have s:=Sw H D E M;have i:D3 c t U x m=true:=ZU.2 (.inr ⟨by omega,λq u=>.inr (P.sub q m (M.here q u).1 (M.here q u).2)⟩);have C:∀z,0<t z->z≠half c->U z (CR a x m z)=true:=λz h f=>by
  by_cases e:z=x
  ·subst e;rw[Ej];exact l.dec _ _ i
  ·rw[Dj e];exact P.sub z _ h ((ZN.refl _ _ _).snoc f)
 refine⟨λy d j r=>?_,λy d F j r=>?_⟩
 ·exact(r (λz=>0<t z∧U y z=true) ⟨j,P.sub y y j (ZN.refl _ _ _)⟩ (λz h f=>⟨(s.down z h.1 f).1,l.trans y z _ h.2 (C z h.1 f)⟩)).2
 ·refine(r (λz=>0<t z∧D3 c t U y z=true) ⟨j,ZU.2 (.inl rfl)⟩ (λz h f=>⟨(s.down z h.1 f).1,?_⟩)).2;by_cases e:y=z
  ·subst e;by_cases k:y=x
   ·subst k;rw[Ej];exact i
   ·rw[Dj k];exact P.done y _ (by omega) j ((ZN.refl _ _ _).snoc f)
  ·exact RL l h.2 e (C z h.1 f)
theorem X6(H:Di c t a)(F:Eh c t U){s:Int}(j:s∈AP c x)(i:t s=0)(P:Fk c t a U (x+1)):Fk c t a U x:=by
 refine⟨P.sub,λy d K u E=>?_⟩;by_cases k:y=x
 ·subst k;have I:∀z,0<t z->z≠half c->U z (a z)=true:=λz r h=>P.sub z _ r ((ZN.refl _ _ _).snoc h);refine(E (λz=>0<t z∧D3 c t U y z=true) ⟨u,ZU.2 (.inl rfl)⟩ (λz r h=>⟨(H.down z r.1 h).1,?_⟩)).2;by_cases e:y=z
  ·subst e;have l:=H.lone y s u h j i;have G:=(H.down y u h).1;refine ZU.2 (.inr ⟨h,λq f=>?_⟩);by_cases e:q=a y
   ·rw[e];exact .inr (P.sub _ _ G (ZN.refl _ _ _))
   ·refine .inl ?_;have J:s≠a y:=λe=>by rw[e]at i;omega
    suffices q=s by rw[this];exact i
    clear i I E r P H F G;unfold AP at j f l;split at j
    ·rename_i C;rw[if_pos C]at f l;simp only[QA]at j f;omega
    ·rename_i C;rw[if_neg C]at f l;split at j
     ·rename_i D;rw[if_pos D]at f l;simp only[Uc,or_false,QV]at j f l;omega
     ·rename_i D;rw[if_neg D]at f l;simp only[QA]at j f;omega
  ·exact RL F r.2 e (I z r.1 h)
 ·exact P.done y d (by omega) u E
theorem XO(H:Di c t a)(f:∀x d,0<t x->ZN c a x d->U x d=true):Fk c t a U (half c):=by
 refine⟨f,λx d l j i=>?_⟩;have r:=H.pos x j;have e:x=half c:=by omega
 rcases i.cases with h|⟨h,_⟩
 ·exact ZU.2 (.inl h.symm)
 ·exact absurd e h
theorem X7(H:Di c t a)(Z:Eh c t U)(R:∀x d,0<t x->ZN c a x d->U x d=true)(f:∀x d,0<=x->x<=half c->0<=d->d<=half c->U x d=true->D3 c t U x d=true)
  {x m:Int} (Q:0<=x) (W:x<half c) (M:FO c t a x m):m=a x:=by
 obtain⟨N,K,J⟩:=M.own H Q W;have E:=H.pos m K;have s:=(H.down x N (by omega))
 have i:=H.pos (a x) s.1;have G:∀y d,0<t y->0<=d->d<=half c->U y d=true->ZN c a y d:=by
  intro y d hy C D F;by_cases e:d=y
  ·rw[e];exact ZN.refl _ _ _
  ·refine Nr H (t y).toNat y d (by omega) hy e (λY=>?_);have:=Y (λz=>(0<t z->U z d=true)∧z≠d) (λz I j=>⟨λ_=>by rw[show z=y from I];exact F,j⟩) (λz V I l j=>⟨λP=>?_,j⟩)
   ·have X:=this.1 (by rw[H.fin];omega);have hh:=(Zn c).1;rcases ZU.1 (f (half c) d hh (QP _) C D X) with h|⟨h,_⟩
    ·exact this.2 h
    ·exact h rfl
   ·have O:=H.full z V l.1 l.2.1 l.2.2 P;rcases ZU.1 (f z d l.1 (by have:=l.2.1;omega) C D (I.1 O)) with h|⟨_,h⟩
    ·exact absurd h I.2
    ·rcases h V l.2.2 with h|h
     ·omega
     ·exact h
 have L:m≠x:=λe=>by rw[e]at J;omega
 -- a x is common
 have u:∀q,q∈AP c x->ZN c a q (a x):=λq r=>by
  have F:=R x (a x) N ((ZN.refl _ _ _).snoc (by omega));rcases ZU.1 (f x (a x) Q (by omega) i.1 i.2 F) with h|⟨_,h⟩
  ·exact absurd (congrArg t h) (by omega)
  ·rcases h q r with h|h
   ·have:=(M.here q r).1;omega
   ·exact G q (a x) (M.here q r).1 i.1 i.2 h
 have aa:=Ji H K (M.low (a x) u);have F:U x m=true:=Z.dec x m (ZU.2 (.inr ⟨by omega,λq r=>.inr (R q m (M.here q r).1 (M.here q r).2)⟩));rcases(G x m N E.1 E.2 F).cases with h|⟨_,h⟩
 ·exact absurd h L
 ·exact H.inj m (a x) K (by have:=Ji H s.1 h;omega)
def HJ(U:Int->Int->Bool)(x:Int):Nat->Nat
 | 0=>0
 | k+1=>HJ U x k+(if U x k then 1 else 0)
def HG(U:Int->Int->Bool)(k:Nat):Nat->Nat
 | 0=>0
 | j+1=>HG U k j+HJ U j k
theorem ZqH{V:Int->Int->Bool}(h:∀d,V x d=true->U x d=true)(k:Nat):HJ V x k<=HJ U x k∧(HJ V x k=HJ U x k->∀d:Nat,d<k->U x d=true->V x d=true):=by
 induction k with
 | zero=>exact⟨Qb _,λ_ d hd=>by omega⟩
 | succ k l=>
  have s:=h k;cases j:V x k<;>cases i:U x k
  ·simp only[HJ,j,i];refine⟨by simpa using l.1,λe d hd f=>?_⟩;by_cases r:d=k
   ·rw[r,i]at f;exact absurd f (by simp)
   ·exact l.2 (by simpa using e) d (by omega) f
  ·simp only[HJ,j,i];refine⟨by simp;omega,λe=>?_⟩;simp at e;omega
  ·rw[j,i]at s;exact absurd (s rfl) (by simp)
  ·simp only[HJ,j,i];refine⟨by simpa using l.1,λe d hd f=>?_⟩;by_cases r:d=k
   ·rw[r];exact j
   ·exact l.2 (by simpa using e) d (by omega) f
theorem TC{V:Int->Int->Bool}(h:∀x d,V x d=true->U x d=true)(k j:Nat):HG V k j<=HG U k j∧(HG V k j=HG U k j->∀x d:Nat,x<j->d<k->U x d=true->V x d=true):=by
 induction j with
 | zero=>exact⟨Qb _,λ_ x d r=>by omega⟩
 | succ j s=>
  have l:=ZqH (h j) k;simp only[HG];refine⟨by omega,λe x d r hd f=>?_⟩;by_cases i:x=j
  ·rw[i]at f ⊢;exact l.2 (by omega) d hd f
  ·exact s.2 (by omega) x d (by omega) hd f
def Dp(c:ZB)(U:Int->Int->Bool):Nat:=HG U ((half c).toNat+1) ((half c).toNat+1)
theorem XP(H:Di c t a)(j:Eh c t U)(z:∀x d,0<t x->ZN c a x d->U x d=true){m:Int}(l:0<=x)(r:x<half c)(M:FO c t a x m)(f:m≠a x):Dp c (D3 c t U)<Dp c U:=by
 have u:=TC (U:=U) (V:=D3 c t U) (λx d h=>j.dec x d h) ((half c).toNat+1) ((half c).toNat+1);unfold Dp;rcases Nat.lt_or_ge (HG (D3 c t U) ((half c).toNat+1) ((half c).toNat+1)) (HG U ((half c).toNat+1) ((half c).toNat+1)) with h|h
 ·exact h
 ·exfalso;refine f (X7 H j z (λy d i D e s C=>?_) l r M);have:=u.2 (by omega) y.toNat d.toNat (by omega) (by omega)
  rw[Qj i,Qj e]at this;exact this C
theorem ZqI(e:Eh c t U):Dp c (D3 c t U)<=Dp c U:=
 (TC (U:=U) (V:=D3 c t U) (λx d h=>e.dec x d h) ((half c).toNat+1) ((half c).toNat+1)).1
structure Dy(c:ZB)(t a:Int->Int):Prop where
 w:Di c t a
 m:∀x,0<=x->x<half c->(∀q,q∈AP c x->0<t q)->FO c t a x (a x)
theorem VW(J:Ay c)(N:Dy c t a){i:Int}(O:0<=i)(Y:i<half c)(f:∀x,Ac c (Bx i) (-1) x->0<t x):EW c i (a i):=by
 have H:=N.w;have K:=f i (Ac.start rfl (by omega));have hd:=H.down i K (by omega);have L:=H.pos _ hd.1;have G:a i≠i:=λe=>by rw[e]at hd;omega
 have C:D1 c i (a i):=λE=>by
  have:=E (λx=>Ac c (Bx i) (-1) x∧x≠a i∧ZN c a x (a i)) (λx r D=>?_) (λx y r l D=>?_)
  ·rcases this.2.2.cases with h|⟨h,_⟩
   ·exact this.2.1 h.symm
   ·exact h rfl
  ·have r:x=i:=r;subst r;exact⟨Ac.start rfl (by omega),D,(ZN.refl _ _ _).snoc (by omega)⟩
  ·have X:=r.1.step l (by have:=(J x y l).1;omega);refine⟨X,D,?_⟩;rcases r.2.2.cases with h|⟨_,h⟩
   ·exact absurd h.symm r.2.1
   ·exact((N.m x l.1 l.2.1 (λq M=>f q (r.1.step ⟨l.1,l.2.1,M⟩ (by have:=(J x q ⟨l.1,l.2.1,M⟩).1;omega)))).here y l.2.2).2.trans h
 refine⟨L.1,L.2,G,C,λb Q R s u I E=>?_⟩;have j:=f b (E.free J O);have D:=Nr H (t i).toNat i b (by omega) K s I;have V:t b<t (a i):=by
  rcases D.cases with h|⟨_,h⟩
  ·exact absurd h s
  ·rcases(M4 H hd.1 h).2 with F|F
   ·exact absurd F u
   ·exact F
 have z:¬D1 c b (a i):=λW=>by have:=Ji H j (Nr H (t b).toNat b (a i) (by omega) j (λe=>u e.symm) W);omega
 exact z (λP=>C (E.trans P))
structure Zv(w:World)(b:Nat)(n:Int)(t v c:ZB)(k:Int)(T A:Int->Int):Prop where
 lt:b<w.heap.size
 c0:w.cell? ⟨b,0,none⟩=some (.int .i64 n)
 c1:w.cell? ⟨b,1,none⟩=some (.string t)
 c2:w.cell? ⟨b,2,none⟩=some (.string v)
 c3:w.cell? ⟨b,3,none⟩=some (.string c)
 k:w.cell? ⟨b,4,none⟩=some (.int .i64 k)
 t:∀j:Nat,j<201->w.cell? ⟨b,5+j,none⟩=some (.int .i64 (T j))
 a:∀j:Nat,j<201->w.cell? ⟨b,206+j,none⟩=some (.int .i64 (A j))
 f:∀j:Nat,j<407->w.frozen? ⟨b,j,none⟩=false
theorem Zv.step{t:ZB}(h:Zv w b n t v c k T A)(l:Below w.heap.size w w1):Zv w1 b n t v c k T A:=by have e:∀j,w1.cell? ⟨b,j,none⟩=w.cell? ⟨b,j,none⟩:=λj=>l.cell (p:=⟨b,j,none⟩) h.lt;exact⟨Qq h.lt l.size,by rw[e];exact h.c0,by rw[e];exact h.c1,by rw[e];exact h.c2,by rw[e];exact h.c3,by rw[e];exact h.k,λj i=>by rw[e];exact h.t j i,λj i=>by rw[e];exact h.a j i,λj i=>by rw[l.frozen (p:=⟨b,j,none⟩) h.lt];exact h.f j i⟩
theorem Zf(w:World)(b i j:Nat)(x:Value)(h:i≠j):(w.setCell ⟨b,i,none⟩ x).cell? ⟨b,j,none⟩=w.cell? ⟨b,j,none⟩:=
 QN w ⟨b,i,none⟩ ⟨b,j,none⟩ x (by intro k;exact h (congrArg Addr.off k))
theorem Zv.setK{t:ZB}(h:Zv w b n t v c k T A)(x:Int):Zv (w.setCell ⟨b,4,none⟩ (.int .i64 x)) b n t v c x T A:=by
 refine⟨by simpa using h.lt,?_,?_,?_,?_,World.cell?_setCell_same _ _ _ h.k,λj e=>?_,λj e=>?_,λj e=>by rw[World.frozen?_setCell];exact h.f j e⟩
 ·rw[Zf _ _ _ _ _ (by omega)];exact h.c0
 ·rw[Zf _ _ _ _ _ (by omega)];exact h.c1
 ·rw[Zf _ _ _ _ _ (by omega)];exact h.c2
 ·rw[Zf _ _ _ _ _ (by omega)];exact h.c3
 ·rw[Zf _ _ _ _ _ (by omega)];exact h.t j e
 ·rw[Zf _ _ _ _ _ (by omega)];exact h.a j e
theorem Zv.setT{t:ZB}(h:Zv w b n t v c k T A)(p:Nat)(l:p<201)(x:Int):Zv (w.setCell ⟨b,5+p,none⟩ (.int .i64 x)) b n t v c k (CR T p x) A:=by
 refine⟨by simpa using h.lt,?_,?_,?_,?_,?_,λj i=>?_,λj i=>?_,λj i=>by rw[World.frozen?_setCell];exact h.f j i⟩
 ·rw[Zf _ _ _ _ _ (by omega)];exact h.c0
 ·rw[Zf _ _ _ _ _ (by omega)];exact h.c1
 ·rw[Zf _ _ _ _ _ (by omega)];exact h.c2
 ·rw[Zf _ _ _ _ _ (by omega)];exact h.c3
 ·rw[Zf _ _ _ _ _ (by omega)];exact h.k
 ·by_cases e:j=p
  ·subst e;rw[Ej];exact Qk _ _ _ (h.t j i)
  ·rw[Zf _ _ _ _ _ (by omega),Dj (by omega)];exact h.t j i
 ·rw[Zf _ _ _ _ _ (by omega)];exact h.a j i
theorem Zv.setA{t:ZB}(h:Zv w b n t v c k T A)(p:Nat)(l:p<201)(x:Int):Zv (w.setCell ⟨b,206+p,none⟩ (.int .i64 x)) b n t v c k T (CR A p x):=by
 refine⟨by simpa using h.lt,?_,?_,?_,?_,?_,λj i=>?_,λj i=>?_,λj i=>by rw[World.frozen?_setCell];exact h.f j i⟩
 ·rw[Zf _ _ _ _ _ (by omega)];exact h.c0
 ·rw[Zf _ _ _ _ _ (by omega)];exact h.c1
 ·rw[Zf _ _ _ _ _ (by omega)];exact h.c2
 ·rw[Zf _ _ _ _ _ (by omega)];exact h.c3
 ·rw[Zf _ _ _ _ _ (by omega)];exact h.k
 ·rw[Zf _ _ _ _ _ (by omega)];exact h.t j i
 ·by_cases e:j=p
  ·subst e;rw[Ej];exact Qk _ _ _ (h.a j i)
  ·rw[Zf _ _ _ _ _ (by omega),Dj (by omega)];exact h.a j i
theorem OB(b:Nat)(n:Int)(t v c:ZB)(k:Int)(T A:Int->Int)(p:Nat)(w:World)(H:Zv w b n t v c k T A)(f:p<201) :
  Calls prog 181 #[.pointer (some ⟨b,0,none⟩),.int .i64 p] w λe w'=>e=.returned (.int .i64 (T p))∧w'=w:=by
 have i:=H.t p f;have h:(p:Int)<201:=by omega
 clear H;go_in;go_wp2;go_ret;exact⟨rfl,rfl⟩
theorem step_any(b:Nat)(n:Int)(t v c:ZB)(k:Int)(T A:Int->Int)(p:Nat)(w:World)(H:Zv w b n t v c k T A)(f:p<201) :
  Calls prog 179 #[.pointer (some ⟨b,0,none⟩),.int .i64 p] w λe w'=>e=.returned (.int .i64 (A p))∧w'=w:=by
 have i:=H.a p f;have h:(p:Int)<201:=by omega
 clear H;go_in;go_wp2;go_ret;exact⟨rfl,rfl⟩
theorem Y5(b:Nat)(n x:Int)(t v c:ZB)(k:Int)(T A:Int->Int)(p:Nat)(w:World)(H:Zv w b n t v c k T A)(h:p<201) :
  Calls prog 180 #[.pointer (some ⟨b,0,none⟩),.int .i64 p,.int .i64 x] w λe w'=>e=.returned (.tuple #[])∧w'=w.setCell ⟨b,206+p,none⟩ (.int .i64 x):=by
 have j:=H.a p h;have l:=H.f (206+p) (by omega);have i:(p:Int)<201:=by omega
 clear H;go_in;go_wp2;first|go_end0|refine Qi (Qp rfl _ _ _) rfl ?_
 exact⟨rfl,rfl⟩
theorem JR(b:Nat)(n:Int)(t v c:ZB)(k:Int)(T A:Int->Int)(p:Nat)(w:World)(H:Zv w b n t v c k T A)(f:p<201) :
  Calls prog 121 #[.pointer (some ⟨b,0,none⟩),.int .i64 p] w λe w'=>e=.returned (.bool (decide (0<T p)))∧w'=w:=by
 go_in;go_wp2_with fail;refine(OB b n t v c k T A p w H f).mono ?_;rintro e w1 ⟨rfl,rfl⟩;go_wp2;go_ret;exact⟨rfl,rfl⟩
theorem Wc(b:Nat)(n:Int)(t v c:ZB)(k:Int)(T A:Int->Int)(p:Nat)(w:World)(H:Zv w b n t v c k T A)(f:p<201)(h:0<T p) :
  Calls prog 125 #[.pointer (some ⟨b,0,none⟩),.int .i64 p] w λe w'=>e=.returned (.int .i64 (A p))∧w'=w:=by
 have hd:decide (0<T p)=true:=Qv h;go_in;go_wp2_with fail;refine(JR b n t v c k T A p w H f).mono ?_;rintro e w1 ⟨rfl,rfl⟩;rw[hd];go_wp2_with fail;refine(step_any b n t v c k T A p _ H f).mono ?_;rintro e w1 ⟨rfl,rfl⟩;go_wp2;go_ret;exact⟨rfl,rfl⟩
theorem TD(b:Nat)(n x:Int)(t v c:ZB)(k:Int)(T A:Int->Int)(p:Nat)(w:World)(H:Zv w b n t v c k T A)(f:p<201)(i:0<T p) :
  Calls prog 117 #[.pointer (some ⟨b,0,none⟩),.int .i64 p,.int .i64 x] w λe w'=>e=.returned (.bool false)∧w'=w:=by
 have j:=H.t p f;have h:(p:Int)<201:=by omega
 clear H;go_in;go_wp2;go_ret;exact⟨rfl,rfl⟩
theorem OC(b:Nat)(n x:Int)(t v c:ZB)(k:Int)(T A:Int->Int)(p:Nat)(w:World)(H:Zv w b n t v c k T A)(s:p<201)(G:T p=0)(I:0<=k)(N:k<=1000) :
  Calls prog 117 #[.pointer (some ⟨b,0,none⟩),.int .i64 p,.int .i64 x] w λe w'=>e=.returned (.bool true)∧Zv w' b n t v c (k+1) (CR T p (k+1)) (CR A p x)∧AG b w.heap.size w w':=by
 have F:=H.t p s;rw[G]at F;have D:=H.k;have C:=H.f 4 (by omega);have J:(p:Int)<201:=by omega
 have E:Kp (Zv w b n t v c k T A):=⟨H⟩
 clear H;go_in;go_wp2;obtain⟨w1,h⟩:∃w1,w1=w.setCell ⟨b,4,none⟩ (.int .i64 (k+1)):=⟨_,rfl⟩
 rw[<-h];have j:Zv w1 b n t v c (k+1) T A:=by rw[h];exact E.o.setK _
 have r:AG b w.heap.size w w1:=by rw[h];exact(AG.refl _ _ _).setCell _ _
 have K:=j.k;have M:=j.t p s;have L:=j.f (5+p) (by omega);replace j:=Z_ j;clear h F D C;go_region;obtain⟨u,i⟩:∃u,u=(w1.setCell ⟨b,5+p,none⟩ (.int .i64 (k+1))).drew:=⟨_,rfl⟩
 rw[<-i];have l:Zv u b n t v c (k+1) (CR T p (k+1)) A:=by rw[i];exact(j.o.setT p s (k+1)).step ((Qh _ _).drew)
 have z:AG b w.heap.size w u:=by rw[i];exact r.trans (((AG.refl _ _ _).setCell _ _).trans (AG.of ((Qh _ _).drew)))
 have M:=l.a p s;have L:=l.f (206+p) (by omega);replace l:=Z_ l;clear i K r j E;go_wp2;go_ret;exact⟨rfl,l.o.setA p s x,z.setCell _ _⟩
structure Kq(c:ZB)(T A:Int->Int)(p m:Int)(ok:Bool):Prop where
 yes:ok=true->FO c T A p m
 no:ok=false->∃q,q∈AP c p∧T q=0
structure FV(c:ZB)(T A:Int->Int)(q1 q2 x y:Int):Prop where
 x0:0<=x
 x1:x<=half c
 y0:0<=y
 y1:y<=half c
 wx:ZN c A q1 x
 wy:ZN c A q2 y
 px:x=q1∨(0<T q1∧0<T x)
 py:y=q2∨(0<T q2∧0<T y)
 com:∀d,ZN c A q1 d->ZN c A q2 d->ZN c A x d∧ZN c A y d
theorem FV.left{r s:Int}(H:Di c T A)(S:FV c T A r s x y)(C:T x≠0)(D:T y≠0)(i:T y<T x):FV c T A r s (A x) y∧T (A x)<T x∧0<=T (A x):=by
 have nx:=H.nn x;have E:=H.nn y;have j:x≠half c:=λe=>by rw[e,H.fin]at i;omega
 have hd:=H.down x (by omega) j;have l:=H.pos _ hd.1;refine⟨⟨l.1,l.2,S.y0,S.y1,S.wx.snoc j,S.wy,.inr ⟨?_,hd.1⟩,S.py,λd u z=>?_⟩,hd.2,by omega⟩
 ·rcases S.px with h|h
  ·rw[<-h];omega
  ·exact h.1
 ·have f:=S.com d u z;refine⟨?_,f.2⟩;rcases f.1.cases with h|⟨_,h⟩
  ·have:=Ji H (by omega) f.2;rw[h]at this;omega
  ·exact h
theorem FV.right{r s:Int}(H:Di c T A)(S:FV c T A r s x y)(E:T x≠0)(F:T y≠0)(i:x≠y)(D:¬T y<T x):FV c T A r s x (A y)∧T (A y)<T y∧0<=T (A y):=by
 have nx:=H.nn x;have G:=H.nn y;have C:T x<T y:=by
  rcases Int.lt_or_eq_of_le (by omega:T x<=T y) with h|h
  ·exact h
  ·exact absurd (H.inj x y (by omega) h) i
 have j:y≠half c:=λe=>by rw[e,H.fin]at C;omega
 have hd:=H.down y (by omega) j;have l:=H.pos _ hd.1;refine⟨⟨S.x0,S.x1,l.1,l.2,S.wx,S.wy.snoc j,S.px,.inr ⟨?_,hd.1⟩,λd u z=>?_⟩,hd.2,by omega⟩
 ·rcases S.py with h|h
  ·rw[<-h];omega
  ·exact h.1
 ·have f:=S.com d u z;refine⟨f.1,?_⟩;rcases f.2.cases with h|⟨_,h⟩
  ·have:=Ji H (by omega) f.1;rw[h]at this;omega
  ·exact h
theorem FV.none(f:0<=p)(e:p<half c)(S:FV c T A (nx1 c p) (nx2 c p) x y)(h:T x=0∨T y=0):Kq c T A p 0 false:=by
 refine⟨λh=>absurd h (by simp),λ_=>?_⟩;rcases h with h|h
 ·rcases S.px with k|k
  ·exact⟨nx1 c p,(D8 e).2 (.inl rfl),by rw[<-k];exact h⟩
  ·omega
 ·rcases S.py with k|k
  ·exact⟨nx2 c p,(D8 e).2 (.inr rfl),by rw[<-k];exact h⟩
  ·omega
theorem FV.met(H:Di c T A)(j:0<=p)(f:p<half c)(S:FV c T A (nx1 c p) (nx2 c p) x x):Kq c T A p x (decide (0<T x)):=by
 have nx:=H.nn x;refine⟨λh=>?_,λh=>?_⟩
 ·have i:=QB h;refine⟨λq r=>?_,λd hd=>?_⟩
  ·rcases(D8 f).1 r with e|e
   ·rw[e];refine⟨?_,S.wx⟩;rcases S.px with k|k
    ·rw[<-k];exact i
    ·exact k.1
   ·rw[e];refine⟨?_,S.wy⟩;rcases S.py with k|k
    ·rw[<-k];exact i
    ·exact k.1
  ·exact(S.com d (hd _ ((D8 f).2 (.inl rfl))) (hd _ ((D8 f).2 (.inr rfl)))).1
 ·have i:=Ul h;have l:=S.none j f (.inl (by omega));exact l.no rfl
theorem WS(b p:Nat)(n k:Int)(t v c:ZB)(T A:Int->Int)(w:World)(hc:c.size<=maxLen)(hK:half c<=200)(hr:Kp (Ay c))(H:Zv w b n t v c k T A)(F:Kp (Di c T A))(P:(p:Int)<half c) :
  Calls prog 178 #[.pointer (some ⟨b,0,none⟩),.int .i64 p] w λe w'=>
   ∃(m:Int) (Z:Bool),e=.returned (.tuple #[.int .i64 m,.bool Z])∧Kp (Kq c T A p m Z)∧Below w.heap.size w w':=by
 obtain⟨⟨L,X⟩,M,Y⟩:=Kn hr.o (k:=p) (by omega) (by omega);have u:Kp (FV c T A (nx1 c p) (nx2 c p) (nx1 c p) (nx2 c p)):=⟨⟨L,X,M,Y,ZN.refl _ _ _,ZN.refl _ _ _,.inl rfl,.inl rfl,λd V W=>⟨V,W⟩⟩⟩
 have q0:=H.c0;have q1:=H.c1;have q2:=H.c2;have q3:=H.c3;go_in;go_wp2_with fail;refine(II n p t v c _ hc hK (by omega) (by omega)).mono ?_;rintro e w1 ⟨rfl,z⟩;have D:=H.step z;clear q0 q1 q2 q3 H;go_wp2_with fail;go_loop [6,7] (λx y=>∃(Q R:Nat),x=.int .i64 Q∧y=.int .i64 R∧Kp (FV c T A (nx1 c p) (nx2 c p) Q R)) (λx y=>(T (intOf x)+T (intOf y)).toNat);case atStart=>exact⟨(nx1 c p).toNat,(nx2 c p).toNat,by rw[Qj L],by rw[Qj M],⟨by rw[Qj L,Qj M];exact u.o⟩⟩
 case round=>
  clear u L X M Y;obtain⟨x,y,rfl,rfl,u⟩:=hrel;have Q:=u.o.x1;have R:=u.o.y1;by_cases I:x=y
  ·subst I;have E:Kp (Kq c T A p x (decide (0<T x))):=⟨u.o.met F.o (by omega) P⟩
   go_wp2_with fail;refine(JR b n t v c k T A x _ D (by omega)).mono ?_;rintro e N ⟨rfl,rfl⟩;go_wp2;go_ret2;exact⟨x,_,rfl,E,z⟩
  ·have aa:((x:Int) != (y:Int))=true:=by simp;omega
   have s:(x:Int)≠(y:Int):=by omega
   replace s:=Z_ s;clear I;go_wp2_with fail;refine(OB b n t v c k T A x _ D (by omega)).mono ?_;rintro e N ⟨rfl,rfl⟩;go_wp2_with fail;refine(OB b n t v c k T A y _ D (by omega)).mono ?_;rintro e N ⟨rfl,rfl⟩;have nx:=F.o.nn x;have ny:=F.o.nn y;obtain⟨J,f⟩:∃J,T x=J:=⟨_,rfl⟩
   obtain⟨K,h⟩:∃K,T y=K:=⟨_,rfl⟩
   rw[f,h];rw[f]at nx;rw[h]at ny;by_cases O:J=0
   ·have E:Kp (Kq c T A p 0 false):=⟨u.o.none (by omega) P (.inl (by rw[f];exact O))⟩
    replace f:=Z_ f;replace h:=Z_ h;subst O;go_wp2;go_ret2;exact⟨0,false,rfl,E,z⟩
   ·have V:(J==0)=false:=Qf.2 O;by_cases C:K=0
    ·have E:Kp (Kq c T A p 0 false):=⟨u.o.none (by omega) P (.inr (by rw[h];exact C))⟩
     replace f:=Z_ f;replace h:=Z_ h;subst C;go_wp2;go_ret2;exact⟨0,false,rfl,E,z⟩
    ·have W:(K==0)=false:=Qf.2 C;by_cases G:K<J
     ·obtain⟨i,j,l⟩:=u.o.left F.o (by rw[f];omega) (by rw[h];omega) (by rw[f,h];exact G);have r:=i.x0;replace i:=Z_ i;replace j:=Z_ j;replace l:=Z_ l;replace f:=Z_ f;replace h:=Z_ h;go_wp2_with fail;refine(step_any b n t v c k T A x _ D (by omega)).mono ?_;rintro e N ⟨rfl,rfl⟩;go_wp2_with fail;refine⟨⟨(A x).toNat,y,by rw[Qj r],rfl,⟨by rw[Qj r];exact i.o⟩⟩,?_⟩;have h3:=j.o;have h4:=l.o;have h5:=f.o;have h6:=h.o;simp only[intOf];omega
     ·obtain⟨i,j,l⟩:=u.o.right F.o (by rw[f];omega) (by rw[h];omega) s.o (by rw[f,h];exact G);have r:=i.y0;replace i:=Z_ i;replace j:=Z_ j;replace l:=Z_ l;replace f:=Z_ f;replace h:=Z_ h;go_wp2_with fail;refine(step_any b n t v c k T A y _ D (by omega)).mono ?_;rintro e N ⟨rfl,rfl⟩;go_wp2_with fail;refine⟨⟨x,(A y).toNat,rfl,by rw[Qj r],⟨by rw[Qj r];exact i.o⟩⟩,?_⟩;have h3:=j.o;have h4:=l.o;have h5:=f.o;have h6:=h.o;simp only[intOf];omega
def ER(T:Int->Int)(k:Nat):Nat:=BG (λj=>decide (0<T j)) k
structure EN(c:ZB)(T0 T A:Int->Int)(k:Int)(g:Bool)(q:Int):Prop where
 ok:HU c T A k
 bd:k+ER T 201<=201
 no:g=false->T=T0∧∀x s,q<=x->x<half c->s∈AP c x->0<T s->0<T x
 yes:g=true->ER T 201<ER T0 201
 le:ER T 201<=ER T0 201
theorem TE{p:Nat}(l:p<201)(h:T p=0)(r:0<x):ER (CR T p x) 201+1=ER T 201:=by
 have f:=Hu (m:=λj=>decide (0<T j)) (k:=201) (j:=p) l (by simp;omega);unfold ER;rw[<-f];congr 1;refine Su (λi _=>?_);by_cases e:i=p
 ·subst e;rw[Ej];simp[r]
 ·rw[Dj (by omega)];simp[e]
theorem EN.skip{f:Int->Int}(h:EN c f T A k g (p+1))(u:∀s,s∈AP c p->0<T s->0<T p):EN c f T A k g p:=
 ⟨h.ok,h.bd,λl=>⟨(h.no l).1,λx s z r i j=>by
  by_cases e:x=p
  ·subst e;exact u s i j
  ·exact(h.no l).2 x s (by omega) r i j⟩,h.yes,h.le⟩
theorem EN.add{f:Int->Int}{p:Nat}{s:Int}(h:EN c f T A k g ((p:Int)+1))(j:(p:Int)<half c)(u:half c<=200)(i:T p=0)(l:s∈AP c p)(e:0<T s):EN c f (CR T p (k+1)) (CR A p s) (k+1) true p:=by
 have r:1<=k:=by have:=h.ok.top (half c);rw[h.ok.fin]at this;exact this
 have C:=TE (T:=T) (p:=p) (x:=k+1) (by omega) i (by omega);have z:=h.bd;have D:=h.le;exact⟨Y4 h.ok (by omega) j i l e,by omega,λh=>absurd h (by simp),λ_=>by omega,by omega⟩
theorem Y6(b:Nat)(n k0:Int)(t v c:ZB)(r A0:Int->Int)(w:World)(hc:c.size<=maxLen)(hK:half c<=200)(hr:Kp (Ay c))(H:Zv w b n t v c k0 r A0)(hG:Kp (HU c r A0 k0))(Z:Kp (k0+ER r 201<=201)) :
  Calls prog 118 #[.pointer (some ⟨b,0,none⟩)] w λe w'=>
   ∃(g:Bool) (k:Int) (T A:Int->Int),e=.returned (.bool g)∧Zv w' b n t v c k T A∧Kp (EN c r T A k g 0)∧AG b w.heap.size w w':=by
 have hh:=(Zn c).1;have q0:=H.c0;have q1:=H.c1;have q2:=H.c2;have q3:=H.c3;go_in;go_wp2_with fail;refine(ZY n t v c _ hc).mono ?_;rintro e w1 ⟨rfl,O⟩;have H1:=H.step O;have ab:=H.lt;have Y:Kp (EN c r r A0 k0 false (half c)):=⟨⟨hG.o,Z.o,λ_=>⟨rfl,λx s h1 h2=>absurd h2 (by omega)⟩,λh=>absurd h (by simp),Qb _⟩⟩
 have X:AG b w.heap.size w w1:=AG.of O;clear q0 q1 q2 q3 H hG Z O;go_wp2_with fail;go_loopw [3,4] (λg i wr=>∃(D:Bool) (p:Nat) (k:Int) (T A:Int->Int),g=.bool D∧(p:Int)<=half c∧i=.int .i64 ((p:Int)-1)∧Zv wr b n t v c k T A∧Kp (EN c r T A k D p)∧AG b w.heap.size w wr) (λ_ i _=>(intOf i+1).toNat);case atStart=>exact⟨false,(half c).toNat,k0,r,A0,rfl,by omega,by rw[Qj hh],H1,⟨by rw[Qj hh];exact Y.o⟩,X⟩
 case round=>
  clear H1 Y X;obtain⟨D,p,k,T,A,rfl,hp,rfl,H,l,hB⟩:=hrel;cases p with
  | zero=>go_wp2;go_ret;exact⟨D,k,T,A,rfl,H,l,hB⟩
  | succ p=>
   rw[show (((p+1:Nat):Int)-1)=(p:Int) from by omega];have J:(p:Int)<half c:=by omega
   replace l:Kp (EN c r T A k D ((p:Int)+1)):=⟨by have:=l.o;rwa [show ((p+1:Nat):Int)=(p:Int)+1 from by omega]at this⟩
   clear hp;obtain⟨⟨n1,n2⟩,n3,n4⟩:=Kn hr.o (k:=p) (by omega) (by omega);obtain⟨C,V⟩:∃C:Nat,nx1 c p=C:=⟨(nx1 c p).toNat,by omega⟩
   obtain⟨L,W⟩:∃L:Nat,nx2 c p=L:=⟨(nx2 c p).toNat,by omega⟩
   have m1:Kp ((C:Int)∈AP c p):=⟨(D8 J).2 (.inl V.symm)⟩
   have m2:Kp ((L:Int)∈AP c p):=⟨(D8 J).2 (.inr W.symm)⟩
   have m3:Kp (∀x,x∈AP c p->x=C∨x=L):=⟨λx hx=>by have:=(D8 J).1 hx;rwa [V,W]at this⟩
   rw[V]at n1 n2;rw[W]at n3 n4;have q0:=H.c0;have q1:=H.c1;have q2:=H.c2;have q3:=H.c3;go_wp2_with fail;refine(II n p t v c _ hc hK (by omega) (by omega)).mono ?_;rintro e w2 ⟨rfl,P⟩;have z:=H.step P;have f:=hB.trans (AG.of (P.mono hB.size));clear q0 q1 q2 q3 H hB P;rw[V,W];clear V W;go_wp2_with fail;refine(JR b n t v c k T A C _ z (by omega)).mono ?_;rintro e R ⟨rfl,rfl⟩;by_cases u:0<T C
   ·rw[Qv u];have I:=m1;have K:Kp (0<T C):=⟨u⟩
    go_wp2_with fail;refine(JR b n t v c k T A C _ z (by omega)).mono ?_;rintro e R ⟨rfl,rfl⟩;rw[Qv u];clear u;by_cases F:0<T p
    ·have j:Kp (EN c r T A k D p):=⟨l.o.skip (λ_ _ _=>F)⟩
     go_wp2_with fail;refine(TD b n C t v c k T A p _ z (by omega) F).mono ?_;rintro e R ⟨rfl,rfl⟩;go_wp2_with fail;go_roundw;case rel=>exact⟨D,p,k,T,A,rfl,by omega,rfl,z,j,f⟩
     case measure=>simp[intOf]
    ·have E:T p=0:=by have:=l.o.ok.nn p;omega
     have Q:=l.o.ok.top (half c);rw[l.o.ok.fin]at Q;have aa:=l.o.bd;have j:Kp (EN c r (CR T p (k+1)) (CR A p C) (k+1) true p):=⟨l.o.add J hK E I.o K.o⟩
     go_wp2_with fail;refine(OC b n C t v c k T A p _ z (by omega) E (by omega) (by omega)).mono ?_;rintro e R ⟨rfl,H3,G⟩;have N:=f.trans (G.mono f.size);clear z f G;go_wp2_with fail;go_roundw;case rel=>exact⟨true,p,k+1,_,_,rfl,by omega,rfl,H3,j,N⟩
     case measure=>simp[intOf]
   ·rw[Qx u];go_wp2_with fail;refine(JR b n t v c k T A L _ z (by omega)).mono ?_;rintro e R ⟨rfl,rfl⟩;by_cases M:0<T L
    ·rw[Qv M];have I:=m2;have K:Kp (0<T L):=⟨M⟩
     clear u M;by_cases F:0<T p
     ·have j:Kp (EN c r T A k D p):=⟨l.o.skip (λ_ _ _=>F)⟩
      go_wp2_with fail;refine(TD b n L t v c k T A p _ z (by omega) F).mono ?_;rintro e R ⟨rfl,rfl⟩;go_wp2_with fail;go_roundw;case rel=>exact⟨D,p,k,T,A,rfl,by omega,rfl,z,j,f⟩
      case measure=>simp[intOf]
     ·have E:T p=0:=by have:=l.o.ok.nn p;omega
      have Q:=l.o.ok.top (half c);rw[l.o.ok.fin]at Q;have aa:=l.o.bd;have j:Kp (EN c r (CR T p (k+1)) (CR A p L) (k+1) true p):=⟨l.o.add J hK E I.o K.o⟩
      go_wp2_with fail;refine(OC b n L t v c k T A p _ z (by omega) E (by omega) (by omega)).mono ?_;rintro e R ⟨rfl,H3,G⟩;have N:=f.trans (G.mono f.size);clear z f G;go_wp2_with fail;go_roundw;case rel=>exact⟨true,p,k+1,_,_,rfl,by omega,rfl,H3,j,N⟩
      case measure=>simp[intOf]
    ·rw[Qx M];have j:Kp (EN c r T A k D p):=⟨l.o.skip (λs hs h=>by rcases m3.o s hs with e|e<;>(rw[e]at h;omega))⟩
     go_wp2_with fail;go_roundw;case rel=>exact⟨D,p,k,T,A,rfl,by omega,rfl,z,j,f⟩
     case measure=>simp[intOf]
structure EB(c:ZB)(T A0 A:Int->Int)(U:Int->Int->Bool)(g:Bool)(q:Int):Prop where
 ok:Di c T A
 pass:Fk c T A U q
 no:g=false->A=A0∧∀x,q<=x->0<=x->x<half c->(∀s,s∈AP c x->0<T s)->FO c T A0 x (A0 x)
 yes:g=true->Dp c (D3 c T U)<Dp c U
theorem EB.move{m:Int}(j:Eh c T U)(h:EB c T A0 A U g (p+1))(e:0<=p)(f:p<half c)(M:FO c T A p m)(i:m≠A p):EB c T A0 (CR A p m) U true p:=
 ⟨Sw h.ok e f M,Sx h.ok j e f M h.pass,λh=>absurd h (by simp),λ_=>XP h.ok j h.pass.sub e f M i⟩
theorem EB.same(z:Eh c T U)(h:EB c T A0 A U g (p+1))(j:0<=p)(l:p<half c)(M:FO c T A p (A p)):EB c T A0 A U g p:=by
 have i:=Sx h.ok z j l M h.pass;rw[YZ rfl]at i;refine⟨h.ok,i,λf=>⟨(h.no f).1,λx C r s u=>?_⟩,h.yes⟩;by_cases e:x=p
 ·subst e;rw[<-(h.no f).1];exact M
 ·exact(h.no f).2 x (by omega) r s u
theorem EB.keep(u:Eh c T U)(h:EB c T A0 A U g (p+1))(z:∃q,q∈AP c p∧T q=0):EB c T A0 A U g p:=by
 obtain⟨q,l,f⟩:=z;refine⟨h.ok,X6 h.ok u l f h.pass,λj=>⟨(h.no j).1,λx C r s i=>?_⟩,h.yes⟩;by_cases e:x=p
 ·subst e;have:=i q l;omega
 ·exact(h.no j).2 x (by omega) r s i
theorem XQ(b:Nat)(n k:Int)(t v c:ZB)(T A0:Int->Int)(U:Int->Int->Bool)(w:World)(Q:c.size<=maxLen)(Y:half c<=200)(hr:Kp (Ay c))(H:Zv w b n t v c k T A0)(M:Kp (Di c T A0))(L:Kp (Eh c T U))(V:Kp (∀x d,0<T x->ZN c A0 x d->U x d=true)) :
  Calls prog 119 #[.pointer (some ⟨b,0,none⟩)] w λe w'=>
   ∃(g:Bool) (A:Int->Int),e=.returned (.bool g)∧Zv w' b n t v c k T A∧Kp (EB c T A0 A U g 0)∧AG b w.heap.size w w':=by
 have R:=(Zn c).1;have q0:=H.c0;have q1:=H.c1;have q2:=H.c2;have q3:=H.c3;go_in;go_wp2_with fail;refine(ZY n t v c _ Q).mono ?_;rintro e w1 ⟨rfl,u⟩;have O:=H.step u;have G:Kp (EB c T A0 A0 U false (half c)):=⟨⟨M.o,XO M.o V.o,λ_=>⟨rfl,λx h1 h2 X=>absurd X (by omega)⟩,λh=>absurd h (by simp)⟩⟩
 have E:AG b w.heap.size w w1:=AG.of u;clear q0 q1 q2 q3 H M V u;go_wp2_with fail;go_loopw [3,4] (λg i wr=>∃(j:Bool) (p:Nat) (A:Int->Int),g=.bool j∧(p:Int)<=half c∧i=.int .i64 ((p:Int)-1)∧Zv wr b n t v c k T A∧Kp (EB c T A0 A U j p)∧AG b w.heap.size w wr) (λ_ i _=>(intOf i+1).toNat);case atStart=>exact⟨false,(half c).toNat,A0,rfl,by omega,by rw[Qj R],O,⟨by rw[Qj R];exact G.o⟩,E⟩
 case round=>
  clear O G E;obtain⟨j,p,A,rfl,hp,rfl,H,s,I⟩:=hrel;cases p with
  | zero=>go_wp2;go_ret;exact⟨j,A,rfl,H,s,I⟩
  | succ p=>
   rw[show (((p+1:Nat):Int)-1)=(p:Int) from by omega];have C:(p:Int)<half c:=by omega
   replace s:Kp (EB c T A0 A U j ((p:Int)+1)):=⟨by have:=s.o;rwa [show ((p+1:Nat):Int)=(p:Int)+1 from by omega]at this⟩
   clear hp;go_wp2_with fail;refine(WS b p n k t v c T A _ Q Y hr H ⟨s.o.ok⟩ C).mono ?_;rintro e w2 ⟨m,ok,rfl,P,z⟩;have r:=H.step z;have l:=I.trans (AG.of (z.mono I.size));clear H I z;cases ok
   ·have f:Kp (EB c T A0 A U j p):=⟨s.o.keep L.o (P.o.no rfl)⟩
    go_wp2_with fail;go_roundw;case rel=>exact⟨j,p,A,rfl,by omega,rfl,r,f,l⟩
    case measure=>simp[intOf]
   ·have F:Kp (FO c T A p m):=⟨P.o.yes rfl⟩
    by_cases N:m=A p
    ·subst N;have f:Kp (EB c T A0 A U j p):=⟨s.o.same L.o (by omega) C F.o⟩
     go_wp2_with fail;refine(step_any b n t v c k T A p _ r (by omega)).mono ?_;rintro e J ⟨rfl,rfl⟩;go_wp2_with fail;go_roundw;case rel=>exact⟨j,p,A,rfl,by omega,rfl,r,f,l⟩
     case measure=>simp[intOf]
    ·have f:Kp (EB c T A0 (CR A p m) U true p):=⟨s.o.move L.o (by omega) C F.o N⟩
     have Z:(m != A p)=true:=by simpa using N
     go_wp2_with fail;refine(step_any b n t v c k T A p _ r (by omega)).mono ?_;rintro e J ⟨rfl,rfl⟩;go_wp2_with fail;refine(Y5 b n m t v c k T A p _ r (by omega)).mono ?_;rintro e J ⟨rfl,D⟩;have W:Zv J b n t v c k T (CR A p m):=by rw[D];exact r.setA p (by omega) m
     have K:AG b w.heap.size w J:=by rw[D];exact l.setCell _ _
     clear D r l;go_wp2_with fail;go_roundw;case rel=>exact⟨true,p,_,rfl,by omega,rfl,W,f,K⟩
     case measure=>simp[intOf]
def ZK(n:Int)(t v c:ZB)(k:Int)(T A:Int->Int)(j:Nat):Value:=
 if j=0 then .int .i64 n else if j=1 then .string t else if j=2 then .string v else if j=3 then .string c else if j=4 then .int .i64 k
 else if j<206 then .int .i64 (T ((j:Int)-5)) else .int .i64 (A ((j:Int)-206))
theorem XR(n:Int)(t v c:ZB):prog.built 138 [(0,.agg #[.int .i64 n,.string t,.string v,.string c])]=some (Bg 407 (ZK n t v c 0 (λ_=>0) (λ_=>0))):=by kernel_rfl
theorem IP{P:Program}{o:Oper}{a:Act}{K:Act->World->Prop}{Q:Exit->Act->World->Prop}(t:TypeId)(e:Array (Nat×Operand))(l:o.op=.build t e)(f:Array Value)
  (j:P.built t (e.map λ(i,x)=>(i,a.eval x)).toList=some f) (h:K (a.put o.dst (.agg f)) w):o.wp P a w K Q:=
 wp_build t e l (by rw[j];rfl) (by rw[j];exact h)
theorem Po(n:Int)(t v c:ZB)(k:Int)(T A:Int->Int)(j:Nat):(ZK n t v c k T A j).oneCell'=true:=by
 unfold ZK;repeat (split;rfl)
 rfl
theorem Zv.of_cells{t:ZB}(l:b<w.heap.size)(h:∀j,j<407->w.cell? ⟨b,0+j,none⟩=some (ZK n t v c k T A j))(i:∀j,j<407->w.frozen? ⟨b,0+j,none⟩=false):Zv w b n t v c k T A:=by
 have e:∀j,j<407->w.cell? ⟨b,j,none⟩=some (ZK n t v c k T A j):=λj f=>by have:=h j f;rwa [QT]at this
 refine⟨l,e 0 (by omega),e 1 (by omega),e 2 (by omega),e 3 (by omega),e 4 (by omega),λj f=>?_,λj f=>?_,λj f=>by have:=i j f;rwa [QT]at this⟩
 ·rw[e (5+j) (by omega)];unfold ZK;rw[if_neg (by omega),if_neg (by omega),if_neg (by omega),if_neg (by omega),if_neg (by omega),if_pos (by omega)];rw[show ((5+j:Nat):Int)-5=(j:Int) from by omega]
 ·rw[e (206+j) (by omega)];unfold ZK;rw[if_neg (by omega),if_neg (by omega),if_neg (by omega),if_neg (by omega),if_neg (by omega),if_neg (by omega)];rw[show ((206+j:Nat):Int)-206=(j:Int) from by omega]
theorem Zv.cells{t:ZB}(h:Zv w b n t v c k T A)(j:Nat)(e:j<407):w.cell? ⟨b,0+j,none⟩=some (ZK n t v c k T A j):=by
 rw[QT];unfold ZK;split
 ·subst j;exact h.c0
 ·split
  ·subst j;exact h.c1
  ·split
   ·subst j;exact h.c2
   ·split
    ·subst j;exact h.c3
    ·split
     ·subst j;exact h.k
     ·split
      ·have:=h.t (j-5) (by omega);rw[show 5+(j-5)=j from by omega]at this;rw[this,show ((j-5:Nat):Int)=(j:Int)-5 from by omega]
      ·have:=h.a (j-206) (by omega);rw[show 206+(j-206)=j from by omega]at this;rw[this,show ((j-206:Nat):Int)=(j:Int)-206 from by omega]
structure Bk(w:World)(b n:Nat):Prop where
 lt:b<w.heap.size
 c:∀j,j<n->(w.cell? ⟨b,0+j,none⟩).isSome=true
 f:∀j,j<n->w.frozen? ⟨b,0+j,none⟩=false
theorem Bk.of_row{g n:Nat}{f:Array Value}{t:TypeId}(e:w.heap[g]?=some (.cells f t (0,0)))(i:f.size=n):Bk w g n:=by
 refine⟨(Ug.1 e).1,λj h=>?_,λj h=>?_⟩
 ·rw[QT,cell_of_row w g j _ t (0,0) e,Array.getElem?_eq_getElem (by omega)];rfl
 ·simp[World.frozen?,e]
theorem Bk.step{n:Nat}(h:Bk w b n)(e:Below w.heap.size w w1):Bk w1 b n:=
 ⟨Qq h.lt e.size,λj i=>by rw[e.cell (p:=⟨b,0+j,none⟩) h.lt];exact h.c j i,λj i=>by rw[e.frozen (p:=⟨b,0+j,none⟩) h.lt];exact h.f j i⟩
theorem Bk.but{r n:Nat}(h:Bk w b n)(i:AG r w.heap.size w w1)(e:b≠r):Bk w1 b n:=
 ⟨Qq h.lt i.size,λj l=>by rw[i.cell (p:=⟨b,0+j,none⟩) h.lt e];exact h.c j l,λj l=>by rw[i.frozen (p:=⟨b,0+j,none⟩) h.lt e];exact h.f j l⟩
theorem RM(h:Bk w b 407)(n:Int)(t v c:ZB)(k:Int)(T A:Int->Int):Zv (w.setCells b 0 (Bg 407 (ZK n t v c k T A)).toList) b n t v c k T A:=
 Zv.of_cells (by have:=(Z6 (AG.refl b 0 w) (Bg 407 (ZK n t v c k T A)).toList 0).size;exact Qq h.lt this) (λj e=>ZE w b 0 407 _ h.c j e) (λj e=>by rw[QQ];exact h.f j e)
theorem Xa(n:Int)(t v c:ZB)(w:World)(hc:c.size<=maxLen)(hK:half c<=200)(hr:Kp (Ay c)) :
  Calls prog 61 #[.agg #[.int .i64 n,.string t,.string v,.string c]] w λe w'=>
   ∃(k:Int) (T A:Int->Int),e=.returned (.agg (Bg 407 (ZK n t v c k T A)))∧Kp (Dy c T A)∧Below w.heap.size w w':=by
 have hh:=(Zn c).1;obtain⟨K,l⟩:∃K,K=(((w.alloc (.cells #[.int .i64 n,.string t,.string v,.string c] 76)).alloc (.cells Tryz.zeroCells138 138)).alloc (.cells Tryz.zeroCells138 138)):=⟨_,rfl⟩
 have an:K.heap.size=w.heap.size+3:=by rw[l];simp
 have L:Bk K (w.heap.size+1+1) 407:=by rw[l];exact Bk.of_row (Et _ _ _ _) (by kernel_rfl)
 have ae:Bk K (w.heap.size+1) 407:=by rw[l];exact Bk.of_row (EV _ _ _ _) (by kernel_rfl)
 have ad:AF K w.heap.size [.int .i64 n,.string t,.string v,.string c]:=by rw[l];exact((AF.new4 w _ _ _ _ _).alloc _).alloc _
 have Q:Below w.heap.size w K:=by rw[l];exact(((Qh _ _).alloc (Qb _) _).alloc (by simp) _).alloc (by simp;omega) _
 obtain⟨w1,C⟩:∃w1,w1=K.setCells (w.heap.size+1+1) 0 (Bg 407 (ZK n t v c 0 (λ_=>0) (λ_=>0))).toList:=⟨_,rfl⟩
 have u:AG (w.heap.size+1+1) K.heap.size K w1:=by rw[C];exact Z6 (AG.refl _ _ _) _ _
 have H1:Zv w1 (w.heap.size+1+1) n t v c 0 (λ_=>0) (λ_=>0):=by rw[C];exact RM L n t v c 0 _ _
 have af:=ae.but u (by omega);have F:=ad.but u (by omega);have R:Below w.heap.size w w1:=Q.trans ((u.mono Q.size).below (by omega));have ao:=u.size;replace l:=Z_ l;replace C:=Z_ C;have q0:=F.c 0 _ rfl;have q1:=F.c 1 _ rfl;have q2:=F.c 2 _ rfl;have q3:=F.c 3 _ rfl;clear ad ae Q u;go_in;repeat (first|refine IP 138 #[(0,.tmp 7)] rfl _ (XR n t v c) ?_|(refine Zp 138 (.tmp 3) (.tmp 8) rfl (w.heap.size+1+1) 0 407 (ZK n t v c 0 (λ_=>0) (λ_=>0)) rfl rfl (by kernel_rfl) (by rw[<-l.o];exact L.c) (by rw[<-l.o];exact L.f) (λj _=>Po _ _ _ _ _ _ _ j) ?_;rw[<-l.o,<-C.o];dsimp only [Act.put])|go_step)
 refine(ZY n t v c _ hc).mono ?_;rintro e w2 ⟨rfl,G⟩;have H2:=H1.step G;have ag:=af.step G;have V:=R.trans (G.mono R.size);have ap:=G.size;obtain⟨p,hp⟩:∃p:Nat,half c=p:=⟨(half c).toNat,by omega⟩
 clear q0 q1 q2 q3 F H1 af L R G l C;rw[hp];go_wp2_with fail;refine(OC (w.heap.size+1+1) n p t v c 0 (λ_=>0) (λ_=>0) p w2 H2 (by omega) rfl (by omega) (by omega)).mono ?_;rintro e w3 ⟨rfl,H3,M⟩;have ah:=ag.but M (by omega);have aa:Below w.heap.size w w3:=V.trans ((M.mono V.size).below (by omega));have aq:=M.size;have ab:Kp (HU c (CR (λ_=>0) p (0+1)) (CR (λ_=>0) p p) (0+1)):=⟨by have:=XN c;rw[hp]at this;exact this⟩
 have P:Kp ((0+1:Int)+ER (CR (λ_=>0) p (0+1)) 201<=201):=⟨by
  have O:=TE (T:=λ_=>0) (p:=p) (x:=0+1) (by omega) rfl (by omega);have Z:ER (λ_=>0) 201<=201:=LK _ _;omega⟩
 clear H2 ag V M;go_wp2_with fail;go_loopg [5] (ER (CR (λ_=>0) p (0+1)) 201+1) (λgm g wr=>∃(D:Bool) (k:Int) (T A:Int->Int),g=.bool D∧gm=ER T 201+(if D then 1 else 0)∧Zv wr (w.heap.size+1+1) n t v c k T A∧Bk wr (w.heap.size+1) 407∧Below w.heap.size w wr∧w.heap.size+2<wr.heap.size∧Kp (HU c T A k)∧Kp (k+ER T 201<=201)∧Kp (D=false->∀x q,0<=x->x<half c->q∈AP c x->0<T q->0<T x));case atStart=>exact⟨true,_,_,_,rfl,by simp,H3,ah,aa,by omega,ab,P,⟨λh=>absurd h (by simp)⟩⟩
 case round=>
  clear H3 ah aa ab P;obtain⟨D,k,T,A,rfl,s,H,J,u,Y,hG,ai,z⟩:=hrel;replace s:=Z_ s;cases D
  ·have hW:Kp (Di c T A):=⟨X4 hG.o (z.o rfl)⟩
   clear hG ai z s;go_wp2_with fail;go_loopg [6] (Dp c (λ_ _=>true)+1) (λgm g wr=>∃(D:Bool) (A:Int->Int) (U:Int->Int->Bool),g=.bool D∧gm=Dp c U+(if D then 1 else 0)∧Zv wr (w.heap.size+1+1) n t v c k T A∧Bk wr (w.heap.size+1) 407∧Below w.heap.size w wr∧w.heap.size+2<wr.heap.size∧Kp (Di c T A)∧Kp (Eh c T U)∧Kp (∀x d,0<T x->ZN c A x d->U x d=true)∧Kp (D=false->Dy c T A));case atStart=>exact⟨true,_,_,rfl,by simp,H,J,u,Y,hW,⟨Eh.begin c T⟩,⟨λ_ _ _ _=>rfl⟩,⟨λh=>absurd h (by simp)⟩⟩
   case round=>
    clear H J u Y hW;obtain⟨D,A,U,rfl,s,H,J,u,Y,hW,hU,hs,hN⟩:=hrel;replace s:=Z_ s;cases D
    ·have ak:Kp (Dy c T A):=⟨hN.o rfl⟩
     obtain⟨N,I⟩:∃N:World,wr.setCells (w.heap.size+1) 0 (Bg 407 (ZK n t v c k T A)).toList=N:=⟨_,rfl⟩
     have X:Kp (∀j,j<407->N.cell? ⟨w.heap.size+1,0+j,none⟩=some (ZK n t v c k T A j)):=⟨by rw[<-I];exact ZE wr (w.heap.size+1) 0 407 _ J.c⟩
     have E:Below w.heap.size w N:=by rw[<-I];exact Hs u (b:=w.heap.size+1) (by omega) _ 0
     replace I:=Z_ I;repeat (first|refine KO 138 (.tmp 3) rfl (w.heap.size+1+1) 0 407 (ZK n t v c k T A) rfl _ Tryz.underlying138 rfl (by kernel_rfl) H.cells ?_|(refine Zp 138 (.tmp 2) (.tmp 18) rfl (w.heap.size+1) 0 407 (ZK n t v c k T A) rfl rfl (by kernel_rfl) J.c J.f (λj _=>Po _ _ _ _ _ _ _ j) ?_;rw[I.o])|go_step)
     refine Qi (v:=.agg (Bg 407 (ZK n t v c k T A))) (Ms rfl _ N (w.heap.size+1) 0 407 (ZK n t v c k T A) _ rfl Tryz.underlying138 rfl (by kernel_rfl) X.o) rfl ⟨k,T,A,rfl,ak,E⟩
    ·clear hN;go_wp2_with fail;refine(XQ (w.heap.size+1+1) n k t v c T A U wr hc hK hr H hW hU hs).mono ?_;rintro e N ⟨g,A5,rfl,H5,i,r⟩;have W:=J.but r (by omega);have E:Below w.heap.size w N:=u.trans ((r.mono u.size).below (by omega));have am:=r.size;have al:Kp (Dp c (D3 c T U)<=Dp c U):=⟨ZqI hU.o⟩
     clear H J u r;go_wp2_with fail;go_roundg (Dp c (D3 c T U)+(if g then 1 else 0));case measure=>
      have O:=s.o;have Z:=al.o;have h3:=i.o.yes;simp at O;cases g
      ·simp;omega
      ·have:=h3 rfl;simp;omega
     case rel=>
      refine⟨g,A5,D3 c T U,rfl,rfl,H5,W,E,by omega,⟨i.o.ok⟩,⟨hU.o.step⟩,⟨λx d hx hw=>?_⟩,⟨λhg=>?_⟩⟩
      ·exact i.o.pass.done x d (i.o.ok.pos x hx).1 hx hw
      ·have aj:=i.o.no hg;refine⟨i.o.ok,λx h0 O Z=>?_⟩;rw[aj.1];exact aj.2 x h0 h0 O Z
  ·clear z;go_wp2_with fail;refine(Y6 (w.heap.size+1+1) n k t v c T A wr hc hK hr H hG ai).mono ?_;rintro e N ⟨g,k5,T5,A5,rfl,H5,i,r⟩;have W:=J.but r (by omega);have E:Below w.heap.size w N:=u.trans ((r.mono u.size).below (by omega));have am:=r.size;clear H J u r;go_wp2_with fail;go_roundg (ER T5 201+(if g then 1 else 0));case measure=>
    have O:=s.o;have Z:=i.o.le;have h3:=i.o.yes;simp at O;cases g
    ·simp;omega
    ·have:=h3 rfl;simp;omega
   case rel=>exact⟨g,k5,T5,A5,rfl,rfl,H5,W,E,by omega,⟨i.o.ok⟩,⟨i.o.bd⟩,⟨λhg x q h0 O Z h3=>(i.o.no hg).2 x q h0 O Z h3⟩⟩
end Go.Proofs.YtcnbifdlkalimabGreat
