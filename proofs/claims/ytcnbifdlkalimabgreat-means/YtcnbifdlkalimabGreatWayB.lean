import Derived.Test.YtcnbifdlkalimabGreatPrgM
import Derived.Test.YtcnbifdlkalimabGreatPlnA
import Derived.Laws.IdiomCopy
import Derived.Deep.WholeRow
import Derived.RegionTactic
import Derived.Deep.LoopGhost
/- Lemmas for the statement Means; their conditions stand in each. -/
namespace Go.Proofs.YtcnbifdlkalimabGreat
open Go.RowKit Go.Proofs.Tryz
set_option linter.unusedVariables false
variable{g:Bool}{bar d k n p q x y:Int}{A A0 T a t:Int->Int}{U:Int->Int->Bool}{S:Int->Prop}{B b o:Nat}{m m':Nat->Bool}{w w' w1:World}{c v:ZB}
def nx1(c:ZB)(k:Int):Int:=if k=half c then half c else if bv c (2*k)=8 then bv c (2*k+1) else k+1
def nx2(c:ZB)(k:Int):Int:=if k=half c then half c else if bv c (2*k)=8∨bv c (2*k)=9 then bv c (2*k+1) else k+1
theorem Zah(hk:k<half c):q∈nxt c k↔q=nx1 c k∨q=nx2 c k:=by
 have hne:¬k=half c:=by omega
 by_cases h8:bv c (2*k)=8
 ·simp[nxt,nx1,nx2,hne,h8]
 ·by_cases h9:bv c (2*k)=9
  ·by_cases e:bv c (2*k+1)=k+1
   ·simp[nxt,nx1,nx2,hne,h9,e]
   ·simp[nxt,nx1,nx2,hne,h9,e]
  ·simp[nxt,nx1,nx2,hne,h8,h9]
set_option maxHeartbeats 6400000
theorem Zl4(n:Int)(t v c:ZB)(w:World)(hc:c.size<=maxLen) :
  Calls prog 114 #[.agg #[.int .i64 n,.string t,.string v,.string c],.int .i64 (half c)] w λe w'=>e=.returned (.tuple #[.int .i64 8,.int .i64 (half c)])∧Below w.heap.size w w':=by
 unfold maxLen at hc
 have hh:=Z4 c
 have hd:(half c:Int)=(c.size:Int)/2:=rfl
 rw[hd]at hh ⊢
 clear hd
 go_enter func114,ntmps114
 go_wp2
 go_quiet (fail)
 go_wp2
 go_ret2
 exact⟨rfl,below_drewN ((Qh _ _).alloc (Qb _) _) _⟩
def opP(c:ZB)(k:Int):Int:=if k=half c then 8 else bv c (2*k)
def argP(c:ZB)(k:Int):Int:=if k=half c then half c else bv c (2*k+1)
theorem ZpC(n k:Int)(t v c:ZB)(w:World)(hc:c.size<=maxLen)(h0:0<=k)(hk:k<=half c) :
  Calls prog 114 #[.agg #[.int .i64 n,.string t,.string v,.string c],.int .i64 k] w λe w'=>e=.returned (.tuple #[.int .i64 (opP c k),.int .i64 (argP c k)])∧Below w.heap.size w w':=by
 by_cases e:k=half c
 ·subst e
  rw[show opP c (half c)=8 from if_pos rfl,show argP c (half c)=half c from if_pos rfl]
  exact Zl4 n t v c w hc
 ·rw[show opP c k=bv c (2*k) from if_neg e,show argP c k=bv c (2*k+1) from if_neg e]
  exact Za7 n k t v c w hc h0 (by omega)
theorem Za0(n k:Int)(t v c:ZB)(w:World)(hc:c.size<=maxLen)(hK:half c<=200)(h0:0<=k)(hk:k<=half c) :
  Calls prog 128 #[.agg #[.int .i64 n,.string t,.string v,.string c],.int .i64 k] w λe w'=>e=.returned (.tuple #[.int .i64 (nx1 c k),.int .i64 (nx2 c k)])∧Below w.heap.size w w':=by
 have hI:=λw1=>ZpC n k t v c w1 hc h0 hk
 have e1:nx1 c k=if opP c k=8 then argP c k else k+1:=by
  unfold nx1 opP argP
  by_cases e:k=half c
  ·simp[e]
  ·simp[e]
 have e2:nx2 c k=if opP c k=8∨opP c k=9 then argP c k else k+1:=by
  unfold nx2 opP argP
  by_cases e:k=half c
  ·simp[e]
  ·simp[e]
 rw[e1,e2]
 generalize opP c k=x at *
 generalize argP c k=y at *
 clear e1 e2
 have hk2:k<=200:=by omega
 clear hk hK
 by_cases h8:x=8
 ·subst h8
  rw[if_pos rfl,if_pos (.inl rfl)]
  go_enter func128,ntmps128
  go_wp2_with fail
  refine(hI _).mono ?_
  rintro e w1 ⟨rfl,hb⟩
  go_wp2
  go_ret2
  exact⟨rfl,((Qh _ _).alloc (Qb _) _).trans (hb.mono (by simp))⟩
 ·rw[if_neg h8]
  by_cases h9:x=9
  ·subst h9
   rw[if_pos (.inr rfl)]
   go_enter func128,ntmps128
   go_wp2_with fail
   refine(hI _).mono ?_
   rintro e w1 ⟨rfl,hb⟩
   go_wp2
   go_ret2
   exact⟨rfl,((Qh _ _).alloc (Qb _) _).trans (hb.mono (by simp))⟩
  ·rw[if_neg (by omega)]
   have g8:(x==8)=false:=Qf.2 h8
   have g9:(x==9)=false:=Qf.2 h9
   go_enter func128,ntmps128
   go_wp2_with fail
   refine(hI _).mono ?_
   rintro e w1 ⟨rfl,hb⟩
   go_wp2
   go_ret2
   exact⟨rfl,((Qh _ _).alloc (Qb _) _).trans (hb.mono (by simp))⟩
theorem ZgH(op:Int)(w:World)(h0:0<=op)(h1:op<=11) :
  Calls prog 182 #[.int .i64 op] w λe w'=>e=.returned (.int .i64 (takesF op))∧w'=w:=by
 have hcs:op=0∨op=1∨op=2∨op=3∨op=4∨op=5∨op=6∨op=7∨op=8∨op=9∨op=10∨op=11:=by omega
 rcases hcs with rfl|rfl|rfl|rfl|rfl|rfl|rfl|rfl|rfl|rfl|rfl|rfl
 all_goals
  go_enter func182,ntmps182
  go_wp2
  go_ret
  exact⟨rfl,rfl⟩
theorem Zd4(op:Int)(w:World)(h0:0<=op)(h1:op<=11) :
  Calls prog 183 #[.int .i64 op] w λe w'=>e=.returned (.int .i64 (givesF op))∧w'=w:=by
 have hcs:op=0∨op=1∨op=2∨op=3∨op=4∨op=5∨op=6∨op=7∨op=8∨op=9∨op=10∨op=11:=by omega
 rcases hcs with rfl|rfl|rfl|rfl|rfl|rfl|rfl|rfl|rfl|rfl|rfl|rfl
 all_goals
  go_enter func183,ntmps183
  go_wp2
  go_ret
  exact⟨rfl,rfl⟩
theorem ZhL(n k:Int)(t v c:ZB)(w:World)(hv:v.size<=maxLen)(h0:0<=k)(hk:k<v.size) :
  Calls prog 189 #[.agg #[.int .i64 n,.string t,.string v,.string c],.int .i64 k] w λe w'=>e=.returned (.int .i64 (bv v k))∧Below w.heap.size w w':=by
 unfold maxLen at hv
 have e0:((v[k.toNat]'(by omega)).toNat:Int)=bv v k:=ZjR v k (by omega)
 obtain⟨d0,d1⟩:=Zag v k
 generalize bv v k=x at *
 go_enter func189,ntmps189
 go_wp2
 go_ret
 exact⟨rfl,(Qh _ _).alloc (Qb _) _⟩
set_option maxRecDepth 100000
structure But(b B:Nat)(w w':World):Prop where
 os:w'.os=w.os
 tape:w'.tape=w.tape
 output:w'.output=w.output
 size:w.heap.size<=w'.heap.size
 block:∀k,k<B->k≠b->w'.heap[k]?=w.heap[k]?
theorem But.refl(b B:Nat)(w:World):But b B w w:=⟨rfl,rfl,rfl,Qb _,λ_ _ _=>rfl⟩
theorem But.trans{x y z:World}(h:But b B x y)(k:But b B y z):But b B x z:=
 ⟨k.os.trans h.os,k.tape.trans h.tape,k.output.trans h.output,Qg h.size k.size,λi hi hb=>(k.block i hi hb).trans (h.block i hi hb)⟩
theorem But.of(h:Below B w w'):But b B w w':=⟨h.os,h.tape,h.output,h.size,λk hk _=>h.block k hk⟩
theorem But.mono{B':Nat}(h:But b B w w')(hB:B'<=B):But b B' w w':=⟨h.os,h.tape,h.output,h.size,λk hk hb=>h.block k (Qq hk hB) hb⟩
theorem But.setCell{x:World}(h:But b B x w)(o:Nat)(u:Value):But b B x (w.setCell ⟨b,o,none⟩ u):=
 ⟨h.os,h.tape,h.output,by simpa using h.size,λk hk hb=>by rw[Below.heap_setCell w ⟨b,o,none⟩ u k hb];exact h.block k hk hb⟩
theorem But.cell(h:But b B w w'){p:Addr}(hp:p.block<B)(hb:p.block≠b):w'.cell? p=w.cell? p:=Qo (w:=w) (h.block p.block hp hb)
theorem But.frozen(h:But b B w w'){p:Addr}(hp:p.block<B)(hb:p.block≠b):w'.frozen? p=w.frozen? p:=Qz (w:=w) (h.block p.block hp hb)
theorem But.below(h:But b B w w')(hb:B<=b):Below B w w':=⟨h.os,h.tape,h.output,h.size,λk hk=>h.block k hk (by omega)⟩
structure Zal(w:World)(b o:Nat)(m:Nat->Bool):Prop where
 lt:b<w.heap.size
 c:∀j,j<201->w.cell? ⟨b,o+j,none⟩=some (.bool (m j))
 f:∀j,j<201->w.frozen? ⟨b,o+j,none⟩=false
theorem Zal.set(h:Zal w b o m){p:Nat}(hp:p<201)(x:Bool):Zal (w.setCell ⟨b,o+p,none⟩ (.bool x)) b o (λj=>if j=p then x else m j):=by
 refine⟨by simpa using h.lt,λj hj=>?_,λj hj=>by rw[World.frozen?_setCell];exact h.f j hj⟩
 by_cases e:j=p
 ·subst e
  rw[if_pos rfl]
  exact Qk _ _ _ (h.c j hj)
 ·rw[if_neg e,QN w ⟨b,o+p,none⟩ ⟨b,o+j,none⟩ _ (by intro k;have:=congrArg Addr.off k;simp at this;omega)]
  exact h.c j hj
theorem Zal.step(h:Zal w b o m)(hb:Below w.heap.size w w1):Zal w1 b o m:=
 ⟨Qq h.lt hb.size,λj hj=>by rw[hb.cell (p:=⟨b,o+j,none⟩) h.lt];exact h.c j hj,λj hj=>by rw[hb.frozen (p:=⟨b,o+j,none⟩) h.lt];exact h.f j hj⟩
theorem Zal.but{b':Nat}(h:Zal w b o m)(hb:But b' w.heap.size w w1)(hne:b≠b'):Zal w1 b o m:=
 ⟨Qq h.lt hb.size,λj hj=>by rw[hb.cell (p:=⟨b,o+j,none⟩) h.lt hne];exact h.c j hj,λj hj=>by rw[hb.frozen (p:=⟨b,o+j,none⟩) h.lt hne];exact h.f j hj⟩
theorem Own.but{g:Nat}{vs:List Value}(h:Own w g vs)(hb:But b w.heap.size w w1)(hne:g≠b):Own w1 g vs:=
 ⟨Qq h.lt hb.size,λi v hv=>by rw[hb.cell (p:=⟨g,i,none⟩) h.lt hne];exact h.c i v hv,λi v hv=>by rw[hb.frozen (p:=⟨g,i,none⟩) h.lt hne];exact h.f i v hv⟩
theorem Za1(b o:Nat)(m:Nat->Bool)(p:Nat)(w:World)(hS:Zal w b o m)(hp:p<201) :
  Calls prog 120 #[.pointer (some ⟨b,o,none⟩),.int .i64 p] w λe w'=>e=.returned (.bool (m p))∧w'=w:=by
 have hc:=hS.c p hp
 have hp2:(p:Int)<201:=by omega
 clear hS
 go_enter func120,ntmps120
 go_wp2
 go_ret
 exact⟨rfl,rfl⟩
theorem Ze2(b o:Nat)(m:Nat->Bool)(p:Nat)(w:World)(hS:Zal w b o m)(hp:p<201)(hm:m p=true) :
  Calls prog 123 #[.pointer (some ⟨b,o,none⟩),.int .i64 p] w λe w'=>e=.returned (.bool false)∧w'=w:=by
 have hc:=hS.c p hp
 rw[hm]at hc
 have hp2:(p:Int)<201:=by omega
 clear hS
 go_enter func123,ntmps123
 go_wp2
 go_ret
 exact⟨rfl,rfl⟩
theorem Ze3(b o:Nat)(m:Nat->Bool)(p:Nat)(w:World)(hS:Zal w b o m)(hp:p<201)(hm:m p=false) :
  Calls prog 123 #[.pointer (some ⟨b,o,none⟩),.int .i64 p] w λe w'=>e=.returned (.bool true)∧w'=w.setCell ⟨b,o+p,none⟩ (.bool true):=by
 have hc:=hS.c p hp
 have hf:=hS.f p hp
 rw[hm]at hc
 have hp2:(p:Int)<201:=by omega
 clear hS
 go_enter func123,ntmps123
 go_wp2
 go_ret
 exact⟨rfl,rfl⟩
theorem ZkR(b o:Nat)(m:Nat->Bool)(p:Nat)(w:World)(hS:Zal w b o m)(hp:p<201)(hm:m p=true) :
  Calls prog 184 #[.pointer (some ⟨b,o,none⟩),.int .i64 p] w λe w'=>e=.returned (.bool true)∧w'=w.setCell ⟨b,o+p,none⟩ (.bool false):=by
 have hc:=hS.c p hp
 have hf:=hS.f p hp
 rw[hm]at hc
 have hp2:(p:Int)<201:=by omega
 clear hS
 go_enter func184,ntmps184
 go_wp2
 go_ret
 exact⟨rfl,rfl⟩
theorem ZkS(b o:Nat)(m:Nat->Bool)(p:Nat)(w:World)(hS:Zal w b o m)(hp:p<201)(hm:m p=false) :
  Calls prog 184 #[.pointer (some ⟨b,o,none⟩),.int .i64 p] w λe w'=>e=.returned (.bool false)∧w'=w:=by
 have hc:=hS.c p hp
 rw[hm]at hc
 have hp2:(p:Int)<201:=by omega
 clear hS
 go_enter func184,ntmps184
 go_wp2
 go_ret
 exact⟨rfl,rfl⟩
structure Fol(c:ZB)(bar:Int)(S:Int->Prop)(m m':Nat->Bool):Prop where
 more:∀j,m j=true->m' j=true
 sound:∀j:Nat,m' j=true->m j=true∨((j:Int)<=half c∧Reach c S bar j)
 begun:∀p:Nat,S p->(p:Int)≠bar->m' p=true
 shut:∀i:Nat,m' i=true->m i=false->∀j:Int,(i:Int)<half c->j∈nxt c i->j≠bar->m' j.toNat=true
theorem Fol.nothing{p:Nat}(h:(p:Int)≠bar->m p=true):Fol c bar (One p) m m:=
 ⟨λ_ h=>h,λ_ h=>.inl h,λq hq hb=>by
  have e:(q:Int)=p:=hq
  have e2:q=p:=by omega
  subst e2;exact h hb,λi h1 h2=>by rw[h1]at h2;exact absurd h2 (by simp)⟩
theorem Fol.union{T:Int->Prop}{m'':Nat->Bool}(h:Fol c bar S m m')(k:Fol c bar T m' m''):Fol c bar (λx=>S x∨T x) m m'':=by
 refine⟨λj hj=>k.more j (h.more j hj),λj hj=>?_,λp hp hb=>?_,λi h1 h2 j hi hj hb=>?_⟩
 ·rcases k.sound j hj with h1|⟨h1,h2⟩
  ·rcases h.sound j h1 with h3|⟨h3,h4⟩
   ·exact .inl h3
   ·exact .inr ⟨h3,h4.congr (λ_ hx=>.inl hx)⟩
  ·exact .inr ⟨h1,h2.congr (λ_ hx=>.inr hx)⟩
 ·rcases hp with hp|hp
  ·exact k.more p (h.begun p hp hb)
  ·exact k.begun p hp hb
 ·cases hm:m' i
  ·exact k.shut i h1 hm j hi hj hb
  ·exact k.more _ (h.shut i hm h2 j hi hj hb)
theorem Fol.step{p:Nat}(hr:Ranged c)(hp:(p:Int)<=half c)(hb:(p:Int)≠bar)(hS:∀x,S x->((p:Int)<half c∧x∈nxt c p)∨x=p)(hS2:(p:Int)<half c->∀x,x∈nxt c p->S x)
  (h:Fol c bar S (λj=>if j=p then true else m j) m'):Fol c bar (One p) m m':=by
 have hpm:m' p=true:=h.more p (by simp)
 refine⟨λj hj=>h.more j (by simp[hj]),λj hj=>?_,λq hq _=>?_,λi h1 h2 j hi hj hjb=>?_⟩
 ·rcases h.sound j hj with h1|⟨h1,h2⟩
  ·by_cases e:j=p
   ·subst e;exact .inr ⟨hp,Reach.start rfl hb⟩
   ·simp only[if_neg e]at h1;exact .inl h1
  ·refine .inr ⟨h1,h2 (λx=>Reach c (One p) bar x) (λx hx hxb=>?_) (λ_ _ hx he hw=>hx.step he hw)⟩
   rcases hS x hx with ⟨hlt,hm⟩|hx
   ·exact(Reach.start (S:=One p) rfl hb).step ⟨by omega,hlt,hm⟩ hxb
   ·rw[hx];exact Reach.start rfl hb
 ·have e:(q:Int)=p:=hq
  have e2:q=p:=by omega
  subst e2
  exact hpm
 ·by_cases e:i=p
  ·subst e
   have hj2:=hr i j ⟨by omega,hi,hj⟩
   have:=h.begun j.toNat (by rw[Qj hj2.1];exact hS2 hi j hj) (by rw[Qj hj2.1];exact hjb)
   exact this
  ·exact h.shut i h1 (by simp only[if_neg e];exact h2) j hi hj hjb
theorem Fol.done(hr:Ranged c)(hS:∀x,S x->0<=x)(h:Fol c bar S (λ_=>false) m)(j:Nat):m j=true↔(j:Int)<=half c∧Reach c S bar j∨(m j=true∧¬(j:Int)<=half c):=by
 constructor
 ·intro hj
  rcases h.sound j hj with h1|h1
  ·exact absurd h1 (by simp)
  ·exact .inl h1
 ·rintro(⟨h1,h2⟩|h1)
  ·have:=h2 (λx=>0<=x∧m x.toNat=true) (λx hx hb=>?_) (λx y hx he hb=>?_)
   ·have h3:=this.2;rw[QC]at h3;exact h3
   ·have h0:=hS x hx
    exact⟨h0,h.begun x.toNat (by rw[Qj h0];exact hx) (by rw[Qj h0];exact hb)⟩
   ·have e:((x.toNat:Nat):Int)=x:=Qj hx.1
    exact⟨(hr x y he).1,h.shut x.toNat hx.2 rfl y (by rw[e];exact he.2.1) (by rw[e];exact he.2.2) hb⟩
  ·exact h1.1
theorem Fol.iff(hr:Ranged c)(hS:∀x,S x->0<=x)(h:Fol c bar S (λ_=>false) m)(j:Nat):m j=true↔(j:Int)<=half c∧Reach c S bar j:=by
 constructor
 ·intro hj
  rcases h.sound j hj with h1|h1
  ·exact absurd h1 (by simp)
  ·exact h1
 ·intro hj
  exact(h.done hr hS j).2 (.inl hj)
theorem ZkT(hr:Ranged c)(h0:0<=k)(hk:k<=half c):(0<=nx1 c k∧nx1 c k<=half c)∧(0<=nx2 c k∧nx2 c k<=half c):=by
 by_cases e:k=half c
 ·have h1:nx1 c k=half c:=if_pos e
  have h2:nx2 c k=half c:=if_pos e
  omega
 ·have hlt:k<half c:=by omega
  exact⟨hr k _ ⟨h0,hlt,(Zah hlt).2 (.inl rfl)⟩,hr k _ ⟨h0,hlt,(Zah hlt).2 (.inr rfl)⟩⟩
theorem Zrs{p:Nat}(hp:(p:Int)<=half c):(∀x,(x=nx1 c p∨x=nx2 c p)->((p:Int)<half c∧x∈nxt c p)∨x=p)∧((p:Int)<half c->∀x,x∈nxt c p->(x=nx1 c p∨x=nx2 c p)):=by
 constructor
 ·intro x hx
  by_cases e:(p:Int)=half c
  ·have h1:nx1 c p=half c:=if_pos e
   have h2:nx2 c p=half c:=if_pos e
   rw[h1,h2]at hx
   exact .inr (by omega)
  ·have hlt:(p:Int)<half c:=by omega
   exact .inl ⟨hlt,(Zah hlt).2 hx⟩
 ·intro hlt x hx
  exact(Zah hlt).1 hx
theorem Zl5(h:∀j,m j=true->m' j=true)(k:Nat):ZfN m' k<=ZfN m k:=by
 induction k with
 | zero=>exact Qb _
 | succ k ih=>
  simp only[ZfN]
  cases h1:m k with
  | false=>cases m' k<;>simp<;>omega
  | true=>rw[h k h1];simpa using ih
theorem Ze4(m:Nat->Bool)(k:Nat):ZfN m k<=k:=by
 induction k with
 | zero=>exact Qb _
 | succ k ih=>simp only[ZfN];split<;>omega
theorem Zd5(n bar:Int)(b o:Nat)(t v c:ZB)(hc:c.size<=maxLen)(hK:half c<=200)(hr:Kp (Ranged c))(k:Nat):∀(m:Nat->Bool) (p:Nat) (w:World),ZfN m 201<=k->Zal w b o m->(p:Int)<=half c->
  Calls prog 116 #[.pointer (some ⟨b,o,none⟩),.agg #[.int .i64 n,.string t,.string v,.string c],.int .i64 p,.int .i64 bar] w λe w'=>
   e=.returned (.tuple #[])∧∃m':Nat->Bool,Zal w' b o m'∧But b w.heap.size w w'∧Fol c bar (One p) m m':=by
 induction k with
 | zero=>
  intro m p w hk hS hp
  have hm:m p=true:=by
   cases h:m p
   ·have:=Zdu (m:=m) (k:=201) (j:=p) (by omega) h
    omega
   ·rfl
  have hF:Kp (Fol c bar (One p) m m):=⟨Fol.nothing (λ_=>hm)⟩
  replace hS:Kp (Zal w b o m):=⟨hS⟩
  clear hk
  have bl:=λo=>(Qh w.heap.size w).alloc (Qb _) o
  by_cases hb:(p:Int)=bar
  ·go_enter func116,ntmps116
   go_wp2_with fail
   first|go_end0|refine Qi (Qp rfl _ _ _) rfl ?_
   exact⟨rfl,m,hS.out.step (bl _),But.of (bl _),hF.out⟩
  ·have hb2:((p:Int)==bar)=false:=Qf.2 hb
   go_enter func116,ntmps116
   go_wp2_with fail
   refine(Ze2 b o m p _ (hS.out.step (bl _)) (by omega) hm).mono ?_
   rintro e w1 ⟨rfl,rfl⟩
   go_wp2_with fail
   first|go_end0|refine Qi (Qp rfl _ _ _) rfl ?_
   exact⟨rfl,m,hS.out.step (bl _),But.of (bl _),hF.out⟩
 | succ k ih=>
  intro m p w hk hS hp
  replace hS:Kp (Zal w b o m):=⟨hS⟩
  have bl:=λo=>(Qh w.heap.size w).alloc (Qb _) o
  by_cases hb:(p:Int)=bar
  ·have hF:Kp (Fol c bar (One p) m m):=⟨Fol.nothing (λh=>absurd hb h)⟩
   clear hk
   go_enter func116,ntmps116
   go_wp2_with fail
   first|go_end0|refine Qi (Qp rfl _ _ _) rfl ?_
   exact⟨rfl,m,hS.out.step (bl _),But.of (bl _),hF.out⟩
  ·have hb2:((p:Int)==bar)=false:=Qf.2 hb
   cases hm:m p with
   | true=>
    have hF:Kp (Fol c bar (One p) m m):=⟨Fol.nothing (λ_=>hm)⟩
    clear hk
    go_enter func116,ntmps116
    go_wp2_with fail
    refine(Ze2 b o m p _ (hS.out.step (bl _)) (by omega) hm).mono ?_
    rintro e w1 ⟨rfl,rfl⟩
    go_wp2_with fail
    first|go_end0|refine Qi (Qp rfl _ _ _) rfl ?_
    exact⟨rfl,m,hS.out.step (bl _),But.of (bl _),hF.out⟩
   | false=>
    have hcnt:Kp (ZfN (λj=>if j=p then true else m j) 201<=k):=⟨by have:=Zdu (m:=m) (k:=201) (j:=p) (by omega) hm;omega⟩
    have hnx:=ZkT hr.out (k:=p) (by omega) hp
    obtain⟨⟨n1,n2⟩,n3,n4⟩:=hnx
    have o0:=Own.new4 w (.int .i64 n) (.string t) (.string v) (.string c) 76
    have hlt:=hS.out.lt
    clear hk
    go_enter func116,ntmps116
    go_wp2_with fail
    refine(Ze3 b o m p _ (hS.out.step (bl _)) (by omega) hm).mono ?_
    rintro e w1 ⟨rfl,hw1⟩
    have hS1:Zal w1 b o (λj=>if j=p then true else m j):=by rw[hw1];exact(hS.out.step (bl _)).set (by omega) true
    have hB1:But b w.heap.size w w1:=by rw[hw1];exact(But.of (bl _)).setCell _ _
    have hO1:Own w1 w.heap.size [.int .i64 n,.string t,.string v,.string c]:=by rw[hw1];exact o0.but ((But.refl b _ _).setCell _ _) (by omega)
    clear hw1 o0
    have q0:=hO1.c 0 _ rfl
    have q1:=hO1.c 1 _ rfl
    have q2:=hO1.c 2 _ rfl
    have q3:=hO1.c 3 _ rfl
    go_wp2_with fail
    refine(Za0 n p t v c _ hc hK (by omega) hp).mono ?_
    rintro e w2 ⟨rfl,hb2'⟩
    have hS2:=hS1.step hb2'
    have hB2:=hB1.trans (But.of (hb2'.mono hB1.size))
    have hO2:=hO1.step hb2'
    clear q0 q1 q2 q3 hS1 hO1 hB1 hb2'
    have q0:=hO2.c 0 _ rfl
    have q1:=hO2.c 1 _ rfl
    have q2:=hO2.c 2 _ rfl
    have q3:=hO2.c 3 _ rfl
    have e1:nx1 c p=((nx1 c p).toNat:Nat):=by omega
    have e2:nx2 c p=((nx2 c p).toNat:Nat):=by omega
    replace e1:=Z_ e1
    replace e2:=Z_ e2
    go_wp2_with fail
    rw[e1.out]
    refine(ih _ (nx1 c p).toNat w2 hcnt.out hS2 (by omega)).mono ?_
    rintro e w3 ⟨rfl,m3,hS3,hB3,hF3⟩
    have hO3:=hO2.but hB3 (by omega)
    have hB13:=hB2.trans (hB3.mono hB2.size)
    replace hF3:=Z_ hF3
    have hcnt3:Kp (ZfN m3 201<=k):=⟨Qg (Zl5 hF3.out.more 201) hcnt.out⟩
    clear q0 q1 q2 q3 hS2 hO2 hB2 hB3
    have q0:=hO3.c 0 _ rfl
    have q1:=hO3.c 1 _ rfl
    have q2:=hO3.c 2 _ rfl
    have q3:=hO3.c 3 _ rfl
    go_wp2_with fail
    rw[e2.out]
    refine(ih _ (nx2 c p).toNat w3 hcnt3.out hS3 (by omega)).mono ?_
    rintro e w4 ⟨rfl,m4,hS4,hB4,hF4⟩
    replace hF4:=Z_ hF4
    have hB14:=hB13.trans (hB4.mono hB13.size)
    go_wp2_with fail
    first|go_end0|refine Qi (Qp rfl _ _ _) rfl ?_
    refine⟨rfl,m4,hS4,hB14,?_⟩
    have hu:=Fol.union hF3.out hF4.out
    have hx:=Zrs (c:=c) (p:=p) hp
    refine Fol.step hr.out hp hb ?_ ?_ hu
    ·intro x hx2
     refine hx.1 x ?_
     rcases hx2 with h|h
     ·exact .inl (by have h:x=_:=h;rw[h];exact e1.out.symm)
     ·exact .inr (by have h:x=_:=h;rw[h];exact e2.out.symm)
    ·intro hlt x hx2
     rcases hx.2 hlt x hx2 with h|h
     ·exact .inl (by show x=_;rw[h];exact e1.out)
     ·exact .inr (by show x=_;rw[h];exact e2.out)
def big(n:Nat)(f:Nat->Value):Array Value:=((List.range n).map f).toArray
theorem ZgI(n:Nat)(f:Nat->Value):(big n f).size=n:=by simp[big]
theorem ZpW(n:Nat)(f:Nat->Value)(j:Nat)(h:j<n):(big n f).toList[j]?=some (f j):=by
 simp[big,List.getElem?_range h]
theorem Zde(n:Nat)(f:Nat->Value):(big n f).toList.length=n:=by simp[big]
theorem Zrt(n:Nat)(f:Nat->Value)(h:n≠0):¬big n f=#[]:=λe=>h (by have:=congrArg Array.size e;rw[ZgI]at this;simpa using this)
theorem ZpX{n:Nat}{f:Nat->Value}{v:Value}(h:v∈(big n f).toList):∃j,j<n∧v=f j:=by
 simp[big]at h
 obtain⟨j,hj,e⟩:=h
 exact⟨j,hj,e.symm⟩
theorem Zru{P:Program}(w:World)(b o n:Nat)(f:Nat->Value)(h:∀j,j<n->w.cell? ⟨b,o+j,none⟩=some (f j)) :
  (loadCellsFrom ⟨b,o,none⟩ 0 n #[]).run P w=.ok (big n f) w:=by
 have hl:(loadCells ⟨b,o,none⟩ ((List.range n).map f).length).run P w=.ok ((List.range n).map f).toArray w:=
  run_loadCells_list (P:=P) w ⟨b,o,none⟩ ((List.range n).map f) (λj v hv=>by
   have hadd:(⟨b,o,none⟩:Addr).add j=⟨b,o+j,none⟩:=by unfold Addr.add;split<;>simp_all
   rw[Ui]at hv
   by_cases hj:j<n
   ·rw[List.getElem?_range hj]at hv
    rw[hadd,h j hj]
    simpa using hv
   ·rw[Uh (by simp;omega)]at hv
    simp at hv)
 rw[List.length_map,List.length_range]at hl
 exact hl
theorem Zpc{P:Program}(w:World)(b o n:Nat)(f:Nat->Value)(h:∀j,j<n->(w.cell? ⟨b,o+j,none⟩).isSome=true)(hf:∀j,j<n->w.frozen? ⟨b,o+j,none⟩=false)(h1:∀j,j<n->(f j).oneCell'=true) :
  (storeCells ⟨b,o,none⟩ (big n f).toList 0).run P w=.ok () (w.setCells b o (big n f).toList):=by
 have hl:=run_storeCells_cells (P:=P) b o (big n f).toList 0 w (by rw[Zde];simpa using h) (by rw[Zde];simpa using hf) (λv hv=>by obtain⟨j,hj,e⟩:=ZpX hv;rw[e];exact h1 j hj)
 rw[Nat.add_zero]at hl
 exact hl
theorem ZA(w:World)(b o n:Nat)(f:Nat->Value)(h:∀j,j<n->(w.cell? ⟨b,o+j,none⟩).isSome=true)(j:Nat)(hj:j<n):(w.setCells b o (big n f).toList).cell? ⟨b,o+j,none⟩=some (f j):=by
 have:=World.cell?_setCells_in b (big n f).toList o w (by rw[Zde];exact h) j (by rw[Zde];exact hj)
 rw[this]
 have h2:=ZpW n f j hj
 rw[Qn (by rw[Zde];exact hj)]at h2
 exact h2
theorem ZeL{P:Program}(w:World)(ty:TypeId)(d:TypeDesc)(b o n:Nat)(f:Nat->Value)(hu:P.underlying ty=some d)(hd:(match d with|.struct _|.array _ _=>true|_=>false)=true)(hi:(P.info? ty).map (·.size)=some n)(h:∀j,j<n->w.cell? ⟨b,o+j,none⟩=some (f j)) :
  (loadVar ty ⟨b,o,none⟩).run P w=.ok (.agg (big n f)) w:=by
 have hl:(loadCells ⟨b,o,none⟩ n).run P w=.ok (big n f) w:=Zru w b o n f h
 cases hq:P.info? ty with
 | none=>simp[hq]at hi
 | some i=>
  have hs:i.size=n:=by simpa [hq] using hi
  have hagg:(isAgg ty).run P w=.ok true w:=by
   unfold isAgg
   rw[Ue,run_underlying hu w]
   cases d<;>simp_all
  simp[loadVar,Sem.run_bind,hagg,sizeOf,typeInfo,hq,hs,hl]
theorem Zbr{P:Program}{op:Oper}{a:Act}{K:Act->World->Prop}{Q:Exit->Act->World->Prop}(ty:TypeId)(x:Operand)(ho:op.op=.load ty x)
  (b o n:Nat) (f:Nat->Value) (hx:a.eval x=.pointer (some ⟨b,o,none⟩)) (d:TypeDesc) (hu:P.underlying ty=some d) (hd:(match d with|.struct _|.array _ _=>true|_=>false)=true) (hi:(P.info? ty).map (·.size)=some n)
  (hc:∀j,j<n->w.cell? ⟨b,o+j,none⟩=some (f j)) (h:K (a.put op.dst (.agg (big n f))) w):op.wp P a w K Q:=by
 unfold Oper.wp execOp
 simp only[ho,hx,Instr.loadAt,Instr.sureAddr,Ue,Sem.run_pure,ZeL w ty d b o n f hu hd hi hc,Uo]
 exact h
theorem Zm{P:Program}{op:Oper}{a:Act}{K:Act->World->Prop}{Q:Exit->Act->World->Prop}(ty:TypeId)(x y:Operand)(ho:op.op=.store ty x y)
  (b o n:Nat) (f:Nat->Value) (hx:a.eval x=.pointer (some ⟨b,o,none⟩)) (hy:a.eval y=.agg (big n f)) (hi:(P.info? ty).map (·.size)=some n)
  (hc:∀j,j<n->(w.cell? ⟨b,o+j,none⟩).isSome=true) (hf:∀j,j<n->w.frozen? ⟨b,o+j,none⟩=false) (h1:∀j,j<n->(f j).oneCell'=true) (h:K (a.put op.dst undef) (w.setCells b o (big n f).toList)):op.wp P a w K Q:=by
 have hl:=Zpc (P:=P) w b o n f hc hf h1
 unfold Oper.wp execOp
 cases hq:P.info? ty with
 | none=>simp[hq]at hi
 | some i=>
  have hs:i.size=n:=by simpa [hq] using hi
  simp[ho,hx,hy,Instr.storeAt,Instr.sureAddr,storeVar,sizeOf,typeInfo,hq,Value.cells,hs,hl,ZgI]
  exact h
theorem ZaK{P:Program}{fn:Func}{p:Tmp}{ty:TypeId}(h:fn.results=#[.cell p ty])(tmps:Array Value)(w:World)(b o n:Nat)(f:Nat->Value)(d:TypeDesc)
  (hp:tmps.getD p undef=.pointer (some ⟨b,o,none⟩)) (hu:P.underlying ty=some d) (hd:(match d with|.struct _|.array _ _=>true|_=>false)=true) (hi:(P.info? ty).map (·.size)=some n)
  (hc:∀j,j<n->w.cell? ⟨b,o+j,none⟩=some (f j)):(results fn tmps).run P w=.ok (.agg (big n f)) w:=by
 have hp':tmps[p]?.getD undef=.pointer (some ⟨b,o,none⟩):=by simpa using hp
 simp[results,h,hp',asAddr,ZeL w ty d b o n f hu hd hi hc]
theorem Zai{x:World}(h:Below B x w)(hB:B<=b)(vs:List Value):∀o,Below B x (w.setCells b o vs):=by
 induction vs generalizing w with
 | nil=>exact λ_=>h
 | cons v r ih=>exact λo=>ih (h.setCell (p:=⟨b,o,none⟩) hB v) (o+1)
theorem Z2{x:World}(h:But b B x w)(vs:List Value):∀o,But b B x (w.setCells b o vs):=by
 induction vs generalizing w with
 | nil=>exact λ_=>h
 | cons v r ih=>exact λo=>ih (h.setCell o v) (o+1)
theorem ZiV(w:World)(g:Nat)(cs:Array Value)(t:TypeId)(hg:w.heap[g]?=some (.cells cs t (0,0))):w.setRow g cs=w:=by
 have h:=run_storeCells_from (P:=prog) g t [] cs.size cs w hg (by simp) (by simp)
 simp only[storeCells,QS]at h
 rw[show cs.toList.take cs.size=cs.toList from Ux (by simp),Array.toArray_toList]at h
 have h2:Result.ok () w=Result.ok () (w.setRow g cs):=h
 injection h2 with _ h3
 exact h3.symm
theorem Zga(w:World)(g:Nat)(cs:Array Value)(t:TypeId)(hg:w.heap[g]?=some (.cells cs t (0,0)))(h1:cs.all (·.oneCell')=true) :
  (storeCells ⟨g,0,none⟩ cs.toList 0).run prog w=.ok () w:=by
 have h:=run_storeCells_from (P:=prog) g t cs.toList 0 cs w hg (by simp) (λv hv=>(Array.all_eq_true_iff_forall_mem.1 h1) v (by simpa using hv))
 rw[h]
 simp only[List.take_zero,List.nil_append,Array.toArray_toList]
 rw[ZiV w g cs t hg]
theorem Zl6(n:Nat)(v:Value)(h:v.oneCell'=true):(Array.replicate n v).all (·.oneCell')=true:=by
 rw[Array.all_eq_true]
 intro i hi
 simp[h]
theorem row3(w:World)(o1 o2 o3:Obj):(((w.alloc o1).alloc o2).alloc o3).heap[w.heap.size+1+1]?=some o3:=by
 have h:=heap_alloc_last ((w.alloc o1).alloc o2) o3
 rw[show ((w.alloc o1).alloc o2).heap.size=w.heap.size+1+1 from by simp]at h
 exact h
theorem row2(w:World)(o1 o2 o3:Obj):(((w.alloc o1).alloc o2).alloc o3).heap[w.heap.size+1]?=some o2:=by
 rw[Below.heap_alloc ((w.alloc o1).alloc o2) o3 (w.heap.size+1) (by simp)]
 have h:=heap_alloc_last (w.alloc o1) o2
 rw[show (w.alloc o1).heap.size=w.heap.size+1 from by simp]at h
 exact h
theorem Zal.of_row{g:Nat}{t:TypeId}(hg:w.heap[g]?=some (.cells (Array.replicate 201 (.bool false)) t (0,0))):Zal w g 0 (λ_=>false):=by
 refine⟨(Ug.1 hg).1,λj hj=>?_,λj hj=>?_⟩
 ·rw[QT,cell_of_row w g j _ t (0,0) hg,Array.getElem?_replicate,if_pos hj]
 ·simp[World.frozen?,hg]
theorem ZcR:Tryz.zeroCells134=Array.replicate 201 (.bool false):=by rfl
def upd(f:Int->Int)(p v:Int):Int->Int:=λx=>if x=p then v else f x
theorem Za8(f:Int->Int)(p v:Int):upd f p v p=v:=if_pos rfl
theorem Zaj{f:Int->Int}{v:Int}(h:x≠p):upd f p v x=f x:=if_neg h
theorem Zn2{f:Int->Int}{v:Int}(h:v=f p):upd f p v=f:=by
 funext x
 by_cases e:x=p
 ·rw[e,Za8,h]
 ·rw[Zaj e]
def ZG(c:ZB)(a:Int->Int)(x d:Int):Prop:=∀P:Int->Prop,P x->(∀y,P y->y≠half c->P (a y))->P d
theorem ZG.refl(c:ZB)(a:Int->Int)(x:Int):ZG c a x x:=λ_ h _=>h
theorem ZG.snoc(h:ZG c a x y)(hy:y≠half c):ZG c a x (a y):=λP h0 h1=>h1 y (h P h0 h1) hy
theorem ZG.trans{z:Int}(h:ZG c a x y)(k:ZG c a y z):ZG c a x z:=
 k (λz=>ZG c a x z) h (λ_ hy hne=>hy.snoc hne)
theorem ZG.head(hx:x≠half c)(h:ZG c a (a x) d):ZG c a x d:=((ZG.refl c a x).snoc hx).trans h
theorem ZG.cases(h:ZG c a x d):d=x∨(x≠half c∧ZG c a (a x) d):=
 h (λd=>d=x∨(x≠half c∧ZG c a (a x) d)) (.inl rfl) (λy hy hne=>by
  rcases hy with rfl|⟨hx,hy⟩
  ·exact .inr ⟨hne,ZG.refl _ _ _⟩
  ·exact .inr ⟨hx,hy.snoc hne⟩)
structure WOk(c:ZB)(t a:Int->Int):Prop where
 nn:∀x,0<=t x
 fin:t (half c)=1
 pos:∀x,0<t x->0<=x∧x<=half c
 inj:∀x y,0<t x->t x=t y->x=y
 down:∀x,0<t x->x≠half c->0<t (a x)∧t (a x)<t x
 edge:∀x,0<t x->x≠half c->∃q,q∈nxt c x∧0<t q∧t q<t x
 via:∀x d,0<t x->x≠half c->d≠x->t d<t (a x)->Reach c (One x) d (a x)
 dom:∀x d,0<t x->x≠half c->d≠x->Zhr c x d->d=a x∨t d<t (a x)
 lone:∀x q,0<t x->x≠half c->q∈nxt c x->t q=0->a x∈nxt c x
 full:∀x q,0<=x->x<half c->q∈nxt c x->0<t q->0<t x
 ends:∀x,0<t x->Reach c (One x) (-1) (half c)
theorem ZgJ(H:WOk c t a)(hx:0<t x)(h:ZG c a x d):0<t d∧(d=x∨t d<t x):=
 h (λd=>0<t d∧(d=x∨t d<t x)) ⟨hx,.inl rfl⟩ (λy hy hne=>by
  have hd:=H.down y hy.1 hne
  refine⟨hd.1,.inr ?_⟩
  rcases hy.2 with rfl|h2
  ·exact hd.2
  ·omega)
theorem Ze5(H:WOk c t a)(hx:0<t x)(h:ZG c a x d):t d<=t x:=by
 rcases(ZgJ H hx h).2 with rfl|h2
 ·exact QP _
 ·omega
theorem ZpY(H:WOk c t a)(hx:0<t x)(h:ZG c a x y)(hd:d≠x)(hlt:t d<t y):Reach c (One x) d y:=
 (h (λy=>0<t y∧(t d<t y->Reach c (One x) d y)) ⟨hx,λ_=>Reach.start rfl (λe=>hd e.symm)⟩ (λy hy hne=>by
  have hdn:=H.down y hy.1 hne
  refine⟨hdn.1,λhl=>?_⟩
  exact(hy.2 (by omega)).trans (H.via y d hy.1 hne (λe=>by subst e;omega) hl))).2 hlt
theorem ZjU(H:WOk c t a):∀n:Nat,∀x d:Int,t x<=n->0<t x->d≠x->Zhr c x d->ZG c a x d:=by
 intro n
 induction n with
 | zero=>intro x d h1 h2;omega
 | succ n ih=>
  intro x d h1 h2 hne hon
  by_cases hK:x=half c
  ·exact absurd (Reach.start (c:=c) (S:=One x) (wall:=d) (i:=half c) hK.symm (λe=>hne (by rw[hK];exact e.symm))) hon
  ·have hdn:=H.down x h2 hK
   rcases H.dom x d h2 hK hne hon with rfl|hlt
   ·exact(ZG.refl _ _ _).snoc hK
   ·refine ZG.head hK (ih (a x) d (by omega) hdn.1 (λe=>by rw[e]at hlt;omega) (λhR=>hon ?_))
    exact(H.via x d h2 hK hne hlt).trans hR
theorem Zd6(h0:0<=x)(h1:x<half c)(hon:Zhr c x d)(hne:d≠x)(hq:q∈nxt c x):q=d∨Zhr c q d:=by
 by_cases e:q=d
 ·exact .inl e
 ·exact .inr (λhR=>hon (((Reach.start (S:=One x) rfl (λe=>hne e.symm)).step ⟨h0,h1,hq⟩ e).trans hR))
theorem ZjV(c:ZB)(x:Int):∃q,q∈nxt c x:=by
 unfold nxt
 split
 ·exact⟨_,QA.2 rfl⟩
 ·split
  ·exact⟨x+1,by simp⟩
  ·exact⟨x+1,by simp⟩
structure Zcp(c:ZB)(t a:Int->Int)(x m:Int):Prop where
 here:∀q,q∈nxt c x->0<t q∧ZG c a q m
 low:∀d,(∀q,q∈nxt c x->ZG c a q d)->ZG c a m d
theorem Zcp.own(H:WOk c t a){m:Int}(h0:0<=x)(h1:x<half c)(M:Zcp c t a x m):0<t x∧0<t m∧t m<t x:=by
 obtain⟨q,hq⟩:=ZjV c x
 have hx:=H.full x q h0 h1 hq (M.here q hq).1
 obtain⟨q2,hq2,_,hl⟩:=H.edge x hx (by omega)
 have h2:=M.here q2 hq2
 have:=Ze5 H h2.1 h2.2
 exact⟨hx,(ZgJ H h2.1 h2.2).1,by omega⟩
theorem ZhM(H:WOk c t a){m:Int}(h0:0<=x)(h1:x<half c)(M:Zcp c t a x m):WOk c t (upd a x m):=by
 obtain⟨hx,hm,hlt⟩:=M.own H h0 h1
 refine⟨H.nn,H.fin,H.pos,H.inj,λy hy hne=>?_,H.edge,λy d hy hne hd hl=>?_,λy d hy hne hd hon=>?_,λy q hy hne hq hq0=>?_,H.full,H.ends⟩
 ·by_cases e:y=x
  ·subst e;rw[Za8];exact⟨hm,hlt⟩
  ·rw[Zaj e];exact H.down y hy hne
 ·by_cases e:y=x
  ·subst e
   rw[Za8]at hl ⊢
   obtain⟨q,hq⟩:=ZjV c y
   have hh:=M.here q hq
   have hle:=Ze5 H hh.1 hh.2
   have hqd:q≠d:=λe=>by subst e;omega
   exact((Reach.start (S:=One y) rfl (λe=>hd e.symm)).step ⟨h0,h1,hq⟩ hqd).trans (ZpY H hh.1 hh.2 (λe=>hqd e.symm) hl)
  ·rw[Zaj e]at hl ⊢;exact H.via y d hy hne hd hl
 ·by_cases e:y=x
  ·subst e
   rw[Za8]
   have hw:=M.low d (λq hq=>by
    rcases Zd6 h0 h1 hon hd hq with rfl|ho
    ·exact ZG.refl _ _ _
    ·by_cases e:d=q
     ·rw[e];exact ZG.refl _ _ _
     ·exact ZjU H (t q).toNat q d (by have:=H.nn q;omega) (M.here q hq).1 e ho)
   exact(ZgJ H hm hw).2
  ·rw[Zaj e];exact H.dom y d hy hne hd hon
 ·by_cases e:y=x
  ·subst e
   have:=(M.here q hq).1
   omega
  ·rw[Zaj e];exact H.lone y q hy hne hq hq0
structure GOk(c:ZB)(t a:Int->Int)(n:Int):Prop where
 nn:∀x,0<=t x
 fin:t (half c)=1
 pos:∀x,0<t x->0<=x∧x<=half c
 inj:∀x y,0<t x->t x=t y->x=y
 top:∀x,t x<=n
 down:∀x,0<t x->x≠half c->a x∈nxt c x∧0<t (a x)∧t (a x)<t x
theorem ZkU(c:ZB):GOk c (upd (λ_=>0) (half c) 1) (upd (λ_=>0) (half c) (half c)) 1:=by
 have hh:=(Z4 c).1
 have h0:∀x,upd (λ_=>0) (half c) 1 x=0∨(x=half c∧upd (λ_=>0) (half c) 1 x=1):=λx=>by
  by_cases e:x=half c
  ·subst e;exact .inr ⟨rfl,Za8 _ _ _⟩
  ·exact .inl (Zaj e)
 refine⟨λx=>?_,Za8 _ _ _,λx hx=>?_,λx y hx hxy=>?_,λx=>?_,λx hx hne=>?_⟩
 ·rcases h0 x with h|⟨_,h⟩<;>omega
 ·rcases h0 x with h|⟨h,_⟩<;>omega
 ·rcases h0 x with h|⟨h,h2⟩
  ·omega
  ·rcases h0 y with k|⟨k,k2⟩
   ·omega
   ·omega
 ·rcases h0 x with h|⟨_,h⟩<;>omega
 ·rcases h0 x with h|⟨h,_⟩<;>omega
theorem Zn3(H:GOk c t a n)(h0:0<=p)(h1:p<half c)(hp:t p=0)(hq:q∈nxt c p)(hq0:0<t q):GOk c (upd t p (n+1)) (upd a p q) (n+1):=by
 have hn:1<=n:=by have:=H.top (half c);rw[H.fin]at this;exact this
 have hqp:q≠p:=λe=>by rw[e,hp]at hq0;omega
 refine⟨λx=>?_,?_,λx hx=>?_,λx y hx hxy=>?_,λx=>?_,λx hx hne=>?_⟩
 ·by_cases e:x=p
  ·subst e;rw[Za8];omega
  ·rw[Zaj e];exact H.nn x
 ·rw[Zaj (by omega)];exact H.fin
 ·by_cases e:x=p
  ·omega
  ·rw[Zaj e]at hx;exact H.pos x hx
 ·by_cases e:x=p
  ·by_cases k:y=p
   ·omega
   ·subst e
    rw[Za8,Zaj k]at hxy
    have:=H.top y
    omega
  ·by_cases k:y=p
   ·subst k
    rw[Za8,Zaj e]at hxy
    have:=H.top x
    omega
   ·rw[Zaj e]at hx
    rw[Zaj e,Zaj k]at hxy
    exact H.inj x y hx hxy
 ·by_cases e:x=p
  ·subst e;rw[Za8];omega
  ·rw[Zaj e];have:=H.top x;omega
 ·by_cases e:x=p
  ·subst e
   rw[Za8,Za8,Zaj hqp]
   have:=H.top q
   exact⟨hq,hq0,by omega⟩
  ·rw[Zaj e]at hx
   have hd:=H.down x hx hne
   have ha:a x≠p:=λk=>by rw[k,hp]at hd;omega
   rw[Zaj e,Zaj e,Zaj ha]
   exact hd
theorem Zl7(H:GOk c t a n)(hfull:∀x q,0<=x->x<half c->q∈nxt c x->0<t q->0<t x):WOk c t a:=by
 have ed:∀x,0<t x->x≠half c->Edge c x (a x):=λx hx hne=>by
  have:=H.pos x hx
  exact⟨this.1,by omega,(H.down x hx hne).1⟩
 have hends:∀n:Nat,∀x,t x<=n->0<t x->Reach c (One x) (-1) (half c):=by
  intro n
  induction n with
  | zero=>intro x h1 h2;omega
  | succ n ih=>
   intro x h1 h2
   have hp:=H.pos x h2
   by_cases e:x=half c
   ·exact Reach.start e.symm (by omega)
   ·have hd:=H.down x h2 e
    exact((Reach.start (S:=One x) rfl (by omega)).step (ed x h2 e) (by have:=H.pos _ hd.2.1;omega)).trans (ih (a x) (by omega) hd.2.1)
 have hdom:∀n:Nat,∀x d,t x<=n->0<t x->d≠x->Zhr c x d->t d<t x:=by
  intro n
  induction n with
  | zero=>intro x d h1 h2;omega
  | succ n ih=>
   intro x d h1 h2 hne hon
   by_cases e:x=half c
   ·exact absurd (Reach.start (c:=c) (S:=One x) (wall:=d) (i:=half c) e.symm (λk=>hne (by rw[e];exact k.symm))) hon
   ·have hd:=H.down x h2 e
    have hp:=H.pos x h2
    by_cases k:d=a x
    ·subst k;exact hd.2.2
    ·rcases Zd6 hp.1 (by omega) hon hne hd.1 with h|h
     ·exact absurd h.symm k
     ·have:=ih (a x) d (by omega) hd.2.1 k h
      omega
 refine⟨H.nn,H.fin,H.pos,H.inj,λx hx hne=>(H.down x hx hne).2,λx hx hne=>⟨a x,H.down x hx hne⟩,λx d hx hne hd hl=>?_,λx d hx hne hd hon=>?_,λx q hx hne _ _=>(H.down x hx hne).1,hfull,λx hx=>hends (t x).toNat x (by omega) hx⟩
 ·exact(Reach.start (S:=One x) rfl (λe=>hd e.symm)).step (ed x hx hne) (λe=>by rw[e]at hl;omega)
 ·have hp:=H.pos x hx
  have hdn:=H.down x hx hne
  by_cases k:d=a x
  ·exact .inl k
  ·rcases Zd6 hp.1 (by omega) hon hd hdn.1 with h|h
   ·exact absurd h.symm k
   ·exact .inr (hdom (t (a x)).toNat (a x) d (by omega) hdn.2.1 k h)
def Zcb(c:ZB)(t:Int->Int)(U:Int->Int->Bool)(x d:Int):Bool:=
 decide (x=d)||(decide (x≠half c)&&(nxt c x).all (λq=>decide (t q=0)||U q d))
theorem ZO:Zcb c t U x d=true↔x=d∨(x≠half c∧∀q,q∈nxt c x->t q=0∨U q d=true):=by
 unfold Zcb
 rw[QJ,Qr,decide_eq_true_iff,decide_eq_true_iff,List.all_eq_true]
 constructor
 ·rintro(h|⟨h1,h2⟩)
  ·exact .inl h
  ·refine .inr ⟨h1,λq hq=>?_⟩
   have:=h2 q hq
   rw[QJ,decide_eq_true_iff]at this
   exact this
 ·rintro(h|⟨h1,h2⟩)
  ·exact .inl h
  ·refine .inr ⟨h1,λq hq=>?_⟩
   rw[QJ,decide_eq_true_iff]
   exact h2 q hq
structure UOk(c:ZB)(t:Int->Int)(U:Int->Int->Bool):Prop where
 trans:∀x y d,U x y=true->U y d=true->U x d=true
 dec:∀x d,Zcb c t U x d=true->U x d=true
theorem UOk.begin(c:ZB)(t:Int->Int):UOk c t (λ_ _=>true):=⟨λ_ _ _ _ _=>rfl,λ_ _ _=>rfl⟩
theorem UOk.step(H:UOk c t U):UOk c t (Zcb c t U):=by
 refine⟨λx y d h1 h2=>?_,λx d h=>?_⟩
 ·rcases ZO.1 h1 with rfl|⟨hx,h3⟩
  ·exact h2
  ·refine ZO.2 (.inr ⟨hx,λq hq=>?_⟩)
   rcases h3 q hq with h|h
   ·exact .inl h
   ·exact .inr (H.trans q y d h (H.dec y d h2))
 ·rcases ZO.1 h with rfl|⟨hx,h3⟩
  ·exact ZO.2 (.inl rfl)
  ·refine ZO.2 (.inr ⟨hx,λq hq=>?_⟩)
   rcases h3 q hq with h|h
   ·exact .inl h
   ·exact .inr (H.dec q d h)
theorem Zgb(H:UOk c t U){z e:Int}(h:Zcb c t U y z=true)(hne:y≠z)(hu:U z e=true):Zcb c t U y e=true:=by
 rcases ZO.1 h with rfl|⟨hx,h3⟩
 ·exact absurd rfl hne
 ·refine ZO.2 (.inr ⟨hx,λq hq=>?_⟩)
  rcases h3 q hq with h|h
  ·exact .inl h
  ·exact .inr (H.trans q z e h hu)
structure Pass(c:ZB)(t a:Int->Int)(U:Int->Int->Bool)(k:Int):Prop where
 sub:∀x d,0<t x->ZG c a x d->U x d=true
 done:∀x d,k<=x->0<t x->ZG c a x d->Zcb c t U x d=true
theorem ZhN(H:WOk c t a)(hU:UOk c t U){m:Int}(h0:0<=x)(h1:x<half c)(M:Zcp c t a x m)(P:Pass c t a U (x+1)):Pass c t (upd a x m) U x:=by
 have H2:=ZhM H h0 h1 M
 have hxm:Zcb c t U x m=true:=ZO.2 (.inr ⟨by omega,λq hq=>.inr (P.sub q m (M.here q hq).1 (M.here q hq).2)⟩)
 have hs:∀z,0<t z->z≠half c->U z (upd a x m z)=true:=λz hz hne=>by
  by_cases e:z=x
  ·subst e;rw[Za8];exact hU.dec _ _ hxm
  ·rw[Zaj e];exact P.sub z _ hz ((ZG.refl _ _ _).snoc hne)
 refine⟨λy d hy hw=>?_,λy d hk hy hw=>?_⟩
 ·exact(hw (λz=>0<t z∧U y z=true) ⟨hy,P.sub y y hy (ZG.refl _ _ _)⟩ (λz hz hne=>⟨(H2.down z hz.1 hne).1,hU.trans y z _ hz.2 (hs z hz.1 hne)⟩)).2
 ·refine(hw (λz=>0<t z∧Zcb c t U y z=true) ⟨hy,ZO.2 (.inl rfl)⟩ (λz hz hne=>⟨(H2.down z hz.1 hne).1,?_⟩)).2
  by_cases e:y=z
  ·subst e
   by_cases k:y=x
   ·subst k;rw[Za8];exact hxm
   ·rw[Zaj k];exact P.done y _ (by omega) hy ((ZG.refl _ _ _).snoc hne)
  ·exact Zgb hU hz.2 e (hs z hz.1 hne)
theorem Zl8(H:WOk c t a)(hU:UOk c t U){q0:Int}(hq:q0∈nxt c x)(hq0:t q0=0)(P:Pass c t a U (x+1)):Pass c t a U x:=by
 refine⟨P.sub,λy d hk hy hw=>?_⟩
 by_cases k:y=x
 ·subst k
  have hs:∀z,0<t z->z≠half c->U z (a z)=true:=λz hz hne=>P.sub z _ hz ((ZG.refl _ _ _).snoc hne)
  refine(hw (λz=>0<t z∧Zcb c t U y z=true) ⟨hy,ZO.2 (.inl rfl)⟩ (λz hz hne=>⟨(H.down z hz.1 hne).1,?_⟩)).2
  by_cases e:y=z
  ·subst e
   have hl:=H.lone y q0 hy hne hq hq0
   have hp:=(H.down y hy hne).1
   refine ZO.2 (.inr ⟨hne,λq hq2=>?_⟩)
   by_cases e:q=a y
   ·rw[e];exact .inr (P.sub _ _ hp (ZG.refl _ _ _))
   ·refine .inl ?_
    have h3:q0≠a y:=λe=>by rw[e]at hq0;omega
    suffices q=q0 by rw[this];exact hq0
    clear hq0 hs hw hz P H hU hp
    unfold nxt at hq hq2 hl
    split at hq
    ·rename_i h8
     rw[if_pos h8]at hq2 hl
     simp only[QA]at hq hq2
     omega
    ·rename_i h8
     rw[if_neg h8]at hq2 hl
     split at hq
     ·rename_i h9
      rw[if_pos h9]at hq2 hl
      simp only[Uc,or_false,QV]at hq hq2 hl
      omega
     ·rename_i h9
      rw[if_neg h9]at hq2 hl
      simp only[QA]at hq hq2
      omega
  ·exact Zgb hU hz.2 e (hs z hz.1 hne)
 ·exact P.done y d (by omega) hy hw
theorem ZkV(H:WOk c t a)(hs:∀x d,0<t x->ZG c a x d->U x d=true):Pass c t a U (half c):=by
 refine⟨hs,λx d hk hx hw=>?_⟩
 have hp:=H.pos x hx
 have e:x=half c:=by omega
 rcases hw.cases with h|⟨h,_⟩
 ·exact ZO.2 (.inl h.symm)
 ·exact absurd e h
theorem Zl9(H:WOk c t a)(hU:UOk c t U)(hs:∀x d,0<t x->ZG c a x d->U x d=true)(hfix:∀x d,0<=x->x<=half c->0<=d->d<=half c->U x d=true->Zcb c t U x d=true)
  {x m:Int} (h0:0<=x) (h1:x<half c) (M:Zcp c t a x m):m=a x:=by
 obtain⟨hx,hm,hlt⟩:=M.own H h0 h1
 have hmp:=H.pos m hm
 have hax:=(H.down x hx (by omega))
 have hap:=H.pos (a x) hax.1
 have key:∀y d,0<t y->0<=d->d<=half c->U y d=true->ZG c a y d:=by
  intro y d hy hd0 hd1 hu
  by_cases e:d=y
  ·rw[e];exact ZG.refl _ _ _
  ·refine ZjU H (t y).toNat y d (by omega) hy e (λhR=>?_)
   have:=hR (λz=>(0<t z->U z d=true)∧z≠d) (λz hz hzd=>⟨λ_=>by rw[show z=y from hz];exact hu,hzd⟩) (λz z2 hz he hzd=>⟨λhz2=>?_,hzd⟩)
   ·have hK:=this.1 (by rw[H.fin];omega)
    have hh:=(Z4 c).1
    rcases ZO.1 (hfix (half c) d hh (QP _) hd0 hd1 hK) with h|⟨h,_⟩
    ·exact this.2 h
    ·exact h rfl
   ·have hz1:=H.full z z2 he.1 he.2.1 he.2.2 hz2
    rcases ZO.1 (hfix z d he.1 (by have:=he.2.1;omega) hd0 hd1 (hz.1 hz1)) with h|⟨_,h⟩
    ·exact absurd h hz.2
    ·rcases h z2 he.2.2 with h|h
     ·omega
     ·exact h
 have hmx:m≠x:=λe=>by rw[e]at hlt;omega
 -- a x is common
 have hcom:∀q,q∈nxt c x->ZG c a q (a x):=λq hq=>by
  have hu:=hs x (a x) hx ((ZG.refl _ _ _).snoc (by omega))
  rcases ZO.1 (hfix x (a x) h0 (by omega) hap.1 hap.2 hu) with h|⟨_,h⟩
  ·exact absurd (congrArg t h) (by omega)
  ·rcases h q hq with h|h
   ·have:=(M.here q hq).1;omega
   ·exact key q (a x) (M.here q hq).1 hap.1 hap.2 h
 have hle:=Ze5 H hm (M.low (a x) hcom)
 have hu:U x m=true:=hU.dec x m (ZO.2 (.inr ⟨by omega,λq hq=>.inr (hs q m (M.here q hq).1 (M.here q hq).2)⟩))
 rcases(key x m hx hmp.1 hmp.2 hu).cases with h|⟨_,h⟩
 ·exact absurd h hmx
 ·exact H.inj m (a x) hm (by have:=Ze5 H hax.1 h;omega)
def ZoX(U:Int->Int->Bool)(x:Int):Nat->Nat
 | 0=>0
 | k+1=>ZoX U x k+(if U x k then 1 else 0)
def Zht(U:Int->Int->Bool)(k:Nat):Nat->Nat
 | 0=>0
 | j+1=>Zht U k j+ZoX U j k
theorem ZpZ{V:Int->Int->Bool}(h:∀d,V x d=true->U x d=true)(k:Nat):ZoX V x k<=ZoX U x k∧(ZoX V x k=ZoX U x k->∀d:Nat,d<k->U x d=true->V x d=true):=by
 induction k with
 | zero=>exact⟨Qb _,λ_ d hd=>by omega⟩
 | succ k ih=>
  have hk:=h k
  cases hv:V x k<;>cases hu:U x k
  ·simp only[ZoX,hv,hu]
   refine⟨by simpa using ih.1,λe d hd hdu=>?_⟩
   by_cases e2:d=k
   ·rw[e2,hu]at hdu;exact absurd hdu (by simp)
   ·exact ih.2 (by simpa using e) d (by omega) hdu
  ·simp only[ZoX,hv,hu]
   refine⟨by simp;omega,λe=>?_⟩
   simp at e
   omega
  ·rw[hv,hu]at hk;exact absurd (hk rfl) (by simp)
  ·simp only[ZoX,hv,hu]
   refine⟨by simpa using ih.1,λe d hd hdu=>?_⟩
   by_cases e2:d=k
   ·rw[e2];exact hv
   ·exact ih.2 (by simpa using e) d (by omega) hdu
theorem ZjW{V:Int->Int->Bool}(h:∀x d,V x d=true->U x d=true)(k j:Nat):Zht V k j<=Zht U k j∧(Zht V k j=Zht U k j->∀x d:Nat,x<j->d<k->U x d=true->V x d=true):=by
 induction j with
 | zero=>exact⟨Qb _,λ_ x d hx=>by omega⟩
 | succ j ih=>
  have hr:=ZpZ (h j) k
  simp only[Zht]
  refine⟨by omega,λe x d hx hd hu=>?_⟩
  by_cases e2:x=j
  ·rw[e2]at hu ⊢;exact hr.2 (by omega) d hd hu
  ·exact ih.2 (by omega) x d (by omega) hd hu
def meas(c:ZB)(U:Int->Int->Bool):Nat:=Zht U ((half c).toNat+1) ((half c).toNat+1)
theorem ZkW(H:WOk c t a)(hU:UOk c t U)(hs:∀x d,0<t x->ZG c a x d->U x d=true){m:Int}(h0:0<=x)(h1:x<half c)(M:Zcp c t a x m)(hne:m≠a x):meas c (Zcb c t U)<meas c U:=by
 have hg:=ZjW (U:=U) (V:=Zcb c t U) (λx d h=>hU.dec x d h) ((half c).toNat+1) ((half c).toNat+1)
 unfold meas
 rcases Nat.lt_or_ge (Zht (Zcb c t U) ((half c).toNat+1) ((half c).toNat+1)) (Zht U ((half c).toNat+1) ((half c).toNat+1)) with h|h
 ·exact h
 ·exfalso
  refine hne (Zl9 H hU hs (λy d hy0 hy1 hd0 hd1 hu=>?_) h0 h1 M)
  have:=hg.2 (by omega) y.toNat d.toNat (by omega) (by omega)
  rw[Qj hy0,Qj hd0]at this
  exact this hu
theorem Zp0(hU:UOk c t U):meas c (Zcb c t U)<=meas c U:=
 (ZjW (U:=U) (V:=Zcb c t U) (λx d h=>hU.dec x d h) ((half c).toNat+1) ((half c).toNat+1)).1
structure Narrow(c:ZB)(t a:Int->Int):Prop where
 w:WOk c t a
 m:∀x,0<=x->x<half c->(∀q,q∈nxt c x->0<t q)->Zcp c t a x (a x)
theorem ZfS(hr:Ranged c)(N:Narrow c t a){i:Int}(h0:0<=i)(h1:i<half c)(hall:∀x,Reach c (One i) (-1) x->0<t x):IsJ c i (a i):=by
 have H:=N.w
 have hi:=hall i (Reach.start rfl (by omega))
 have hd:=H.down i hi (by omega)
 have hp:=H.pos _ hd.1
 have hne:a i≠i:=λe=>by rw[e]at hd;omega
 have hon:Zhr c i (a i):=λhR=>by
  have:=hR (λx=>Reach c (One i) (-1) x∧x≠a i∧ZG c a x (a i)) (λx hx hw=>?_) (λx y hx he hw=>?_)
  ·rcases this.2.2.cases with h|⟨h,_⟩
   ·exact this.2.1 h.symm
   ·exact h rfl
  ·have hx:x=i:=hx
   subst hx
   exact⟨Reach.start rfl (by omega),hw,(ZG.refl _ _ _).snoc (by omega)⟩
  ·have hy:=hx.1.step he (by have:=(hr x y he).1;omega)
   refine⟨hy,hw,?_⟩
   rcases hx.2.2.cases with h|⟨_,h⟩
   ·exact absurd h.symm hx.2.1
   ·exact((N.m x he.1 he.2.1 (λq hq=>hall q (hx.1.step ⟨he.1,he.2.1,hq⟩ (by have:=(hr x q ⟨he.1,he.2.1,hq⟩).1;omega)))).here y he.2.2).2.trans h
 refine⟨hp.1,hp.2,hne,hon,λb hb0 hb1 hbi hbj hob hR=>?_⟩
 have hbpos:=hall b (hR.free hr h0)
 have hw:=ZjU H (t i).toNat i b (by omega) hi hbi hob
 have hlt:t b<t (a i):=by
  rcases hw.cases with h|⟨_,h⟩
  ·exact absurd h hbi
  ·rcases(ZgJ H hd.1 h).2 with h2|h2
   ·exact absurd h2 hbj
   ·exact h2
 have hnot:¬Zhr c b (a i):=λho=>by
  have:=Ze5 H hbpos (ZjU H (t b).toNat b (a i) (by omega) hbpos (λe=>hbj e.symm) ho)
  omega
 exact hnot (λhK=>hon (hR.trans hK))
structure Zu(w:World)(b:Nat)(n:Int)(t v c:ZB)(k:Int)(T A:Int->Int):Prop where
 lt:b<w.heap.size
 c0:w.cell? ⟨b,0,none⟩=some (.int .i64 n)
 c1:w.cell? ⟨b,1,none⟩=some (.string t)
 c2:w.cell? ⟨b,2,none⟩=some (.string v)
 c3:w.cell? ⟨b,3,none⟩=some (.string c)
 k:w.cell? ⟨b,4,none⟩=some (.int .i64 k)
 t:∀j:Nat,j<201->w.cell? ⟨b,5+j,none⟩=some (.int .i64 (T j))
 a:∀j:Nat,j<201->w.cell? ⟨b,206+j,none⟩=some (.int .i64 (A j))
 f:∀j:Nat,j<407->w.frozen? ⟨b,j,none⟩=false
theorem Zu.step{t:ZB}(h:Zu w b n t v c k T A)(hb:Below w.heap.size w w1):Zu w1 b n t v c k T A:=by
 have e:∀j,w1.cell? ⟨b,j,none⟩=w.cell? ⟨b,j,none⟩:=λj=>hb.cell (p:=⟨b,j,none⟩) h.lt
 exact⟨Qq h.lt hb.size,by rw[e];exact h.c0,by rw[e];exact h.c1,by rw[e];exact h.c2,by rw[e];exact h.c3,by rw[e];exact h.k,λj hj=>by rw[e];exact h.t j hj,λj hj=>by rw[e];exact h.a j hj,λj hj=>by rw[hb.frozen (p:=⟨b,j,none⟩) h.lt];exact h.f j hj⟩
theorem Zf(w:World)(b i j:Nat)(x:Value)(h:i≠j):(w.setCell ⟨b,i,none⟩ x).cell? ⟨b,j,none⟩=w.cell? ⟨b,j,none⟩:=
 QN w ⟨b,i,none⟩ ⟨b,j,none⟩ x (by intro k;exact h (congrArg Addr.off k))
theorem Zu.setK{t:ZB}(h:Zu w b n t v c k T A)(x:Int):Zu (w.setCell ⟨b,4,none⟩ (.int .i64 x)) b n t v c x T A:=by
 refine⟨by simpa using h.lt,?_,?_,?_,?_,World.cell?_setCell_same _ _ _ h.k,λj hj=>?_,λj hj=>?_,λj hj=>by rw[World.frozen?_setCell];exact h.f j hj⟩
 ·rw[Zf _ _ _ _ _ (by omega)];exact h.c0
 ·rw[Zf _ _ _ _ _ (by omega)];exact h.c1
 ·rw[Zf _ _ _ _ _ (by omega)];exact h.c2
 ·rw[Zf _ _ _ _ _ (by omega)];exact h.c3
 ·rw[Zf _ _ _ _ _ (by omega)];exact h.t j hj
 ·rw[Zf _ _ _ _ _ (by omega)];exact h.a j hj
theorem Zu.setT{t:ZB}(h:Zu w b n t v c k T A)(p:Nat)(hp:p<201)(x:Int):Zu (w.setCell ⟨b,5+p,none⟩ (.int .i64 x)) b n t v c k (upd T p x) A:=by
 refine⟨by simpa using h.lt,?_,?_,?_,?_,?_,λj hj=>?_,λj hj=>?_,λj hj=>by rw[World.frozen?_setCell];exact h.f j hj⟩
 ·rw[Zf _ _ _ _ _ (by omega)];exact h.c0
 ·rw[Zf _ _ _ _ _ (by omega)];exact h.c1
 ·rw[Zf _ _ _ _ _ (by omega)];exact h.c2
 ·rw[Zf _ _ _ _ _ (by omega)];exact h.c3
 ·rw[Zf _ _ _ _ _ (by omega)];exact h.k
 ·by_cases e:j=p
  ·subst e;rw[Za8];exact Qk _ _ _ (h.t j hj)
  ·rw[Zf _ _ _ _ _ (by omega),Zaj (by omega)];exact h.t j hj
 ·rw[Zf _ _ _ _ _ (by omega)];exact h.a j hj
theorem Zu.setA{t:ZB}(h:Zu w b n t v c k T A)(p:Nat)(hp:p<201)(x:Int):Zu (w.setCell ⟨b,206+p,none⟩ (.int .i64 x)) b n t v c k T (upd A p x):=by
 refine⟨by simpa using h.lt,?_,?_,?_,?_,?_,λj hj=>?_,λj hj=>?_,λj hj=>by rw[World.frozen?_setCell];exact h.f j hj⟩
 ·rw[Zf _ _ _ _ _ (by omega)];exact h.c0
 ·rw[Zf _ _ _ _ _ (by omega)];exact h.c1
 ·rw[Zf _ _ _ _ _ (by omega)];exact h.c2
 ·rw[Zf _ _ _ _ _ (by omega)];exact h.c3
 ·rw[Zf _ _ _ _ _ (by omega)];exact h.k
 ·rw[Zf _ _ _ _ _ (by omega)];exact h.t j hj
 ·by_cases e:j=p
  ·subst e;rw[Za8];exact Qk _ _ _ (h.a j hj)
  ·rw[Zf _ _ _ _ _ (by omega),Zaj (by omega)];exact h.a j hj
theorem ZgK(b:Nat)(n:Int)(t v c:ZB)(k:Int)(T A:Int->Int)(p:Nat)(w:World)(H:Zu w b n t v c k T A)(hp:p<201) :
  Calls prog 181 #[.pointer (some ⟨b,0,none⟩),.int .i64 p] w λe w'=>e=.returned (.int .i64 (T p))∧w'=w:=by
 have hc:=H.t p hp
 have hp2:(p:Int)<201:=by omega
 clear H
 go_enter func181,ntmps181
 go_wp2
 go_ret
 exact⟨rfl,rfl⟩
theorem Zdv(b:Nat)(n:Int)(t v c:ZB)(k:Int)(T A:Int->Int)(p:Nat)(w:World)(H:Zu w b n t v c k T A)(hp:p<201) :
  Calls prog 179 #[.pointer (some ⟨b,0,none⟩),.int .i64 p] w λe w'=>e=.returned (.int .i64 (A p))∧w'=w:=by
 have hc:=H.a p hp
 have hp2:(p:Int)<201:=by omega
 clear H
 go_enter func179,ntmps179
 go_wp2
 go_ret
 exact⟨rfl,rfl⟩
theorem Zn4(b:Nat)(n x:Int)(t v c:ZB)(k:Int)(T A:Int->Int)(p:Nat)(w:World)(H:Zu w b n t v c k T A)(hp:p<201) :
  Calls prog 180 #[.pointer (some ⟨b,0,none⟩),.int .i64 p,.int .i64 x] w λe w'=>e=.returned (.tuple #[])∧w'=w.setCell ⟨b,206+p,none⟩ (.int .i64 x):=by
 have hc:=H.a p hp
 have hf:=H.f (206+p) (by omega)
 have hp2:(p:Int)<201:=by omega
 clear H
 go_enter func180,ntmps180
 go_wp2
 first|go_end0|refine Qi (Qp rfl _ _ _) rfl ?_
 exact⟨rfl,rfl⟩
theorem ZcS(b:Nat)(n:Int)(t v c:ZB)(k:Int)(T A:Int->Int)(p:Nat)(w:World)(H:Zu w b n t v c k T A)(hp:p<201) :
  Calls prog 121 #[.pointer (some ⟨b,0,none⟩),.int .i64 p] w λe w'=>e=.returned (.bool (decide (0<T p)))∧w'=w:=by
 go_enter func121,ntmps121
 go_wp2_with fail
 refine(ZgK b n t v c k T A p w H hp).mono ?_
 rintro e w1 ⟨rfl,rfl⟩
 go_wp2
 go_ret
 exact⟨rfl,rfl⟩
theorem ZgL(b:Nat)(n:Int)(t v c:ZB)(k:Int)(T A:Int->Int)(p:Nat)(w:World)(H:Zu w b n t v c k T A)(hp:p<201)(hT:0<T p) :
  Calls prog 125 #[.pointer (some ⟨b,0,none⟩),.int .i64 p] w λe w'=>e=.returned (.int .i64 (A p))∧w'=w:=by
 have hd:decide (0<T p)=true:=Qv hT
 go_enter func125,ntmps125
 go_wp2_with fail
 refine(ZcS b n t v c k T A p w H hp).mono ?_
 rintro e w1 ⟨rfl,rfl⟩
 rw[hd]
 go_wp2_with fail
 refine(Zdv b n t v c k T A p _ H hp).mono ?_
 rintro e w1 ⟨rfl,rfl⟩
 go_wp2
 go_ret
 exact⟨rfl,rfl⟩
theorem ZjX(b:Nat)(n x:Int)(t v c:ZB)(k:Int)(T A:Int->Int)(p:Nat)(w:World)(H:Zu w b n t v c k T A)(hp:p<201)(hT:0<T p) :
  Calls prog 117 #[.pointer (some ⟨b,0,none⟩),.int .i64 p,.int .i64 x] w λe w'=>e=.returned (.bool false)∧w'=w:=by
 have hc:=H.t p hp
 have hp2:(p:Int)<201:=by omega
 clear H
 go_enter func117,ntmps117
 go_wp2
 go_ret
 exact⟨rfl,rfl⟩
theorem ZgM(b:Nat)(n x:Int)(t v c:ZB)(k:Int)(T A:Int->Int)(p:Nat)(w:World)(H:Zu w b n t v c k T A)(hp:p<201)(hT:T p=0)(hk0:0<=k)(hk:k<=1000) :
  Calls prog 117 #[.pointer (some ⟨b,0,none⟩),.int .i64 p,.int .i64 x] w λe w'=>e=.returned (.bool true)∧Zu w' b n t v c (k+1) (upd T p (k+1)) (upd A p x)∧But b w.heap.size w w':=by
 have hc:=H.t p hp
 rw[hT]at hc
 have hk4:=H.k
 have hf4:=H.f 4 (by omega)
 have hp2:(p:Int)<201:=by omega
 have hK:Kp (Zu w b n t v c k T A):=⟨H⟩
 clear H
 go_enter func117,ntmps117
 go_wp2
 obtain⟨w1,hw1⟩:∃w1,w1=w.setCell ⟨b,4,none⟩ (.int .i64 (k+1)):=⟨_,rfl⟩
 rw[<-hw1]
 have H1:Zu w1 b n t v c (k+1) T A:=by rw[hw1];exact hK.out.setK _
 have hB1:But b w.heap.size w w1:=by rw[hw1];exact(But.refl _ _ _).setCell _ _
 have r4:=H1.k
 have rp:=H1.t p hp
 have rf:=H1.f (5+p) (by omega)
 replace H1:=Z_ H1
 clear hw1 hc hk4 hf4
 go_region
 obtain⟨w2,hw2⟩:∃w2,w2=(w1.setCell ⟨b,5+p,none⟩ (.int .i64 (k+1))).drew:=⟨_,rfl⟩
 rw[<-hw2]
 have H2:Zu w2 b n t v c (k+1) (upd T p (k+1)) A:=by rw[hw2];exact(H1.out.setT p hp (k+1)).step ((Qh _ _).drew)
 have hB2:But b w.heap.size w w2:=by rw[hw2];exact hB1.trans (((But.refl _ _ _).setCell _ _).trans (But.of ((Qh _ _).drew)))
 have rp:=H2.a p hp
 have rf:=H2.f (206+p) (by omega)
 replace H2:=Z_ H2
 clear hw2 r4 hB1 H1 hK
 go_wp2
 go_ret
 exact⟨rfl,H2.out.setA p hp x,hB2.setCell _ _⟩
structure ZlB(c:ZB)(T A:Int->Int)(p m:Int)(ok:Bool):Prop where
 yes:ok=true->Zcp c T A p m
 no:ok=false->∃q,q∈nxt c p∧T q=0
structure ZeH(c:ZB)(T A:Int->Int)(q1 q2 x y:Int):Prop where
 x0:0<=x
 x1:x<=half c
 y0:0<=y
 y1:y<=half c
 wx:ZG c A q1 x
 wy:ZG c A q2 y
 px:x=q1∨(0<T q1∧0<T x)
 py:y=q2∨(0<T q2∧0<T y)
 com:∀d,ZG c A q1 d->ZG c A q2 d->ZG c A x d∧ZG c A y d
theorem ZeH.left{q1 q2:Int}(H:WOk c T A)(S:ZeH c T A q1 q2 x y)(hx:T x≠0)(hy:T y≠0)(hlt:T y<T x):ZeH c T A q1 q2 (A x) y∧T (A x)<T x∧0<=T (A x):=by
 have nx:=H.nn x
 have ny:=H.nn y
 have hK:x≠half c:=λe=>by rw[e,H.fin]at hlt;omega
 have hd:=H.down x (by omega) hK
 have hp:=H.pos _ hd.1
 refine⟨⟨hp.1,hp.2,S.y0,S.y1,S.wx.snoc hK,S.wy,.inr ⟨?_,hd.1⟩,S.py,λd h1 h2=>?_⟩,hd.2,by omega⟩
 ·rcases S.px with h|h
  ·rw[<-h];omega
  ·exact h.1
 ·have hc:=S.com d h1 h2
  refine⟨?_,hc.2⟩
  rcases hc.1.cases with h|⟨_,h⟩
  ·have:=Ze5 H (by omega) hc.2
   rw[h]at this
   omega
  ·exact h
theorem ZeH.right{q1 q2:Int}(H:WOk c T A)(S:ZeH c T A q1 q2 x y)(hx:T x≠0)(hy:T y≠0)(hne:x≠y)(hlt:¬T y<T x):ZeH c T A q1 q2 x (A y)∧T (A y)<T y∧0<=T (A y):=by
 have nx:=H.nn x
 have ny:=H.nn y
 have hl:T x<T y:=by
  rcases Int.lt_or_eq_of_le (by omega:T x<=T y) with h|h
  ·exact h
  ·exact absurd (H.inj x y (by omega) h) hne
 have hK:y≠half c:=λe=>by rw[e,H.fin]at hl;omega
 have hd:=H.down y (by omega) hK
 have hp:=H.pos _ hd.1
 refine⟨⟨S.x0,S.x1,hp.1,hp.2,S.wx,S.wy.snoc hK,S.px,.inr ⟨?_,hd.1⟩,λd h1 h2=>?_⟩,hd.2,by omega⟩
 ·rcases S.py with h|h
  ·rw[<-h];omega
  ·exact h.1
 ·have hc:=S.com d h1 h2
  refine⟨hc.1,?_⟩
  rcases hc.2.cases with h|⟨_,h⟩
  ·have:=Ze5 H (by omega) hc.1
   rw[h]at this
   omega
  ·exact h
theorem ZeH.none(h0:0<=p)(h1:p<half c)(S:ZeH c T A (nx1 c p) (nx2 c p) x y)(h:T x=0∨T y=0):ZlB c T A p 0 false:=by
 refine⟨λh=>absurd h (by simp),λ_=>?_⟩
 rcases h with h|h
 ·rcases S.px with k|k
  ·exact⟨nx1 c p,(Zah h1).2 (.inl rfl),by rw[<-k];exact h⟩
  ·omega
 ·rcases S.py with k|k
  ·exact⟨nx2 c p,(Zah h1).2 (.inr rfl),by rw[<-k];exact h⟩
  ·omega
theorem ZeH.met(H:WOk c T A)(h0:0<=p)(h1:p<half c)(S:ZeH c T A (nx1 c p) (nx2 c p) x x):ZlB c T A p x (decide (0<T x)):=by
 have nx:=H.nn x
 refine⟨λh=>?_,λh=>?_⟩
 ·have hx:=QB h
  refine⟨λq hq=>?_,λd hd=>?_⟩
  ·rcases(Zah h1).1 hq with e|e
   ·rw[e]
    refine⟨?_,S.wx⟩
    rcases S.px with k|k
    ·rw[<-k];exact hx
    ·exact k.1
   ·rw[e]
    refine⟨?_,S.wy⟩
    rcases S.py with k|k
    ·rw[<-k];exact hx
    ·exact k.1
  ·exact(S.com d (hd _ ((Zah h1).2 (.inl rfl))) (hd _ ((Zah h1).2 (.inr rfl)))).1
 ·have hx:=Ul h
  have h3:=S.none h0 h1 (.inl (by omega))
  exact h3.no rfl
theorem ZiW(b p:Nat)(n k:Int)(t v c:ZB)(T A:Int->Int)(w:World)(hc:c.size<=maxLen)(hK:half c<=200)(hr:Kp (Ranged c))(H:Zu w b n t v c k T A)(hW:Kp (WOk c T A))(hp:(p:Int)<half c) :
  Calls prog 178 #[.pointer (some ⟨b,0,none⟩),.int .i64 p] w λe w'=>
   ∃(m:Int) (ok:Bool),e=.returned (.tuple #[.int .i64 m,.bool ok])∧Kp (ZlB c T A p m ok)∧Below w.heap.size w w':=by
 obtain⟨⟨n1,n2⟩,n3,n4⟩:=ZkT hr.out (k:=p) (by omega) (by omega)
 have hS:Kp (ZeH c T A (nx1 c p) (nx2 c p) (nx1 c p) (nx2 c p)):=⟨⟨n1,n2,n3,n4,ZG.refl _ _ _,ZG.refl _ _ _,.inl rfl,.inl rfl,λd h1 h2=>⟨h1,h2⟩⟩⟩
 have q0:=H.c0
 have q1:=H.c1
 have q2:=H.c2
 have q3:=H.c3
 go_enter func178,ntmps178
 go_wp2_with fail
 refine(Za0 n p t v c _ hc hK (by omega) (by omega)).mono ?_
 rintro e w1 ⟨rfl,hb1⟩
 have H1:=H.step hb1
 clear q0 q1 q2 q3 H
 go_wp2_with fail
 go_loop [6,7] (λx y=>∃(x1 y1:Nat),x=.int .i64 x1∧y=.int .i64 y1∧Kp (ZeH c T A (nx1 c p) (nx2 c p) x1 y1)) (λx y=>(T (intOf x)+T (intOf y)).toNat)
 case atStart=>exact⟨(nx1 c p).toNat,(nx2 c p).toNat,by rw[Qj n1],by rw[Qj n3],⟨by rw[Qj n1,Qj n3];exact hS.out⟩⟩
 case round=>
  clear hS n1 n2 n3 n4
  obtain⟨x,y,rfl,rfl,hS⟩:=hrel
  have x1:=hS.out.x1
  have y1:=hS.out.y1
  by_cases hxy:x=y
  ·subst hxy
   have hR:Kp (ZlB c T A p x (decide (0<T x))):=⟨hS.out.met hW.out (by omega) hp⟩
   go_wp2_with fail
   refine(ZcS b n t v c k T A x _ H1 (by omega)).mono ?_
   rintro e w2 ⟨rfl,rfl⟩
   go_wp2
   go_ret2
   exact⟨x,_,rfl,hR,hb1⟩
  ·have hne:((x:Int) != (y:Int))=true:=by simp;omega
   have hne':(x:Int)≠(y:Int):=by omega
   replace hne':=Z_ hne'
   clear hxy
   go_wp2_with fail
   refine(ZgK b n t v c k T A x _ H1 (by omega)).mono ?_
   rintro e w2 ⟨rfl,rfl⟩
   go_wp2_with fail
   refine(ZgK b n t v c k T A y _ H1 (by omega)).mono ?_
   rintro e w2 ⟨rfl,rfl⟩
   have nx:=hW.out.nn x
   have ny:=hW.out.nn y
   obtain⟨tx,htx⟩:∃tx,T x=tx:=⟨_,rfl⟩
   obtain⟨ty,hty⟩:∃ty,T y=ty:=⟨_,rfl⟩
   rw[htx,hty]
   rw[htx]at nx
   rw[hty]at ny
   by_cases h0:tx=0
   ·have hR:Kp (ZlB c T A p 0 false):=⟨hS.out.none (by omega) hp (.inl (by rw[htx];exact h0))⟩
    replace htx:=Z_ htx
    replace hty:=Z_ hty
    subst h0
    go_wp2
    go_ret2
    exact⟨0,false,rfl,hR,hb1⟩
   ·have h1:(tx==0)=false:=Qf.2 h0
    by_cases h02:ty=0
    ·have hR:Kp (ZlB c T A p 0 false):=⟨hS.out.none (by omega) hp (.inr (by rw[hty];exact h02))⟩
     replace htx:=Z_ htx
     replace hty:=Z_ hty
     subst h02
     go_wp2
     go_ret2
     exact⟨0,false,rfl,hR,hb1⟩
    ·have h2:(ty==0)=false:=Qf.2 h02
     by_cases hlt:ty<tx
     ·obtain⟨hS2,hdn,hnn⟩:=hS.out.left hW.out (by rw[htx];omega) (by rw[hty];omega) (by rw[htx,hty];exact hlt)
      have hax:=hS2.x0
      replace hS2:=Z_ hS2
      replace hdn:=Z_ hdn
      replace hnn:=Z_ hnn
      replace htx:=Z_ htx
      replace hty:=Z_ hty
      go_wp2_with fail
      refine(Zdv b n t v c k T A x _ H1 (by omega)).mono ?_
      rintro e w2 ⟨rfl,rfl⟩
      go_wp2_with fail
      refine⟨⟨(A x).toNat,y,by rw[Qj hax],rfl,⟨by rw[Qj hax];exact hS2.out⟩⟩,?_⟩
      have h3:=hdn.out
      have h4:=hnn.out
      have h5:=htx.out
      have h6:=hty.out
      simp only[intOf]
      omega
     ·obtain⟨hS2,hdn,hnn⟩:=hS.out.right hW.out (by rw[htx];omega) (by rw[hty];omega) hne'.out (by rw[htx,hty];exact hlt)
      have hax:=hS2.y0
      replace hS2:=Z_ hS2
      replace hdn:=Z_ hdn
      replace hnn:=Z_ hnn
      replace htx:=Z_ htx
      replace hty:=Z_ hty
      go_wp2_with fail
      refine(Zdv b n t v c k T A y _ H1 (by omega)).mono ?_
      rintro e w2 ⟨rfl,rfl⟩
      go_wp2_with fail
      refine⟨⟨x,(A y).toNat,rfl,by rw[Qj hax],⟨by rw[Qj hax];exact hS2.out⟩⟩,?_⟩
      have h3:=hdn.out
      have h4:=hnn.out
      have h5:=htx.out
      have h6:=hty.out
      simp only[intOf]
      omega
def ZjF(T:Int->Int)(k:Nat):Nat:=ZfN (λj=>decide (0<T j)) k
structure Zdk(c:ZB)(T0 T A:Int->Int)(k:Int)(g:Bool)(q:Int):Prop where
 ok:GOk c T A k
 bd:k+ZjF T 201<=201
 no:g=false->T=T0∧∀x s,q<=x->x<half c->s∈nxt c x->0<T s->0<T x
 yes:g=true->ZjF T 201<ZjF T0 201
 le:ZjF T 201<=ZjF T0 201
theorem ZjY{p:Nat}(hp:p<201)(h:T p=0)(hx:0<x):ZjF (upd T p x) 201+1=ZjF T 201:=by
 have h2:=Zdu (m:=λj=>decide (0<T j)) (k:=201) (j:=p) hp (by simp;omega)
 unfold ZjF
 rw[<-h2]
 congr 1
 refine ZhK (λi _=>?_)
 by_cases e:i=p
 ·subst e;rw[Za8];simp[hx]
 ·rw[Zaj (by omega)];simp[e]
theorem Zdk.skip{T0:Int->Int}(h:Zdk c T0 T A k g (p+1))(hs:∀s,s∈nxt c p->0<T s->0<T p):Zdk c T0 T A k g p:=
 ⟨h.ok,h.bd,λhg=>⟨(h.no hg).1,λx s h1 h2 h3 h4=>by
  by_cases e:x=p
  ·subst e;exact hs s h3 h4
  ·exact(h.no hg).2 x s (by omega) h2 h3 h4⟩,h.yes,h.le⟩
theorem Zdk.add{T0:Int->Int}{p:Nat}{s:Int}(h:Zdk c T0 T A k g ((p:Int)+1))(hp:(p:Int)<half c)(hK:half c<=200)(hT:T p=0)(hs:s∈nxt c p)(hs0:0<T s):Zdk c T0 (upd T p (k+1)) (upd A p s) (k+1) true p:=by
 have h1:1<=k:=by have:=h.ok.top (half c);rw[h.ok.fin]at this;exact this
 have hc:=ZjY (T:=T) (p:=p) (x:=k+1) (by omega) hT (by omega)
 have hb:=h.bd
 have hl:=h.le
 exact⟨Zn3 h.ok (by omega) hp hT hs hs0,by omega,λh=>absurd h (by simp),λ_=>by omega,by omega⟩
theorem Zn5(b:Nat)(n k0:Int)(t v c:ZB)(T0 A0:Int->Int)(w:World)(hc:c.size<=maxLen)(hK:half c<=200)(hr:Kp (Ranged c))(H:Zu w b n t v c k0 T0 A0)(hG:Kp (GOk c T0 A0 k0))(hbd:Kp (k0+ZjF T0 201<=201)) :
  Calls prog 118 #[.pointer (some ⟨b,0,none⟩)] w λe w'=>
   ∃(g:Bool) (k:Int) (T A:Int->Int),e=.returned (.bool g)∧Zu w' b n t v c k T A∧Kp (Zdk c T0 T A k g 0)∧But b w.heap.size w w':=by
 have hh:=(Z4 c).1
 have q0:=H.c0
 have q1:=H.c1
 have q2:=H.c2
 have q3:=H.c3
 go_enter func118,ntmps118
 go_wp2_with fail
 refine(ZT n t v c _ hc).mono ?_
 rintro e w1 ⟨rfl,hb1⟩
 have H1:=H.step hb1
 have hlt:=H.lt
 have hG1:Kp (Zdk c T0 T0 A0 k0 false (half c)):=⟨⟨hG.out,hbd.out,λ_=>⟨rfl,λx s h1 h2=>absurd h2 (by omega)⟩,λh=>absurd h (by simp),Qb _⟩⟩
 have hB1:But b w.heap.size w w1:=But.of hb1
 clear q0 q1 q2 q3 H hG hbd hb1
 go_wp2_with fail
 go_loopw [3,4] (λg i wr=>∃(gb:Bool) (p:Nat) (k:Int) (T A:Int->Int),g=.bool gb∧(p:Int)<=half c∧i=.int .i64 ((p:Int)-1)∧Zu wr b n t v c k T A∧Kp (Zdk c T0 T A k gb p)∧But b w.heap.size w wr) (λ_ i _=>(intOf i+1).toNat)
 case atStart=>exact⟨false,(half c).toNat,k0,T0,A0,rfl,by omega,by rw[Qj hh],H1,⟨by rw[Qj hh];exact hG1.out⟩,hB1⟩
 case round=>
  clear H1 hG1 hB1
  obtain⟨gb,p,k,T,A,rfl,hp,rfl,H,hS,hB⟩:=hrel
  cases p with
  | zero=>
   go_wp2
   go_ret
   exact⟨gb,k,T,A,rfl,H,hS,hB⟩
  | succ p=>
   rw[show (((p+1:Nat):Int)-1)=(p:Int) from by omega]
   have hp2:(p:Int)<half c:=by omega
   replace hS:Kp (Zdk c T0 T A k gb ((p:Int)+1)):=⟨by have:=hS.out;rwa [show ((p+1:Nat):Int)=(p:Int)+1 from by omega]at this⟩
   clear hp
   obtain⟨⟨n1,n2⟩,n3,n4⟩:=ZkT hr.out (k:=p) (by omega) (by omega)
   obtain⟨a1,e1⟩:∃a1:Nat,nx1 c p=a1:=⟨(nx1 c p).toNat,by omega⟩
   obtain⟨a2,e2⟩:∃a2:Nat,nx2 c p=a2:=⟨(nx2 c p).toNat,by omega⟩
   have m1:Kp ((a1:Int)∈nxt c p):=⟨(Zah hp2).2 (.inl e1.symm)⟩
   have m2:Kp ((a2:Int)∈nxt c p):=⟨(Zah hp2).2 (.inr e2.symm)⟩
   have m3:Kp (∀x,x∈nxt c p->x=a1∨x=a2):=⟨λx hx=>by have:=(Zah hp2).1 hx;rwa [e1,e2]at this⟩
   rw[e1]at n1 n2
   rw[e2]at n3 n4
   have q0:=H.c0
   have q1:=H.c1
   have q2:=H.c2
   have q3:=H.c3
   go_wp2_with fail
   refine(Za0 n p t v c _ hc hK (by omega) (by omega)).mono ?_
   rintro e w2 ⟨rfl,hb2⟩
   have H2:=H.step hb2
   have hB2:=hB.trans (But.of (hb2.mono hB.size))
   clear q0 q1 q2 q3 H hB hb2
   rw[e1,e2]
   clear e1 e2
   go_wp2_with fail
   refine(ZcS b n t v c k T A a1 _ H2 (by omega)).mono ?_
   rintro e w3 ⟨rfl,rfl⟩
   by_cases hT1:0<T a1
   ·rw[Qv hT1]
    have hmem:=m1
    have hpos:Kp (0<T a1):=⟨hT1⟩
    go_wp2_with fail
    refine(ZcS b n t v c k T A a1 _ H2 (by omega)).mono ?_
    rintro e w3 ⟨rfl,rfl⟩
    rw[Qv hT1]
    clear hT1
    by_cases hTp:0<T p
    ·have hS2:Kp (Zdk c T0 T A k gb p):=⟨hS.out.skip (λ_ _ _=>hTp)⟩
     go_wp2_with fail
     refine(ZjX b n a1 t v c k T A p _ H2 (by omega) hTp).mono ?_
     rintro e w3 ⟨rfl,rfl⟩
     go_wp2_with fail
     go_roundw
     case rel=>exact⟨gb,p,k,T,A,rfl,by omega,rfl,H2,hS2,hB2⟩
     case measure=>simp[intOf]
    ·have hT0:T p=0:=by have:=hS.out.ok.nn p;omega
     have hk1:=hS.out.ok.top (half c)
     rw[hS.out.ok.fin]at hk1
     have hk2:=hS.out.bd
     have hS2:Kp (Zdk c T0 (upd T p (k+1)) (upd A p a1) (k+1) true p):=⟨hS.out.add hp2 hK hT0 hmem.out hpos.out⟩
     go_wp2_with fail
     refine(ZgM b n a1 t v c k T A p _ H2 (by omega) hT0 (by omega) (by omega)).mono ?_
     rintro e w3 ⟨rfl,H3,hb3⟩
     have hB3:=hB2.trans (hb3.mono hB2.size)
     clear H2 hB2 hb3
     go_wp2_with fail
     go_roundw
     case rel=>exact⟨true,p,k+1,_,_,rfl,by omega,rfl,H3,hS2,hB3⟩
     case measure=>simp[intOf]
   ·rw[Qx hT1]
    go_wp2_with fail
    refine(ZcS b n t v c k T A a2 _ H2 (by omega)).mono ?_
    rintro e w3 ⟨rfl,rfl⟩
    by_cases hT2:0<T a2
    ·rw[Qv hT2]
     have hmem:=m2
     have hpos:Kp (0<T a2):=⟨hT2⟩
     clear hT1 hT2
     by_cases hTp:0<T p
     ·have hS2:Kp (Zdk c T0 T A k gb p):=⟨hS.out.skip (λ_ _ _=>hTp)⟩
      go_wp2_with fail
      refine(ZjX b n a2 t v c k T A p _ H2 (by omega) hTp).mono ?_
      rintro e w3 ⟨rfl,rfl⟩
      go_wp2_with fail
      go_roundw
      case rel=>exact⟨gb,p,k,T,A,rfl,by omega,rfl,H2,hS2,hB2⟩
      case measure=>simp[intOf]
     ·have hT0:T p=0:=by have:=hS.out.ok.nn p;omega
      have hk1:=hS.out.ok.top (half c)
      rw[hS.out.ok.fin]at hk1
      have hk2:=hS.out.bd
      have hS2:Kp (Zdk c T0 (upd T p (k+1)) (upd A p a2) (k+1) true p):=⟨hS.out.add hp2 hK hT0 hmem.out hpos.out⟩
      go_wp2_with fail
      refine(ZgM b n a2 t v c k T A p _ H2 (by omega) hT0 (by omega) (by omega)).mono ?_
      rintro e w3 ⟨rfl,H3,hb3⟩
      have hB3:=hB2.trans (hb3.mono hB2.size)
      clear H2 hB2 hb3
      go_wp2_with fail
      go_roundw
      case rel=>exact⟨true,p,k+1,_,_,rfl,by omega,rfl,H3,hS2,hB3⟩
      case measure=>simp[intOf]
    ·rw[Qx hT2]
     have hS2:Kp (Zdk c T0 T A k gb p):=⟨hS.out.skip (λs hs h=>by rcases m3.out s hs with e|e<;>(rw[e]at h;omega))⟩
     go_wp2_with fail
     go_roundw
     case rel=>exact⟨gb,p,k,T,A,rfl,by omega,rfl,H2,hS2,hB2⟩
     case measure=>simp[intOf]
structure Ziz(c:ZB)(T A0 A:Int->Int)(U:Int->Int->Bool)(g:Bool)(q:Int):Prop where
 ok:WOk c T A
 pass:Pass c T A U q
 no:g=false->A=A0∧∀x,q<=x->0<=x->x<half c->(∀s,s∈nxt c x->0<T s)->Zcp c T A0 x (A0 x)
 yes:g=true->meas c (Zcb c T U)<meas c U
theorem Ziz.move{m:Int}(hU:UOk c T U)(h:Ziz c T A0 A U g (p+1))(h0:0<=p)(h1:p<half c)(M:Zcp c T A p m)(hne:m≠A p):Ziz c T A0 (upd A p m) U true p:=
 ⟨ZhM h.ok h0 h1 M,ZhN h.ok hU h0 h1 M h.pass,λh=>absurd h (by simp),λ_=>ZkW h.ok hU h.pass.sub h0 h1 M hne⟩
theorem Ziz.same(hU:UOk c T U)(h:Ziz c T A0 A U g (p+1))(h0:0<=p)(h1:p<half c)(M:Zcp c T A p (A p)):Ziz c T A0 A U g p:=by
 have hp:=ZhN h.ok hU h0 h1 M h.pass
 rw[Zn2 rfl]at hp
 refine⟨h.ok,hp,λhg=>⟨(h.no hg).1,λx h2 h3 h4 h5=>?_⟩,h.yes⟩
 by_cases e:x=p
 ·subst e;rw[<-(h.no hg).1];exact M
 ·exact(h.no hg).2 x (by omega) h3 h4 h5
theorem Ziz.keep(hU:UOk c T U)(h:Ziz c T A0 A U g (p+1))(hk:∃q,q∈nxt c p∧T q=0):Ziz c T A0 A U g p:=by
 obtain⟨q,hq,hq0⟩:=hk
 refine⟨h.ok,Zl8 h.ok hU hq hq0 h.pass,λhg=>⟨(h.no hg).1,λx h2 h3 h4 h5=>?_⟩,h.yes⟩
 by_cases e:x=p
 ·subst e;have:=h5 q hq;omega
 ·exact(h.no hg).2 x (by omega) h3 h4 h5
theorem ZkX(b:Nat)(n k:Int)(t v c:ZB)(T A0:Int->Int)(U:Int->Int->Bool)(w:World)(hc:c.size<=maxLen)(hK:half c<=200)(hr:Kp (Ranged c))(H:Zu w b n t v c k T A0)(hW:Kp (WOk c T A0))(hU:Kp (UOk c T U))(hs:Kp (∀x d,0<T x->ZG c A0 x d->U x d=true)) :
  Calls prog 119 #[.pointer (some ⟨b,0,none⟩)] w λe w'=>
   ∃(g:Bool) (A:Int->Int),e=.returned (.bool g)∧Zu w' b n t v c k T A∧Kp (Ziz c T A0 A U g 0)∧But b w.heap.size w w':=by
 have hh:=(Z4 c).1
 have q0:=H.c0
 have q1:=H.c1
 have q2:=H.c2
 have q3:=H.c3
 go_enter func119,ntmps119
 go_wp2_with fail
 refine(ZT n t v c _ hc).mono ?_
 rintro e w1 ⟨rfl,hb1⟩
 have H1:=H.step hb1
 have hS1:Kp (Ziz c T A0 A0 U false (half c)):=⟨⟨hW.out,ZkV hW.out hs.out,λ_=>⟨rfl,λx h1 h2 h3=>absurd h3 (by omega)⟩,λh=>absurd h (by simp)⟩⟩
 have hB1:But b w.heap.size w w1:=But.of hb1
 clear q0 q1 q2 q3 H hW hs hb1
 go_wp2_with fail
 go_loopw [3,4] (λg i wr=>∃(gb:Bool) (p:Nat) (A:Int->Int),g=.bool gb∧(p:Int)<=half c∧i=.int .i64 ((p:Int)-1)∧Zu wr b n t v c k T A∧Kp (Ziz c T A0 A U gb p)∧But b w.heap.size w wr) (λ_ i _=>(intOf i+1).toNat)
 case atStart=>exact⟨false,(half c).toNat,A0,rfl,by omega,by rw[Qj hh],H1,⟨by rw[Qj hh];exact hS1.out⟩,hB1⟩
 case round=>
  clear H1 hS1 hB1
  obtain⟨gb,p,A,rfl,hp,rfl,H,hS,hB⟩:=hrel
  cases p with
  | zero=>
   go_wp2
   go_ret
   exact⟨gb,A,rfl,H,hS,hB⟩
  | succ p=>
   rw[show (((p+1:Nat):Int)-1)=(p:Int) from by omega]
   have hp2:(p:Int)<half c:=by omega
   replace hS:Kp (Ziz c T A0 A U gb ((p:Int)+1)):=⟨by have:=hS.out;rwa [show ((p+1:Nat):Int)=(p:Int)+1 from by omega]at this⟩
   clear hp
   go_wp2_with fail
   refine(ZiW b p n k t v c T A _ hc hK hr H ⟨hS.out.ok⟩ hp2).mono ?_
   rintro e w2 ⟨m,ok,rfl,hM,hb2⟩
   have H2:=H.step hb2
   have hB2:=hB.trans (But.of (hb2.mono hB.size))
   clear H hB hb2
   cases ok
   ·have hS2:Kp (Ziz c T A0 A U gb p):=⟨hS.out.keep hU.out (hM.out.no rfl)⟩
    go_wp2_with fail
    go_roundw
    case rel=>exact⟨gb,p,A,rfl,by omega,rfl,H2,hS2,hB2⟩
    case measure=>simp[intOf]
   ·have hMM:Kp (Zcp c T A p m):=⟨hM.out.yes rfl⟩
    by_cases hm:m=A p
    ·subst hm
     have hS2:Kp (Ziz c T A0 A U gb p):=⟨hS.out.same hU.out (by omega) hp2 hMM.out⟩
     go_wp2_with fail
     refine(Zdv b n t v c k T A p _ H2 (by omega)).mono ?_
     rintro e w3 ⟨rfl,rfl⟩
     go_wp2_with fail
     go_roundw
     case rel=>exact⟨gb,p,A,rfl,by omega,rfl,H2,hS2,hB2⟩
     case measure=>simp[intOf]
    ·have hS2:Kp (Ziz c T A0 (upd A p m) U true p):=⟨hS.out.move hU.out (by omega) hp2 hMM.out hm⟩
     have hne:(m != A p)=true:=by simpa using hm
     go_wp2_with fail
     refine(Zdv b n t v c k T A p _ H2 (by omega)).mono ?_
     rintro e w3 ⟨rfl,rfl⟩
     go_wp2_with fail
     refine(Zn4 b n m t v c k T A p _ H2 (by omega)).mono ?_
     rintro e w3 ⟨rfl,hw3⟩
     have H3:Zu w3 b n t v c k T (upd A p m):=by rw[hw3];exact H2.setA p (by omega) m
     have hB3:But b w.heap.size w w3:=by rw[hw3];exact hB2.setCell _ _
     clear hw3 H2 hB2
     go_wp2_with fail
     go_roundw
     case rel=>exact⟨true,p,_,rfl,by omega,rfl,H3,hS2,hB3⟩
     case measure=>simp[intOf]
def ZI(n:Int)(t v c:ZB)(k:Int)(T A:Int->Int)(j:Nat):Value:=
 if j=0 then .int .i64 n else if j=1 then .string t else if j=2 then .string v else if j=3 then .string c else if j=4 then .int .i64 k
 else if j<206 then .int .i64 (T ((j:Int)-5)) else .int .i64 (A ((j:Int)-206))
theorem Zar{P:Program}{o:Oper}{a:Act}{K:Act->World->Prop}{Q:Exit->Act->World->Prop}(t:TypeId)(parts:Array (Nat×Operand))(ho:o.op=.build t parts)(arr:Array Value)
  (hf:P.built t (parts.map λ(i,x)=>(i,a.eval x)).toList=some arr) (h:K (a.put o.dst (.agg arr)) w):o.wp P a w K Q:=
 wp_build t parts ho (by rw[hf];rfl) (by rw[hf];exact h)
theorem ZiX(n:Int)(t v c:ZB)(k:Int)(T A:Int->Int)(j:Nat):(ZI n t v c k T A j).oneCell'=true:=by
 unfold ZI
 repeat (split;rfl)
 rfl
theorem Zu.of_cells{t:ZB}(hl:b<w.heap.size)(h:∀j,j<407->w.cell? ⟨b,0+j,none⟩=some (ZI n t v c k T A j))(hf:∀j,j<407->w.frozen? ⟨b,0+j,none⟩=false):Zu w b n t v c k T A:=by
 have e:∀j,j<407->w.cell? ⟨b,j,none⟩=some (ZI n t v c k T A j):=λj hj=>by have:=h j hj;rwa [QT]at this
 refine⟨hl,e 0 (by omega),e 1 (by omega),e 2 (by omega),e 3 (by omega),e 4 (by omega),λj hj=>?_,λj hj=>?_,λj hj=>by have:=hf j hj;rwa [QT]at this⟩
 ·rw[e (5+j) (by omega)]
  unfold ZI
  rw[if_neg (by omega),if_neg (by omega),if_neg (by omega),if_neg (by omega),if_neg (by omega),if_pos (by omega)]
  rw[show ((5+j:Nat):Int)-5=(j:Int) from by omega]
 ·rw[e (206+j) (by omega)]
  unfold ZI
  rw[if_neg (by omega),if_neg (by omega),if_neg (by omega),if_neg (by omega),if_neg (by omega),if_neg (by omega)]
  rw[show ((206+j:Nat):Int)-206=(j:Int) from by omega]
theorem Zu.cells{t:ZB}(h:Zu w b n t v c k T A)(j:Nat)(hj:j<407):w.cell? ⟨b,0+j,none⟩=some (ZI n t v c k T A j):=by
 rw[QT]
 unfold ZI
 split
 ·subst j;exact h.c0
 ·split
  ·subst j;exact h.c1
  ·split
   ·subst j;exact h.c2
   ·split
    ·subst j;exact h.c3
    ·split
     ·subst j;exact h.k
     ·split
      ·have:=h.t (j-5) (by omega)
       rw[show 5+(j-5)=j from by omega]at this
       rw[this,show ((j-5:Nat):Int)=(j:Int)-5 from by omega]
      ·have:=h.a (j-206) (by omega)
       rw[show 206+(j-206)=j from by omega]at this
       rw[this,show ((j-206:Nat):Int)=(j:Int)-206 from by omega]
structure Room(w:World)(b n:Nat):Prop where
 lt:b<w.heap.size
 c:∀j,j<n->(w.cell? ⟨b,0+j,none⟩).isSome=true
 f:∀j,j<n->w.frozen? ⟨b,0+j,none⟩=false
theorem Room.of_row{g n:Nat}{cs:Array Value}{t:TypeId}(hg:w.heap[g]?=some (.cells cs t (0,0)))(hn:cs.size=n):Room w g n:=by
 refine⟨(Ug.1 hg).1,λj hj=>?_,λj hj=>?_⟩
 ·rw[QT,cell_of_row w g j _ t (0,0) hg,Array.getElem?_eq_getElem (by omega)];rfl
 ·simp[World.frozen?,hg]
theorem Room.step{n:Nat}(h:Room w b n)(hb:Below w.heap.size w w1):Room w1 b n:=
 ⟨Qq h.lt hb.size,λj hj=>by rw[hb.cell (p:=⟨b,0+j,none⟩) h.lt];exact h.c j hj,λj hj=>by rw[hb.frozen (p:=⟨b,0+j,none⟩) h.lt];exact h.f j hj⟩
theorem Room.but{b' n:Nat}(h:Room w b n)(hb:But b' w.heap.size w w1)(hne:b≠b'):Room w1 b n:=
 ⟨Qq h.lt hb.size,λj hj=>by rw[hb.cell (p:=⟨b,0+j,none⟩) h.lt hne];exact h.c j hj,λj hj=>by rw[hb.frozen (p:=⟨b,0+j,none⟩) h.lt hne];exact h.f j hj⟩
theorem Zgc(h:Room w b 407)(n:Int)(t v c:ZB)(k:Int)(T A:Int->Int):Zu (w.setCells b 0 (big 407 (ZI n t v c k T A)).toList) b n t v c k T A:=
 Zu.of_cells (by have:=(Z2 (But.refl b 0 w) (big 407 (ZI n t v c k T A)).toList 0).size;exact Qq h.lt this) (λj hj=>ZA w b 0 407 _ h.c j hj) (λj hj=>by rw[QQ];exact h.f j hj)
theorem ZkY(n:Int)(t v c:ZB)(w:World)(hc:c.size<=maxLen)(hK:half c<=200)(hr:Kp (Ranged c)) :
  Calls prog 61 #[.agg #[.int .i64 n,.string t,.string v,.string c]] w λe w'=>
   ∃(k:Int) (T A:Int->Int),e=.returned (.agg (big 407 (ZI n t v c k T A)))∧Kp (Narrow c T A)∧Below w.heap.size w w':=by
 have hh:=(Z4 c).1
 obtain⟨w0,hw0⟩:∃w0,w0=(((w.alloc (.cells #[.int .i64 n,.string t,.string v,.string c] 76)).alloc (.cells Tryz.zeroCells138 138)).alloc (.cells Tryz.zeroCells138 138)):=⟨_,rfl⟩
 have hsz:w0.heap.size=w.heap.size+3:=by rw[hw0];simp
 have hR0:Room w0 (w.heap.size+1+1) 407:=by rw[hw0];exact Room.of_row (row3 _ _ _ _) (by kernel_rfl)
 have hR1:Room w0 (w.heap.size+1) 407:=by rw[hw0];exact Room.of_row (row2 _ _ _ _) (by kernel_rfl)
 have hO0:Own w0 w.heap.size [.int .i64 n,.string t,.string v,.string c]:=by rw[hw0];exact((Own.new4 w _ _ _ _ _).alloc _).alloc _
 have hB0:Below w.heap.size w w0:=by rw[hw0];exact(((Qh _ _).alloc (Qb _) _).alloc (by simp) _).alloc (by simp;omega) _
 obtain⟨w1,hw1⟩:∃w1,w1=w0.setCells (w.heap.size+1+1) 0 (big 407 (ZI n t v c 0 (λ_=>0) (λ_=>0))).toList:=⟨_,rfl⟩
 have hB:But (w.heap.size+1+1) w0.heap.size w0 w1:=by rw[hw1];exact Z2 (But.refl _ _ _) _ _
 have H1:Zu w1 (w.heap.size+1+1) n t v c 0 (λ_=>0) (λ_=>0):=by rw[hw1];exact Zgc hR0 n t v c 0 _ _
 have hR2:=hR1.but hB (by omega)
 have hO1:=hO0.but hB (by omega)
 have hB1:Below w.heap.size w w1:=hB0.trans ((hB.mono hB0.size).below (by omega))
 have hz1:=hB.size
 replace hw0:=Z_ hw0
 replace hw1:=Z_ hw1
 have q0:=hO1.c 0 _ rfl
 have q1:=hO1.c 1 _ rfl
 have q2:=hO1.c 2 _ rfl
 have q3:=hO1.c 3 _ rfl
 clear hO0 hR1 hB0 hB
 go_enter func61,ntmps61
 repeat (first|refine Zar 138 #[(0,.tmp 7)] rfl _ (built_ways n t v c) ?_|(refine Zm 138 (.tmp 3) (.tmp 8) rfl (w.heap.size+1+1) 0 407 (ZI n t v c 0 (λ_=>0) (λ_=>0)) rfl rfl (by kernel_rfl) (by rw[<-hw0.out];exact hR0.c) (by rw[<-hw0.out];exact hR0.f) (λj _=>ZiX _ _ _ _ _ _ _ j) ?_;rw[<-hw0.out,<-hw1.out];dsimp only [Act.put])|go_step)
 refine(ZT n t v c _ hc).mono ?_
 rintro e w2 ⟨rfl,hb2⟩
 have H2:=H1.step hb2
 have hR3:=hR2.step hb2
 have hB2:=hB1.trans (hb2.mono hB1.size)
 have hz2:=hb2.size
 obtain⟨p,hp⟩:∃p:Nat,half c=p:=⟨(half c).toNat,by omega⟩
 clear q0 q1 q2 q3 hO1 H1 hR2 hR0 hB1 hb2 hw0 hw1
 rw[hp]
 go_wp2_with fail
 refine(ZgM (w.heap.size+1+1) n p t v c 0 (λ_=>0) (λ_=>0) p w2 H2 (by omega) rfl (by omega) (by omega)).mono ?_
 rintro e w3 ⟨rfl,H3,hb3⟩
 have hR4:=hR3.but hb3 (by omega)
 have hB3:Below w.heap.size w w3:=hB2.trans ((hb3.mono hB2.size).below (by omega))
 have hz3:=hb3.size
 have hG3:Kp (GOk c (upd (λ_=>0) p (0+1)) (upd (λ_=>0) p p) (0+1)):=⟨by have:=ZkU c;rw[hp]at this;exact this⟩
 have hbd3:Kp ((0+1:Int)+ZjF (upd (λ_=>0) p (0+1)) 201<=201):=⟨by
  have h1:=ZjY (T:=λ_=>0) (p:=p) (x:=0+1) (by omega) rfl (by omega)
  have h2:ZjF (λ_=>0) 201<=201:=Ze4 _ _
  omega⟩
 clear H2 hR3 hB2 hb3
 go_wp2_with fail
 go_loopg [5] (ZjF (upd (λ_=>0) p (0+1)) 201+1) (λgm g wr=>∃(gb:Bool) (k:Int) (T A:Int->Int),g=.bool gb∧gm=ZjF T 201+(if gb then 1 else 0)∧Zu wr (w.heap.size+1+1) n t v c k T A∧Room wr (w.heap.size+1) 407∧Below w.heap.size w wr∧w.heap.size+2<wr.heap.size∧Kp (GOk c T A k)∧Kp (k+ZjF T 201<=201)∧Kp (gb=false->∀x q,0<=x->x<half c->q∈nxt c x->0<T q->0<T x))
 case atStart=>exact⟨true,_,_,_,rfl,by simp,H3,hR4,hB3,by omega,hG3,hbd3,⟨λh=>absurd h (by simp)⟩⟩
 case round=>
  clear H3 hR4 hB3 hG3 hbd3
  obtain⟨gb,k,T,A,rfl,hgm,H,hR,hB,hlt,hG,hbd,hfull⟩:=hrel
  replace hgm:=Z_ hgm
  cases gb
  ·have hW:Kp (WOk c T A):=⟨Zl7 hG.out (hfull.out rfl)⟩
   clear hG hbd hfull hgm
   go_wp2_with fail
   go_loopg [6] (meas c (λ_ _=>true)+1) (λgm g wr=>∃(gb:Bool) (A:Int->Int) (U:Int->Int->Bool),g=.bool gb∧gm=meas c U+(if gb then 1 else 0)∧Zu wr (w.heap.size+1+1) n t v c k T A∧Room wr (w.heap.size+1) 407∧Below w.heap.size w wr∧w.heap.size+2<wr.heap.size∧Kp (WOk c T A)∧Kp (UOk c T U)∧Kp (∀x d,0<T x->ZG c A x d->U x d=true)∧Kp (gb=false->Narrow c T A))
   case atStart=>exact⟨true,_,_,rfl,by simp,H,hR,hB,hlt,hW,⟨UOk.begin c T⟩,⟨λ_ _ _ _=>rfl⟩,⟨λh=>absurd h (by simp)⟩⟩
   case round=>
    clear H hR hB hlt hW
    obtain⟨gb,A,U,rfl,hgm,H,hR,hB,hlt,hW,hU,hs,hN⟩:=hrel
    replace hgm:=Z_ hgm
    cases gb
    ·have hN2:Kp (Narrow c T A):=⟨hN.out rfl⟩
     obtain⟨w5,hw5⟩:∃w5:World,wr.setCells (w.heap.size+1) 0 (big 407 (ZI n t v c k T A)).toList=w5:=⟨_,rfl⟩
     have hcell:Kp (∀j,j<407->w5.cell? ⟨w.heap.size+1,0+j,none⟩=some (ZI n t v c k T A j)):=⟨by rw[<-hw5];exact ZA wr (w.heap.size+1) 0 407 _ hR.c⟩
     have hB5:Below w.heap.size w w5:=by rw[<-hw5];exact Zai hB (b:=w.heap.size+1) (by omega) _ 0
     replace hw5:=Z_ hw5
     repeat (first|refine Zbr 138 (.tmp 3) rfl (w.heap.size+1+1) 0 407 (ZI n t v c k T A) rfl _ Tryz.underlying138 rfl (by kernel_rfl) H.cells ?_|(refine Zm 138 (.tmp 2) (.tmp 18) rfl (w.heap.size+1) 0 407 (ZI n t v c k T A) rfl rfl (by kernel_rfl) hR.c hR.f (λj _=>ZiX _ _ _ _ _ _ _ j) ?_;rw[hw5.out])|go_step)
     refine Qi (v:=.agg (big 407 (ZI n t v c k T A))) (ZaK rfl _ w5 (w.heap.size+1) 0 407 (ZI n t v c k T A) _ rfl Tryz.underlying138 rfl (by kernel_rfl) hcell.out) rfl ⟨k,T,A,rfl,hN2,hB5⟩
    ·clear hN
     go_wp2_with fail
     refine(ZkX (w.heap.size+1+1) n k t v c T A U wr hc hK hr H hW hU hs).mono ?_
     rintro e w5 ⟨g,A5,rfl,H5,hS5,hb5⟩
     have hR5:=hR.but hb5 (by omega)
     have hB5:Below w.heap.size w w5:=hB.trans ((hb5.mono hB.size).below (by omega))
     have hz5:=hb5.size
     have hle:Kp (meas c (Zcb c T U)<=meas c U):=⟨Zp0 hU.out⟩
     clear H hR hB hb5
     go_wp2_with fail
     go_roundg (meas c (Zcb c T U)+(if g then 1 else 0))
     case measure=>
      have h1:=hgm.out
      have h2:=hle.out
      have h3:=hS5.out.yes
      simp at h1
      cases g
      ·simp;omega
      ·have:=h3 rfl;simp;omega
     case rel=>
      refine⟨g,A5,Zcb c T U,rfl,rfl,H5,hR5,hB5,by omega,⟨hS5.out.ok⟩,⟨hU.out.step⟩,⟨λx d hx hw=>?_⟩,⟨λhg=>?_⟩⟩
      ·exact hS5.out.pass.done x d (hS5.out.ok.pos x hx).1 hx hw
      ·have hno:=hS5.out.no hg
       refine⟨hS5.out.ok,λx h0 h1 h2=>?_⟩
       rw[hno.1]
       exact hno.2 x h0 h0 h1 h2
  ·clear hfull
   go_wp2_with fail
   refine(Zn5 (w.heap.size+1+1) n k t v c T A wr hc hK hr H hG hbd).mono ?_
   rintro e w5 ⟨g,k5,T5,A5,rfl,H5,hS5,hb5⟩
   have hR5:=hR.but hb5 (by omega)
   have hB5:Below w.heap.size w w5:=hB.trans ((hb5.mono hB.size).below (by omega))
   have hz5:=hb5.size
   clear H hR hB hb5
   go_wp2_with fail
   go_roundg (ZjF T5 201+(if g then 1 else 0))
   case measure=>
    have h1:=hgm.out
    have h2:=hS5.out.le
    have h3:=hS5.out.yes
    simp at h1
    cases g
    ·simp;omega
    ·have:=h3 rfl;simp;omega
   case rel=>
    exact⟨g,k5,T5,A5,rfl,rfl,H5,hR5,hB5,by omega,⟨hS5.out.ok⟩,⟨hS5.out.bd⟩,⟨λhg x q h0 h1 h2 h3=>(hS5.out.no hg).2 x q h0 h1 h2 h3⟩⟩
end Go.Proofs.YtcnbifdlkalimabGreat
