import Derived.Test.YtcnbifdlkalimabGreatRows
import Derived.WalkKit
import Derived.WalkSpells
import Derived.WalkLawsBesides
/- Lemmas for the statement Means; their conditions stand in each. -/
namespace Go.Proofs.YtcnbifdlkalimabGreat
abbrev ZB:=ByteArray
open Go.RowKit Go.Proofs.Tryz
abbrev Qa:=@List.setIfInBounds_toArray
abbrev Qb:=@Nat.le_refl
abbrev Qc:=@List.set_cons_zero
abbrev Qd:=@List.set_cons_succ
abbrev Qe:=@List.length_append
abbrev Qf:=@beq_eq_false_iff_ne
abbrev Qg:=@Nat.le_trans
abbrev Qh:=@Below.refl
abbrev Qi:=@bodyPost_ret
abbrev Qj:=@Int.toNat_of_nonneg
abbrev Qk:=@World.cell?_setCell_same
abbrev Ql:=@List.getElem?_eq_some_iff
abbrev Qn:=@List.getElem?_eq_getElem
abbrev Qo:=@World.cell?_of_block
abbrev Qp:=@results_none
abbrev Qq:=@Nat.lt_of_lt_of_le
abbrev Qr:=@Bool.and_eq_true
abbrev Qs:=@List.getD_eq_getElem?_getD
abbrev Qt:=@List.length_cons
abbrev Qu:=@World.frozen?_setCell
abbrev Qv:=@decide_eq_true
abbrev Qw:=@List.mem_of_getElem?
abbrev Qx:=@decide_eq_false
abbrev Qy:=@List.length_nil
abbrev Qz:=@World.frozen?_of_block
abbrev QA:=@List.mem_singleton
abbrev QB:=@of_decide_eq_true
abbrev QC:=@Int.toNat_natCast
abbrev QD:=@List.getElem?_append_left
abbrev QE:=@List.append_assoc
abbrev QF:=@List.getElem?_append_right
abbrev QH:=@Below.heap_setCell
abbrev QI:=@List.mem_append
abbrev QJ:=@Bool.or_eq_true
abbrev QK:=@List.map_append
abbrev QL:=@beq_iff_eq
abbrev QM:=@Bool.eq_iff_iff
abbrev QN:=@World.cell?_setCell_other
abbrev QO:=@bne_iff_ne
abbrev QP:=@Int.le_refl
abbrev QQ:=@World.frozen?_setCells
abbrev QR:=@ByteArray.append_assoc
abbrev QS:=@List.append_nil
abbrev QT:=@Nat.zero_add
abbrev QU:=@ByteArray.data_append
abbrev QV:=@List.not_mem_nil
abbrev QW:=@Bool.not_eq_true
abbrev QX:=@ByteArray.size_extract
abbrev QY:=@Int.mul_nonneg
abbrev QZ:=@Int.mul_le_mul_of_nonneg_right
abbrev Q0:=@Nat.eq_zero_or_pos
abbrev Q8:=@Nat.zero_le
abbrev Q9:=@Below.trans
abbrev Ua:=@List.getElem_mem
abbrev Ub:=@Nat.add_le_add_right
abbrev Uc:=@List.mem_cons
abbrev Ue:=@Sem.run_bind
abbrev Uf:=@Nat.le_of_lt
abbrev Ug:=@Array.getElem?_eq_some_iff
abbrev Uh:=@List.getElem?_eq_none
abbrev Ui:=@List.getElem?_map
abbrev Uj:=@List.cons_append
abbrev Uk:=@List.eq_nil_of_length_eq_zero
abbrev Ul:=@of_decide_eq_false
abbrev Um:=@List.length_set
abbrev Un:=@Bool.true_and
abbrev Uo:=@Result.andThen_ok
abbrev Up:=@ByteArray.data_extract
abbrev Uq:=@World.ownsRow_nil
abbrev Ur:=@ByteArray.toList_eq
abbrev Us:=@Nat.mul_le_mul
abbrev Ut:=@List.mem_range
abbrev Uu:=@List.flatMap_cons
abbrev Uv:=@Nat.add_assoc
abbrev Uw:=@Bool.false_or
abbrev Ux:=@List.take_of_length_le
abbrev Uy:=@List.append_eq_nil_iff
variable{ok:Bool}{e j len n wall x:Int}{f:Int->Bool}{S:Int->Prop}{a b i k m:Nat}{y:Value}{w1 wr:World}{c s t:ZB}
def byt(s:ZB)(k:Int):UInt8:=s.data.toList.getD k.toNat 0
def le(s:ZB)(n a b:Int):Bool:=byt s (a*n+b)==49
def Zw(f:Int->Bool):Nat->Bool
 | 0=>true
 | k+1=>Zw f k&&f k
theorem Za:Zw f k=true↔∀i:Nat,i<k->f i=true:=by
 induction k with
 | zero=>simp[Zw]
 | succ k ih=>
  simp only[Zw,Qr,ih]
  constructor
  ·rintro⟨h,h'⟩ i hi
   by_cases e:i=k
   ·subst e;exact h'
   ·exact h i (by omega)
  ·intro h
   exact⟨λi hi=>h i (by omega),h k (by omega)⟩
theorem Zl(hi:i<k)(h:f i=false):Zw f k=false:=by
 cases e:Zw f k with
 | false=>rfl
 | true=>rw[Za]at e;rw[e i hi]at h;exact absurd h (by simp)
def ZD(f:Int->Bool):Nat->Option Int
 | 0=>none
 | k+1=>match ZD f k with
  | some i=>some i
  | none=>if f k then some (k:Int) else none
theorem ZaN(h:∀i:Nat,i<k->f i=false):ZD f k=none:=by
 induction k with
 | zero=>rfl
 | succ k ih=>simp[ZD,ih (λi hi=>h i (by omega)),h k (by omega)]
theorem Zes(hik:i<=k)(h:ZD f i=some x):ZD f k=some x:=by
 induction k with
 | zero=>
  have:i=0:=by omega
  subst this;exact h
 | succ k ih=>
  by_cases e:i=k+1
  ·subst e;exact h
  ·simp[ZD,ih (by omega)]
theorem Zaq(hik:i<k)(h:∀j:Nat,j<i->f j=false)(hi:f i=true):ZD f k=some (i:Int):=
 Zes (i:=i+1) (by omega) (by simp[ZD,ZaN h,hi])
theorem Zcd{g:Int->Bool}(h:∀i:Nat,i<k->f i=g i):ZD f k=ZD g k:=by
 induction k with
 | zero=>rfl
 | succ k ih=>simp only[ZD,ih (λi hi=>h i (by omega)),h k (by omega)]
theorem Zbq{g:Int->Bool}(h:∀i:Nat,i<k->f i=g i):Zw f k=Zw g k:=by
 induction k with
 | zero=>rfl
 | succ k ih=>simp only[Zw,ih (λi hi=>h i (by omega)),h k (by omega)]
theorem ZlT(s:ZB)(k:Int)(h:k.toNat<s.size):s[k.toNat]=byt s k:=by
 unfold byt
 rw[List.getD_eq_getElem?_getD,List.getElem?_eq_getElem (by simpa using h)]
 rfl
theorem ZlU(s:ZB)(k:Int)(c:UInt8)(h:k.toNat<s.size):(((s[k.toNat].toNat:Nat):Int)==((c.toNat:Nat):Int))=(byt s k==c):=by
 rw[ZlT s k h,QM]
 simp only[QL]
 constructor
 ·intro e;exact UInt8.toNat_inj.1 (by omega)
 ·intro e;rw[e]
theorem Zo8(s:ZB)(n a b:Int)(h:(a*n+b).toNat<s.size):(((s[(a*n+b).toNat].toNat:Nat):Int)==49)=le s n a b:=
 ZlU s (a*n+b) 49 h
theorem ZnV(n a b:Int)(ha:0<=a)(ha':a<n)(hb':b<n):0<=a*n∧a*n+b<n*n:=by
 refine⟨QY ha (by omega),?_⟩
 have:a*n<=(n-1)*n:=QZ (by omega) (by omega)
 rw[Int.sub_mul]at this
 omega
theorem ZiM(n:Int)(h:1<=n)(h':n<=6):n*n<=36:=by
 have:n*n<=6*6:=Int.mul_le_mul h' h' (by omega) (by omega)
 omega
structure Box2(w wr:World)(x y:Value):Prop where
 below:Below w.heap.size w wr
 size:w.heap.size<wr.heap.size
 c0:wr.cell? ⟨w.heap.size,0,none⟩=some x
 c1:wr.cell? ⟨w.heap.size,1,none⟩=some y
theorem Box2.step{w:World}{x:Value}(h:Box2 w wr x y)(hb:Below wr.heap.size wr w1):Box2 w w1 x y:=
 ⟨h.below.trans (hb.mono (Uf h.size)),Qq h.size hb.size,by rw[hb.cell (p:=⟨w.heap.size,0,none⟩) h.size];exact h.c0,by rw[hb.cell (p:=⟨w.heap.size,1,none⟩) h.size];exact h.c1⟩
theorem Box2.mk'(w:World)(x y:Value)(t:TypeId):Box2 w (w.alloc (.cells #[x,y] t)) x y:=
 ⟨(Below.refl _ _).alloc (Nat.le_refl _) _,by simp,by simp[go_sem],by simp[go_sem]⟩
theorem Zd{a b:Bool}(h:a=b):Ending.returned (.bool a)=.returned (.bool b):=by rw[h]
theorem ZR{k:IntKind}{a b:Int}(h:a=b):Ending.returned (.int k a)=.returned (.int k b):=by rw[h]
theorem bcell{W:World}(hb:Below W.heap.size W w1):(∀b o,b<W.heap.size->w1.cell? ⟨b,o,none⟩=W.cell? ⟨b,o,none⟩)∧(∀b o,b<W.heap.size->w1.frozen? ⟨b,o,none⟩=W.frozen? ⟨b,o,none⟩):=
 ⟨λb o h=>hb.cell (p:=⟨b,o,none⟩) h,λb o h=>hb.frozen (p:=⟨b,o,none⟩) h⟩
structure Tab(s:ZB)(n:Int):Prop where
 lo:1<=n
 hi:n<=6
 size:n*n<=s.size
def sideF(len:Int):Int:=if len=1 then 1 else if len=4 then 2 else if len=9 then 3 else if len=16 then 4 else if len=25 then 5 else if len=36 then 6 else 0
theorem ZgD{k:Int}(h1:1<=k)(h6:k<=6)(h:k*k=len):sideF len=k:=by
 have:k=1∨k=2∨k=3∨k=4∨k=5∨k=6:=by omega
 subst h
 rcases this with rfl|rfl|rfl|rfl|rfl|rfl<;>decide
theorem ZnW(h:∀j:Int,1<=j->j<7->j*j≠len):sideF len=0:=by
 have a1:=h 1 (by omega) (by omega)
 have a2:=h 2 (by omega) (by omega)
 have a3:=h 3 (by omega) (by omega)
 have a4:=h 4 (by omega) (by omega)
 have a5:=h 5 (by omega) (by omega)
 have a6:=h 6 (by omega) (by omega)
 unfold sideF
 rw[if_neg (by omega),if_neg (by omega),if_neg (by omega),if_neg (by omega),if_neg (by omega),if_neg (by omega)]
theorem Zdp(len:Int):0<=sideF len∧sideF len<=6∧(sideF len≠0->sideF len*sideF len=len):=by
 unfold sideF
 repeat' split
 all_goals simp_all
def Zf0(s:ZB)(i:Int):Bool:=byt s i==48||byt s i==49
theorem Zdq(h:k<s.size):Zf0 s k=true↔((s[k].toNat:Nat):Int)=48∨((s[k].toNat:Nat):Int)=49:=by
 have e0:=ZlU s k 48 (by simpa using h)
 have e1:=ZlU s k 49 (by simpa using h)
 simp only[QC]at e0 e1
 unfold Zf0
 rw[<-e0,<-e1,QJ,QL,QL]
 exact Iff.rfl
theorem ZjP(h:k<s.size)(h0:(((s[k].toNat:Nat):Int) != 48)=true∧(((s[k].toNat:Nat):Int) != 49)=true):Zf0 s k=false:=by
 cases e:Zf0 s k with
 | false=>rfl
 | true=>
  rw[Zdq h]at e
  simp only[QO]at h0
  omega
theorem ZjQ(h:k<s.size)(h0:(((s[k].toNat:Nat):Int) != 48)=false∨(((s[k].toNat:Nat):Int) != 49)=false):Zf0 s k=true:=by
 rw[Zdq h]
 simpa using h0
theorem ZC{p:Int->Bool}(h:∀i:Nat,i<k->p i=true)(hk:p k=true):∀i:Nat,i<k+1->p i=true:=by
 intro i hi
 by_cases e:i=k
 ·subst e;exact hk
 ·exact h i (by omega)
theorem ZbZ{p:Int->Bool}(h:∀i:Nat,i<k->p i=false)(hk:p k=false):∀i:Nat,i<k+1->p i=false:=by
 intro i hi
 by_cases e:i=k
 ·subst e;exact hk
 ·exact h i (by omega)
def bits(s:ZB):Bool:=Zw (Zf0 s) s.size
def tabN(s:ZB):Int:=if bits s then sideF s.size else 0
theorem Zce(h:tabN s≠0):Tab s (tabN s)∧tabN s*tabN s=s.size∧bits s=true∧tabN s=sideF s.size:=by
 unfold tabN at *
 split at h
 ·rename_i hb
  rw[if_pos hb]
  have:=Zdp s.size
  exact⟨⟨by omega,by omega,by rw[this.2.2 h];omega⟩,this.2.2 h,hb,rfl⟩
 ·exact absurd rfl h
def Znw(s:ZB)(n:Int):Bool:=Zw (λa=>le s n a a) n.toNat
def ZoV(s:ZB)(n:Int):Bool:=Zw (λa=>Zw (λb=>decide (b<=a)||!(le s n a b&&le s n b a)) n.toNat) n.toNat
def Zc7(s:ZB)(n a b:Int):Bool:=Zw (λc=>!(le s n b c)||le s n a c) n.toNat
def Znx(s:ZB)(n:Int):Bool:=Zw (λa=>Zw (λb=>!(le s n a b)||Zc7 s n a b) n.toNat) n.toNat
def ZaY(s:ZB)(n:Int):Bool:=Znw s n&&(ZoV s n&&Znx s n)
def Zap(s:ZB)(n a b c:Int):Bool:=le s n a c&&le s n b c
def Zbd(s:ZB)(n a b c:Int):Bool:=le s n c a&&le s n c b
def ZcL(s:ZB)(n a b c:Int):Bool:=Zap s n a b c&&Zw (λd=>d==c||(!(Zap s n a b d)||le s n c d)) n.toNat
def ZcM(s:ZB)(n a b c:Int):Bool:=Zbd s n a b c&&Zw (λd=>d==c||(!(Zbd s n a b d)||le s n d c)) n.toNat
def Zcm(s:ZB)(n a b:Int):Option Int:=ZD (ZcL s n a b) n.toNat
def Zek(s:ZB)(n a b:Int):Option Int:=ZD (ZcM s n a b) n.toNat
def Zr9(s:ZB)(n:Int):Bool:=Zw (λa=>Zw (λb=>(Zcm s n a b).isSome&&(Zek s n a b).isSome) n.toNat) n.toNat
def judgeE(s:ZB)(n:Int):Int:=if ZaY s n then (if Zr9 s n then 0 else 5) else 4
def ZbK(s:ZB)(n a b:Int):Bool:=!((a==b&&!(le s n a b))||(a != b&&(le s n a b&&le s n b a)))&&Zw (λc=>!(le s n a b&&(le s n b c&&!(le s n a c)))) n.toNat
def Zca(s:ZB)(n:Int):Bool:=Zw (λa=>Zw (λb=>ZbK s n a b) n.toNat) n.toNat
def rIsJoin(s:ZB)(n a b j:Int):Bool:=Zap s n a b j&&Zw (λc=>!(Zap s n a b c)||le s n j c) n.toNat
def Zel(s:ZB)(n a b j:Int):Bool:=Zbd s n a b j&&Zw (λc=>!(Zbd s n a b c)||le s n c j) n.toNat
def Zbm(s:ZB)(n a b:Int):Option Int:=ZD (rIsJoin s n a b) n.toNat
def ZcN(s:ZB)(n a b:Int):Option Int:=ZD (Zel s n a b) n.toNat
def ZpB(s:ZB)(n:Int):Bool:=Zw (λa=>Zw (λb=>(Zbm s n a b).isSome&&(ZcN s n a b).isSome) n.toNat) n.toNat
theorem Zf6(hm:m<=k)(h:Zw f m=false):Zw f k=false:=by
 cases e:Zw f k with
 | false=>rfl
 | true=>
  rw[Za]at e
  rw[Za.2 (λi hi=>e i (by omega))]at h
  exact absurd h (by simp)
theorem ZaO(h:ZD f k=some x):0<=x∧x<k∧f x=true:=by
 induction k with
 | zero=>simp[ZD]at h
 | succ k ih=>
  simp only[ZD]at h
  cases e:ZD f k with
  | some y=>
   rw[e]at h
   simp only[Option.some.injEq]at h
   subst h
   have:=ih e
   exact⟨this.1,by omega,this.2.2⟩
  | none=>
   rw[e]at h
   by_cases hf:f k=true
   ·simp only[hf,if_true,Option.some.injEq]at h
    subst h
    exact⟨by omega,by omega,hf⟩
   ·simp[hf]at h
def ZdY(len k:Int):Int:=if sideF len<k then sideF len else 0
theorem ZkO{k:Int}(h1:1<=k)(h6:k<=6)(h:len=k*k):ZdY len (k+1)=k:=by
 unfold ZdY
 rw[ZgD h1 h6 h.symm,if_pos (by omega)]
theorem ZlV{k:Int}(h1:1<=k)(h:len≠k*k):ZdY len (k+1)=ZdY len k:=by
 unfold ZdY
 have hb:=Zdp len
 by_cases e:sideF len=k
 ·exact absurd ((hb.2.2 (by omega)).symm.trans (by rw[e])) h
 ·by_cases e2:sideF len<k
  ·rw[if_pos e2,if_pos (by omega)]
  ·rw[if_neg e2,if_neg (by omega)]
theorem ZkP(len:Int):ZdY len 7=sideF len:=by
 unfold ZdY
 have hb:=Zdp len
 rw[if_pos (by omega)]
def ZoW(s:ZB):Int:=if tabN s=0 then 3 else judgeE s (tabN s)
structure Turned(s t:ZB)(n:Int)(a b:Nat):Prop where
 size:(t.size:Int)=a*n+b
 bytes:∀i j:Nat,(j:Int)<n->(i:Int)*n+j<t.size->byt t (i*n+j)=byt s (j*n+i)
theorem Turned.start(s:ZB)(n:Int):Turned s {data:=#[]} n 0 0:=
 ⟨by simp[ByteArray.size],λi j _ h2=>by simp[ByteArray.size]at h2;have:=Int.mul_nonneg (a:=(i:Int)) (b:=n) (by omega) (by omega);omega⟩
theorem Turned.small(h:Turned s t n a b)(h36:n*n<=36)(ha:(a:Int)<n)(hb:(b:Int)<=n):t.size<=36:=by
 have h1:=h.size
 have h2:(a:Int)*n<=(n-1)*n:=QZ (by omega) (by omega)
 rw[Int.sub_mul]at h2
 omega
theorem ZnX(t u:ZB)(k:Int)(h:k.toNat<t.size):byt (t++u) k=byt t k:=by
 unfold byt
 rw[Qs,Qs]
 simp only[QU,Array.toList_append]
 rw[List.getElem?_append_left (by simpa using h)]
theorem ZlW(t u:ZB)(k:Int)(h:t.size<=k.toNat):byt (t++u) k=byt u (k-t.size):=by
 unfold byt
 rw[Qs,Qs]
 simp only[QU,Array.toList_append]
 rw[List.getElem?_append_right (by simpa using h)]
 congr 2
 simp only[Array.length_toList]
 show k.toNat-t.size=_
 omega
theorem ZiN(s:ZB)(a b k:Nat)(hb:b<=s.size)(h:a+k<b):byt (s.extract a b) k=byt s (a+k:Nat):=by
 unfold byt
 rw[Qs,Qs]
 simp only[Up,QC,Array.getElem?_toList]
 rw[Array.getElem?_extract,if_pos (by have:s.data.size=s.size:=rfl;omega)]
theorem Turned.more(h:Turned s t n k m)(_hk:(k:Int)<n)(hm:(m:Int)<n)(hs:(m:Int)*n+k<s.size) :
  Turned s (t++s.extract ((m:Int)*n+k).toNat ((m:Int)*n+k+1).toNat) n k (m+1):=by
 have hn:0<=(m:Int)*n:=QY (by omega) (by omega)
 have hsz:=h.size
 have he:(s.extract ((m:Int)*n+k).toNat ((m:Int)*n+k+1).toNat).size=1:=by
  rw[QX];omega
 have hz:(t++s.extract ((m:Int)*n+k).toNat ((m:Int)*n+k+1).toNat).size=t.size+1:=by
  rw[ByteArray.size_append,he]
 refine⟨by rw[hz];omega,?_⟩
 intro i j hj hlt
 rw[hz]at hlt
 have hi:0<=(i:Int)*n:=QY (by omega) (by omega)
 by_cases hl:(i:Int)*n+j<t.size
 ·rw[ZnX _ _ _ (by omega)]
  exact h.bytes i j hj hl
 ·have heq:(i:Int)*n+j=k*n+m:=by omega
  have hik:i=k:=by
   by_cases a:i<k
   ·have:((i:Int)+1)*n<=(k:Int)*n:=QZ (by omega) (by omega)
    rw[Int.add_mul]at this
    omega
   ·by_cases b:k<i
    ·have:((k:Int)+1)*n<=(i:Int)*n:=QZ (by omega) (by omega)
     rw[Int.add_mul]at this
     omega
    ·omega
  subst hik
  obtain rfl:j=m:=by omega
  rw[ZlW _ _ _ (by omega)]
  have e0:(i:Int)*n+j-t.size=((0:Nat):Int):=by omega
  rw[e0,ZiN _ _ _ _ (by omega) (by omega)]
  congr 1
  omega
theorem Turned.row(h:Turned s t n k m)(hm:(m:Int)=n):Turned s t n (k+1) 0:=by
 refine⟨?_,h.bytes⟩
 rw[h.size,hm]
 have:((k+1:Nat):Int)=(k:Int)+1:=by omega
 rw[this,Int.add_mul]
 omega
theorem Turned.tab(h:Turned s t n n.toNat 0)(ht:Tab s n):Tab t n:=by
 have e:((n.toNat:Nat):Int)=n:=by have:=ht.lo;omega
 have hs:=h.size
 rw[e]at hs
 exact⟨ht.lo,ht.hi,by omega⟩
theorem Turned.le(h:Turned s t n n.toNat 0)(ht:Tab s n)(a b:Int)(ha:0<=a)(ha':a<n)(hb:0<=b)(hb':b<n):le t n a b=le s n b a:=by
 have e:((n.toNat:Nat):Int)=n:=by have:=ht.lo;omega
 have hs:=h.size
 rw[e]at hs
 obtain⟨h1,h2⟩:=ZnV n a b ha ha' hb'
 have hb2:=h.bytes a.toNat b.toNat (by omega) (by rw[Qj ha,Qj hb];omega)
 rw[Qj ha,Qj hb]at hb2
 unfold Go.Proofs.YtcnbifdlkalimabGreat.le
 rw[hb2]
theorem Turned.meet(h:Turned s t n n.toNat 0)(ht:Tab s n)(a b:Int)(ha:0<=a)(ha':a<n)(hb:0<=b)(hb':b<n):Zbm t n a b=ZcN s n a b:=by
 refine Zcd (λj hj=>?_)
 have hA:∀c:Nat,c<n.toNat->Zap t n a b c=Zbd s n a b c:=by
  intro c hc
  unfold Zap Zbd
  rw[h.le ht a c ha ha' (by omega) (by omega),h.le ht b c hb hb' (by omega) (by omega)]
 unfold rIsJoin Zel
 rw[hA j hj]
 congr 1
 refine Zbq (λc hc=>?_)
 rw[hA c hc,h.le ht j c (by omega) (by omega) (by omega) (by omega)]
theorem Zbo(s:ZB)(n:Int):ZaY s n=Zca s n:=by
 rw[QM]
 unfold ZaY Zca Znw ZoV Znx Zc7
 simp only[Qr,Za]
 constructor
 ·rintro⟨h1,h2,h3⟩ a ha b hb
  unfold ZbK
  rw[Qr,Za]
  have hr:=h1 a ha
  have ht:=h3 a ha b hb
  constructor
  ·by_cases e:a=b
   ·subst e;simp[hr]
   ·have e1:((a:Int)==(b:Int))=false:=by simp;omega
    have e2:((a:Int) != (b:Int))=true:=by simp;omega
    rw[e1,e2]
    cases hab:le s n a b with
    | false=>simp
    | true=>
     cases hba:le s n b a with
     | false=>simp
     | true=>
      exfalso
      by_cases l:a<b
      ·have:=h2 a ha b hb
       have nl:¬(b:Int)<=a:=by omega
       simp[hab,hba,nl]at this
      ·have:=h2 b hb a ha
       have nl:¬(a:Int)<=b:=by omega
       simp[hab,hba,nl]at this
  ·intro c hc
   cases hab:le s n a b with
   | false=>simp
   | true=>
    rw[hab]at ht
    simp only[Bool.not_true,Uw,Za]at ht
    have:=ht c hc
    cases hbc:le s n b c with
    | false=>simp
    | true=>rw[hbc]at this;simp at this;simp[this]
 ·intro h
  have hh:∀a:Nat,a<n.toNat->∀b:Nat,b<n.toNat->((!((((a:Int)==b)&&!(le s n a b))||(((a:Int) != b)&&(le s n a b&&le s n b a))))=true∧∀c:Nat,c<n.toNat->(!(le s n a b&&(le s n b c&&!(le s n a c))))=true):=by
   intro a ha b hb
   have:=h a ha b hb
   unfold ZbK at this
   rw[Qr,Za]at this
   exact this
  refine⟨λa ha=>?_,λa ha b hb=>?_,λa ha b hb=>?_⟩
  ·have:=(hh a ha a ha).1
   simpa using this
  ·by_cases l:(b:Int)<=a
   ·simp[l]
   ·have:=(hh a ha b hb).1
    have e1:((a:Int)==(b:Int))=false:=by simp;omega
    have e2:((a:Int) != (b:Int))=true:=by simp;omega
    rw[e1,e2]at this
    simp only[Bool.false_and,Uw,Un]at this
    rw[this]
    simp
  ·cases hab:le s n a b with
   | false=>simp
   | true=>
    simp only[Bool.not_true,Uw,Za]
    intro c hc
    have:=(hh a ha b hb).2 c hc
    rw[hab]at this
    cases hbc:le s n b c with
    | false=>simp
    | true=>rw[hbc]at this;simpa using this
theorem ZiO(h:ZaY s n=true)(a:Nat)(ha:a<n.toNat):le s n a a=true:=by
 unfold ZaY Znw at h
 rw[Qr,Za]at h
 exact h.1 a ha
theorem Zdr(h:ZaY s n=true)(a b:Int):Zcm s n a b=Zbm s n a b:=by
 refine Zcd (λj hj=>?_)
 unfold ZcL rIsJoin
 congr 1
 refine Zbq (λc hc=>?_)
 by_cases e:c=j
 ·subst e;simp[ZiO h c hc]
 ·have:((c:Int)==(j:Int))=false:=by simp;omega
  rw[this,Uw]
theorem ZlX(h:ZaY s n=true)(a b:Int):Zek s n a b=ZcN s n a b:=by
 refine Zcd (λj hj=>?_)
 unfold ZcM Zel
 congr 1
 refine Zbq (λc hc=>?_)
 by_cases e:c=j
 ·subst e;simp[ZiO h c hc]
 ·have:((c:Int)==(j:Int))=false:=by simp;omega
  rw[this,Uw]
theorem ZnY(h:ZaY s n=true):Zr9 s n=ZpB s n:=by
 refine Zbq (λa _=>?_)
 refine Zbq (λb _=>?_)
 rw[Zdr h,ZlX h]
def levE(s:ZB):Int:=if tabN s=0 then 3 else if Zca s (tabN s) then (if ZpB s (tabN s) then 0 else 5) else 4
def levN(s:ZB):Int:=if levE s=0 then tabN s else 0
theorem Zdb(h:levE s=e)(he:e≠0):levN s=0:=by
 unfold levN
 rw[if_neg (by omega)]
theorem ZhH(h:levE s=0):levN s=tabN s:=by
 unfold levN
 rw[if_pos h]
theorem ZhI(s:ZB):ZoW s=levE s:=by
 unfold ZoW levE judgeE
 split
 ·rfl
 ·rw[Zbo]
  cases e:Zca s (tabN s) with
  | false=>rfl
  | true=>rw[ZnY (by rw[Zbo];exact e)]
theorem ZnZ(h:ZpB s n=true)(a b:Int)(ha:0<=a)(ha':a<n)(hb:0<=b)(hb':b<n):(Zbm s n a b).isSome=true∧(ZcN s n a b).isSome=true:=by
 unfold ZpB at h
 rw[Za]at h
 have h1:=h a.toNat (by omega)
 rw[Za]at h1
 have h2:=h1 b.toNat (by omega)
 rw[Qj ha,Qj hb,Qr]at h2
 exact h2
def ZjE(s:ZB):ZB:=if tabN s=0 then {data:=#[]} else s
def levS(s:ZB):ZB:=if levE s=0 then s else {data:=#[]}
theorem ZhJ(h:levE s=0):tabN s≠0∧Zca s (tabN s)=true∧ZpB s (tabN s)=true:=by
 unfold levE at h
 split at h
 ·omega
 ·split at h
  ·split at h
   ·exact⟨by assumption,by assumption,by assumption⟩
   ·omega
  ·omega
def Zsa(s:ZB)(a b:Int):Bool:=decide (0<=a∧a<tabN s∧0<=b∧b<tabN s)
def ZqY(s:ZB)(a b:Int):Int:=if levE s=0 then (if Zsa s a b then 0 else 10) else levE s
def Zra(s:ZB)(a b:Int):Int:=if ZqY s a b=0 then (Zbm s (tabN s) a b).getD 0 else 0
def Zrb(s:ZB)(a b:Int):Int:=if ZqY s a b=0 then (ZcN s (tabN s) a b).getD 0 else 0
theorem ZlY{a b:Int}(h:levE s=0)(h2:0<=a∧a<tabN s∧0<=b∧b<tabN s):ZqY s a b=0∧(Zbm s (tabN s) a b)=some (Zra s a b)∧(ZcN s (tabN s) a b)=some (Zrb s a b):=by
 have:ZqY s a b=0:=by unfold ZqY Zsa;rw[if_pos h,Qv h2];rfl
 obtain⟨h3,h4⟩:=ZnZ (ZhJ h).2.2 a b h2.1 h2.2.1 h2.2.2.1 h2.2.2.2
 refine⟨this,?_,?_⟩
 ·unfold Zra;rw[this,if_pos rfl]
  cases e:Zbm s (tabN s) a b with
  | none=>rw[e]at h3;exact absurd h3 (by simp)
  | some x=>rfl
 ·unfold Zrb;rw[this,if_pos rfl]
  cases e:ZcN s (tabN s) a b with
  | none=>rw[e]at h4;exact absurd h4 (by simp)
  | some x=>rfl
structure Own2(wr:World)(b:Nat)(x y:Value):Prop where
 lt:b<wr.heap.size
 c0:wr.cell? ⟨b,0,none⟩=some x
 c1:wr.cell? ⟨b,1,none⟩=some y
 f0:wr.frozen? ⟨b,0,none⟩=false
 f1:wr.frozen? ⟨b,1,none⟩=false
theorem Own2.step{x:Value}(h:Own2 wr b x y)(hb:Below wr.heap.size wr w1):Own2 w1 b x y:=
 ⟨Qq h.lt hb.size,by rw[hb.cell (p:=⟨b,0,none⟩) h.lt];exact h.c0,by rw[hb.cell (p:=⟨b,1,none⟩) h.lt];exact h.c1,by rw[hb.frozen (p:=⟨b,0,none⟩) h.lt];exact h.f0,by rw[hb.frozen (p:=⟨b,1,none⟩) h.lt];exact h.f1⟩
theorem Own2.new(w:World)(x y:Value)(t:TypeId):Own2 (w.alloc (.cells #[x,y] t)) w.heap.size x y:=
 ⟨by simp,by simp[go_sem],by simp[go_sem],by simp[go_sem],by simp[go_sem]⟩
theorem Own2.alloc{x:Value}(h:Own2 wr b x y)(o:Obj):Own2 (wr.alloc o) b x y:=
 h.step ((Qh _ _).alloc (Qb _) _)
structure Kp(p:Prop):Prop where
 out:p
theorem Z_{p:Prop}(h:p):Kp p:=⟨h⟩
def bv(s:ZB)(k:Int):Int:=((byt s k).toNat:Nat)
theorem Zag(s:ZB)(k:Int):0<=bv s k∧bv s k<=255:=by
 unfold bv
 have:=UInt8.toNat_lt (byt s k)
 omega
theorem ZjR(s:ZB)(k:Int)(h:k.toNat<s.size):((s[k.toNat].toNat:Nat):Int)=bv s k:=by
 unfold bv
 rw[ZlT s k h]
theorem ZS(s:ZB)(k:Nat)(h:k<s.size):((s[k].toNat:Nat):Int)=bv s k:=ZjR s k (by simpa using h)
def hd(s:ZB)(n:Int):ZB:=s.extract 0 n.toNat
def tl(s:ZB)(n:Int):ZB:=s.extract n.toNat s.size
theorem ZiP(h0:0<=n)(h:n<=s.size):((hd s n).size:Int)=n:=by
 unfold hd
 rw[QX]
 omega
theorem ZiQ(s:ZB)(n:Int):(hd s n).size<=s.size:=by
 unfold hd
 rw[QX]
 omega
theorem ZbO(s:ZB)(n:Int):(tl s n).size<=s.size:=by
 unfold tl
 rw[QX]
 omega
structure Own(wr:World)(b:Nat)(vs:List Value):Prop where
 lt:b<wr.heap.size
 c:∀(i:Nat) (v:Value),vs[i]?=some v->wr.cell? ⟨b,i,none⟩=some v
 f:∀(i:Nat) (v:Value),vs[i]?=some v->wr.frozen? ⟨b,i,none⟩=false
theorem Own.step{vs:List Value}(h:Own wr b vs)(hb:Below wr.heap.size wr w1):Own w1 b vs:=
 ⟨Qq h.lt hb.size,λi v hv=>by rw[hb.cell (p:=⟨b,i,none⟩) h.lt];exact h.c i v hv,λi v hv=>by rw[hb.frozen (p:=⟨b,i,none⟩) h.lt];exact h.f i v hv⟩
theorem Own.alloc{vs:List Value}(h:Own wr b vs)(o:Obj):Own (wr.alloc o) b vs:=
 h.step ((Qh _ _).alloc (Qb _) _)
theorem Own.new2(w:World)(x y:Value)(t:TypeId):Own (w.alloc (.cells #[x,y] t)) w.heap.size [x,y]:=by
 refine⟨by simp,?_,?_⟩ <;>
 ·intro i v hv
  match i with
  | 0=>simp at hv;simp[go_sem,hv]
  | 1=>simp at hv;simp[go_sem,hv]
  | i+2=>simp at hv
theorem Own.new3(w:World)(x y z:Value)(t:TypeId):Own (w.alloc (.cells #[x,y,z] t)) w.heap.size [x,y,z]:=by
 refine⟨by simp,?_,?_⟩ <;>
 ·intro i v hv
  match i with
  | 0=>simp at hv;simp[go_sem,hv]
  | 1=>simp at hv;simp[go_sem,hv]
  | 2=>simp at hv;simp[go_sem,hv]
  | i+3=>simp at hv
theorem Own.new4(w:World)(x y z u:Value)(t:TypeId):Own (w.alloc (.cells #[x,y,z,u] t)) w.heap.size [x,y,z,u]:=by
 refine⟨by simp,?_,?_⟩ <;>
 ·intro i v hv
  match i with
  | 0=>simp at hv;simp[go_sem,hv]
  | 1=>simp at hv;simp[go_sem,hv]
  | 2=>simp at hv;simp[go_sem,hv]
  | 3=>simp at hv;simp[go_sem,hv]
  | i+4=>simp at hv
theorem Own.new5(w:World)(x y z u a:Value)(t:TypeId):Own (w.alloc (.cells #[x,y,z,u,a] t)) w.heap.size [x,y,z,u,a]:=by
 refine⟨by simp,?_,?_⟩ <;>
 ·intro i v hv
  match i with
  | 0=>simp at hv;simp[go_sem,hv]
  | 1=>simp at hv;simp[go_sem,hv]
  | 2=>simp at hv;simp[go_sem,hv]
  | 3=>simp at hv;simp[go_sem,hv]
  | 4=>simp at hv;simp[go_sem,hv]
  | i+5=>simp at hv
def cOk(s:ZB)(sz most:Int):Bool:=decide (1<=s.size∧bv s 0<=most∧sz*bv s 0<=(tl s 1).size)
def Zc3(s:ZB)(sz:Int):ZB:=hd (tl s 1) (sz*bv s 0)
def Zem(s:ZB)(sz:Int):ZB:=tl (tl s 1) (sz*bv s 0)
theorem Zn0{sz most:Int}(h:cOk s sz most=true):1<=s.size∧bv s 0<=most∧sz*bv s 0<=(tl s 1).size:=QB h
theorem Zsm{sz most:Int}(h:cOk s sz most=false):s.size=0∨(1<=s.size∧most<bv s 0)∨(1<=s.size∧bv s 0<=most∧(tl s 1).size<sz*bv s 0):=by
 have:=Ul h
 omega
def Zny(v:ZB)(n:Int):Bool:=Zw (λi=>decide (bv v i<n)) v.size
def vOk(s:ZB)(n:Int):Bool:=cOk s 1 8&&Zny (Zc3 s 1) n
def Znz(s:ZB):Bool:=decide (2<=s.size∧bv s 0=83∧1<=bv s 1∧bv s 1<=6)
def fTab(s:ZB):ZB:=hd (tl s 2) (bv s 1*bv s 1)
def fR1(s:ZB):ZB:=tl (tl s 2) (bv s 1*bv s 1)
def Zby(s:ZB):Bool:=Znz s&&(decide (bv s 1*bv s 1<=(tl s 2).size)&&bits (fTab s))
def ZZ(s:ZB):ZB:=Zc3 (fR1 s) 1
def fR2(s:ZB):ZB:=Zem (fR1 s) 1
def ZQ(s:ZB):ZB:=Zc3 (fR2 s) 2
def fR3(s:ZB):ZB:=Zem (fR2 s) 2
def fOk(s:ZB):Bool:=Zby s&&(vOk (fR1 s) (bv s 1)&&(cOk (fR2 s) 2 200&&decide ((fR3 s).size=0)))
theorem ZeY(h:Znz s=true):2<=s.size∧bv s 0=83∧1<=bv s 1∧bv s 1<=6:=QB h
theorem ZpU(h:Znz s=false):s.size<2∨(2<=s.size∧bv s 0≠83)∨(2<=s.size∧bv s 0=83∧bv s 1<1)∨(2<=s.size∧bv s 0=83∧1<=bv s 1∧6<bv s 1):=by
 have:=Ul h
 omega
theorem ZlZ(h:Znz s=true)(h2:bv s 1*bv s 1<=(tl s 2).size):tabN (fTab s)=if bits (fTab s) then bv s 1 else 0:=by
 obtain⟨-,-,h1,h6⟩:=ZeY h
 have hz:((fTab s).size:Int)=bv s 1*bv s 1:=ZiP (QY (by omega) (by omega)) h2
 unfold tabN
 rw[ZgD h1 h6 hz.symm]
def half(c:ZB):Int:=(c.size:Int)/2
theorem Z4(c:ZB):0<=half c∧2*half c<=c.size∧c.size<2*half c+2:=by
 unfold half
 omega
def ZaH(nv k n op arg:Int):Bool:=decide (op=0∨((op=1∨op=2)∧arg<nv)∨((3<=op∧op<=7)∧arg=0)∨((op=8∨op=9)∧arg<=k)∨((op=10∨op=11)∧arg<n))
def ZnA(c v:ZB)(n i:Int):Bool:=ZaH v.size (half c) n (bv c (2*i)) (bv c (2*i+1))
def Zc8(c v:ZB)(n:Int):Bool:=Zw (ZnA c v n) (half c).toNat
def scanE(s:ZB):Int:=if 448<(s.size:Int) then 1 else if fOk s then (if levE (fTab s)=0 then (if Zc8 (ZQ s) (ZZ s) (bv s 1) then 0 else 6) else levE (fTab s)) else 2
theorem ZeJ(h:Zby s=true):Tab (fTab s) (bv s 1)∧tabN (fTab s)=bv s 1∧judgeE (fTab s) (bv s 1)=levE (fTab s):=by
 unfold Zby at h
 rw[Qr,Qr]at h
 obtain⟨h1,h2,h3⟩:=h
 have hN:=ZlZ h1 (QB h2)
 rw[h3,if_pos rfl]at hN
 obtain⟨-,-,k3,k4⟩:=ZeY h1
 have ht:=(Zce (s:=fTab s) (by omega)).1
 rw[hN]at ht
 refine⟨ht,hN,?_⟩
 have hl:=ZhI (fTab s)
 unfold ZoW at hl
 rw[hN,if_neg (by omega)]at hl
 exact hl
theorem ZcP(s:ZB) :
  (448<(s.size:Int)∧scanE s=1)∨(s.size<=448∧fOk s=false∧scanE s=2)∨(s.size<=448∧fOk s=true∧levE (fTab s)≠0∧scanE s=levE (fTab s))∨
  (s.size<=448∧fOk s=true∧levE (fTab s)=0∧Zc8 (ZQ s) (ZZ s) (bv s 1)=false∧scanE s=6)∨(s.size<=448∧fOk s=true∧levE (fTab s)=0∧Zc8 (ZQ s) (ZZ s) (bv s 1)=true∧scanE s=0):=by
 unfold scanE
 by_cases h:448<(s.size:Int)
 ·exact .inl ⟨h,by rw[if_pos h]⟩
 ·rw[if_neg h]
  have h':s.size<=448:=by omega
  cases h1:fOk s with
  | false=>exact .inr (.inl ⟨h',rfl,rfl⟩)
  | true=>
   by_cases h2:levE (fTab s)=0
   ·cases h3:Zc8 (ZQ s) (ZZ s) (bv s 1) with
    | false=>exact .inr (.inr (.inr (.inl ⟨h',rfl,h2,rfl,by rw[if_pos rfl,if_pos h2];rfl⟩)))
    | true=>exact .inr (.inr (.inr (.inr ⟨h',rfl,h2,rfl,by rw[if_pos rfl,if_pos h2];rfl⟩)))
   ·exact .inr (.inr (.inl ⟨h',rfl,h2,by rw[if_pos rfl,if_neg h2]⟩))
def bs(L:List Int):ZB:=⟨(L.map λx=>UInt8.ofNat x.toNat).toArray⟩
theorem Zc(L:List Int):(bs L).size=L.length:=by
 show (L.map λx=>UInt8.ofNat x.toNat).toArray.size=_
 simp
theorem Zg(L M:List Int):bs (L++M)=bs L++bs M:=by
 apply ByteArray.ext
 show ((L++M).map λx=>UInt8.ofNat x.toNat).toArray=(bs L++bs M).data
 rw[QU]
 simp[bs]
theorem Zro:bs []={data:=#[]}:=rfl
theorem Zrp{L:List Int}(h:L[k]?=some x):byt (bs L) k=UInt8.ofNat x.toNat:=by
 unfold byt bs
 simp[List.getD,h]
theorem ZfR{L:List Int}(h:L[k]?=some x)(h0:0<=x)(h1:x<=255):bv (bs L) k=x:=by
 unfold bv
 rw[Zrp h]
 have:(UInt8.ofNat x.toNat).toNat=x.toNat:=by
  rw[UInt8.toNat_ofNat'];omega
 rw[this]
 omega
structure Rd where
 a:Nat
 er:Int
def blk(x:Int):Bool:=x==32||x==10
def Zsi(s:ZB):Nat->Nat->Nat
 | 0,a=>a
 | k+1,a=>if a<s.size∧blk (bv s a)=true then Zsi s k (a+1) else a
def skp(s:ZB)(a:Nat):Nat:=Zsi s (s.size-a) a
theorem Zl0(h:a<s.size)(hb:blk (bv s a)=true):skp s a=skp s (a+1):=by
 unfold skp
 rw[show s.size-a=(s.size-(a+1))+1 from by omega]
 simp only[Zsi]
 rw[if_pos ⟨h,hb⟩]
theorem Zf7(h:¬(a<s.size∧blk (bv s a)=true)):skp s a=a:=by
 unfold skp
 cases s.size-a with
 | zero=>rfl
 | succ k=>simp only[Zsi];rw[if_neg h]
theorem ZiR(s:ZB)(P:Nat->Nat->Prop)(h0:∀a,¬(a<s.size∧blk (bv s a)=true)->P a a)(h1:∀a,a<s.size->blk (bv s a)=true->P (a+1) (skp s (a+1))->P a (skp s (a+1))):∀a,P a (skp s a):=by
 have key:∀k a,s.size-a<=k->P a (skp s a):=by
  intro k
  induction k with
  | zero=>
   intro a ha
   have hn:¬(a<s.size∧blk (bv s a)=true):=λh=>by omega
   rw[Zf7 hn]
   exact h0 a hn
  | succ k ih=>
   intro a ha
   by_cases h:a<s.size∧blk (bv s a)=true
   ·rw[Zl0 h.1 h.2]
    exact h1 a h.1 h.2 (ih (a+1) (by omega))
   ·rw[Zf7 h]
    exact h0 a h
 exact λa=>key _ a (Qb _)
theorem Zo9(s:ZB)(a:Nat):a<=skp s a:=
 ZiR s (λa b=>a<=b) (λ_ _=>Qb _) (λa _ _ h=>by omega) a
theorem Zpa(h:a<=s.size):skp s a<=s.size:=
 ZiR s (λa b=>a<=s.size->b<=s.size) (λ_ _ h=>h) (λa h1 _ h2 _=>h2 (by omega)) a h
theorem Zrq(s:ZB)(a:Nat):¬(skp s a<s.size∧blk (bv s (skp s a))=true):=
 ZiR s (λ_ b=>¬(b<s.size∧blk (bv s b)=true)) (λ_ h=>h) (λ_ _ _ h=>h) a
theorem Zl1(s:ZB)(a:Nat):skp s (skp s a)=skp s a:=Zf7 (Zrq s a)
def here(s:ZB)(r:Rd):Int:=if r.er=0∧r.a<s.size then bv s r.a else 0
def adv(s:ZB)(r:Rd):Rd:=if r.er=0 then ⟨skp s r.a,0⟩ else r
def tok(s:ZB)(r:Rd):Int:=here s (adv s r)
def rfs(r:Rd)(e:Int):Rd:=if r.er=0 then ⟨r.a,e⟩ else r
def nx(r:Rd):Rd:=if r.er=0 then ⟨r.a+1,0⟩ else r
def Zbn(s:ZB)(r:Rd)(ok:Bool)(e:Int):Rd:=if ok=true then nx (adv s r) else rfs (adv s r) e
def tk(s:ZB)(r:Rd)(c:Int):Rd:=Zbn s r (tok s r==c) 11
def rem(s:ZB)(r:Rd):Nat:=if r.er=0 then s.size-r.a else 0
theorem Zk(s:ZB)(r:Rd):(adv s r).er=r.er:=by unfold adv;split<;>simp_all
theorem Zz{r:Rd}(h:r.er≠0):adv s r=r:=if_neg h
theorem Zb0{r:Rd}(h:r.er=0):adv s r=⟨skp s r.a,0⟩:=if_pos h
theorem ZY(s:ZB)(r:Rd):adv s (adv s r)=adv s r:=by
 by_cases h:r.er=0
 ·rw[Zb0 h,Zb0 rfl]
  show (⟨skp s (skp s r.a),0⟩:Rd)=_
  rw[Zl1]
 ·rw[Zz h,Zz h]
theorem Ze{r:Rd}(h:r.a<=s.size):(adv s r).a<=s.size:=by
 unfold adv
 split
 ·exact Zpa h
 ·exact h
theorem Zds(s:ZB)(r:Rd):r.a<=(adv s r).a:=by
 unfold adv
 split
 ·exact Zo9 _ _
 ·exact Qb _
theorem Zp(s:ZB)(r:Rd):tok s (adv s r)=tok s r:=by unfold tok;rw[ZY]
theorem ZpV(s:ZB)(r:Rd):0<=here s r∧here s r<=255:=by
 unfold here
 split
 ·exact Zag _ _
 ·omega
theorem ZjS{r:Rd}(h:r.er≠0):here s r=0:=if_neg λk=>h k.1
theorem ZcQ{r:Rd}(h:here s r≠0):r.er=0∧r.a<s.size:=by
 unfold here at h
 split at h
 ·assumption
 ·exact absurd rfl h
theorem Zrr(s:ZB)(r:Rd):0<=tok s r∧tok s r<=255:=ZpV _ _
theorem Zd3{r:Rd}(h:r.er≠0):tok s r=0:=by unfold tok;rw[Zz h,ZjS h]
theorem Z5{r:Rd}(h:tok s r≠0):r.er=0∧(adv s r).a<s.size:=by
 have:=ZcQ h
 rw[Zk]at this
 exact this
theorem Zdt(r:Rd):(nx r).er=r.er:=by unfold nx;split<;>simp_all
theorem ZkQ(r:Rd)(e:Int):(rfs r e).a=r.a:=by unfold rfs;split<;>rfl
theorem Zan{r:Rd}(he:e≠0):(rfs r e).er≠0:=by
 unfold rfs
 split
 ·exact he
 ·assumption
theorem ZiS{r:Rd}(h:r.er≠0):rfs r e=r:=if_neg h
theorem Zpb{r:Rd}(h:r.er≠0):nx r=r:=if_neg h
theorem Zn1{r:Rd}(h:here s r≠0):(nx r).a<=s.size:=by
 have:=ZcQ h
 unfold nx
 rw[if_pos this.1]
 exact this.2
theorem ZiT{r:Rd}(h:r.a<=s.size)(hk:ok=true->tok s r≠0):(Zbn s r ok e).a<=s.size:=by
 unfold Zbn
 split
 ·exact Zn1 (hk (by assumption))
 ·rw[ZkQ];exact Ze h
theorem Z0{r:Rd}{c:Int}(h:r.a<=s.size)(hc:c≠0):(tk s r c).a<=s.size:=
 ZiT h (λk=>by have:=eq_of_beq k;omega)
theorem Zdc{r:Rd}(h:r.er≠0):rem s r=0:=if_neg h
theorem Zt(s:ZB)(r:Rd):rem s (adv s r)<=rem s r:=by
 by_cases h:r.er=0
 ·rw[Zb0 h]
  unfold rem
  rw[if_pos rfl,if_pos h]
  have:=Zo9 s r.a
  show s.size-skp s r.a<=_
  omega
 ·rw[Zz h];exact Qb _
theorem ZeZ{r:Rd}(he:e≠0):rem s (rfs r e)=0:=Zdc (Zan he)
theorem Zcv{r:Rd}(h:here s r≠0):rem s (nx r)<rem s r:=by
 have k:=ZcQ h
 unfold rem
 rw[Zdt,if_pos k.1,if_pos k.1]
 unfold nx
 rw[if_pos k.1]
 show s.size-(r.a+1)<_
 omega
theorem Ze0(s:ZB)(r:Rd):rem s (nx r)<=rem s r:=by
 unfold rem nx
 split
 ·rw[if_pos rfl];show s.size-(r.a+1)<=_;omega
 ·exact Qb _
theorem ZgE{r:Rd}(he:e≠0):rem s (Zbn s r ok e)<=rem s r:=by
 unfold Zbn
 split
 ·exact Qg (Ze0 _ _) (Zt _ _)
 ·rw[ZeZ he];exact Q8 _
theorem ZaD(s:ZB)(r:Rd)(c:Int):rem s (tk s r c)<=rem s r:=ZgE (by omega)
theorem Zdd{r:Rd}(hk:ok=true)(ht:tok s r≠0):rem s (Zbn s r ok e)<rem s r:=by
 unfold Zbn
 rw[if_pos hk]
 exact Qq (Zcv ht) (Zt _ _)
theorem Z1(s:ZB)(r:Rd):rem s r<=s.size:=by unfold rem;split<;>omega
def isD(s:ZB)(r:Rd)(lo hi:Int):Bool:=decide (lo<=tok s r-48∧tok s r-48<=hi)
def dig(s:ZB)(r:Rd)(lo hi:Int):Int:=if isD s r lo hi=true then tok s r-48 else 0
def digR(s:ZB)(r:Rd)(lo hi:Int):Rd:=Zbn s r (isD s r lo hi) 11
theorem ZiU{r:Rd}{lo hi:Int}(h0:0<=lo)(h:isD s r lo hi=true):tok s r≠0:=by
 have:=QB h
 omega
def ZfK(s:ZB):Nat->Rd->Int->Int×Rd
 | 0,r,v=>(v,r)
 | k+1,r,v=>if 48<=here s r∧here s r<=57 then (if 255<10*v+here s r-48 then (0,rfs r 11) else ZfK s k (nx r) (10*v+here s r-48)) else (v,r)
def num(s:ZB)(r:Rd):Int×Rd:=ZfK s (rem s r) r 0
theorem Zl2(s:ZB)(k:Nat)(r:Rd)(v:Int)(h:rem s r=0):ZfK s k r v=(v,r):=by
 cases k with
 | zero=>rfl
 | succ k=>
  have:¬(48<=here s r∧here s r<=57):=λc=>by
   have:=Zcv (s:=s) (r:=r) (by omega)
   omega
  simp only[ZfK]
  rw[if_neg this]
theorem Zl3:∀(k:Nat) (r:Rd) (v:Int),0<=v->v<=255->(0<=(ZfK s k r v).1∧(ZfK s k r v).1<=255)
 | 0,r,v,h0,h1=>⟨h0,h1⟩
 | k+1,r,v,h0,h1=>by
  simp only[ZfK]
  split
  ·rename_i hd
   split
   ·exact⟨QP _,by show (0:Int)<=255;omega⟩
   ·exact Zl3 k _ _ (by omega) (by omega)
  ·exact⟨h0,h1⟩
theorem ZgF:∀(k:Nat) (r:Rd) (v:Int),rem s (ZfK s k r v).2<=rem s r
 | 0,r,v=>Qb _
 | k+1,r,v=>by
  simp only[ZfK]
  split
  ·split
   ·show rem s (rfs r 11)<=_
    rw[ZeZ (by omega)];exact Q8 _
   ·exact Qg (ZgF k _ _) (Ze0 _ _)
  ·exact Qb _
theorem ZgG:∀(k:Nat) (r:Rd) (v:Int),r.a<=s.size->(ZfK s k r v).2.a<=s.size
 | 0,r,v,h=>h
 | k+1,r,v,h=>by
  simp only[ZfK]
  split
  ·rename_i hd
   split
   ·show (rfs r 11).a<=_
    rw[ZkQ];exact h
   ·exact ZgG k _ _ (Zn1 (by omega))
  ·exact h
def fnd(c:Int):List Int->Nat
 | []=>0
 | x::l=>if x=c then 0 else fnd c l+1
theorem Zf8(c:Int):∀l,fnd c l<=l.length
 | []=>Qb _
 | x::l=>by
  simp only[fnd,Qt]
  split
  ·omega
  ·have:=Zf8 c l;omega
theorem Zf9{c:Int}:∀{l:List Int},fnd c l<l.length->l[fnd c l]?=some c
 | [],h=>by simp[fnd]at h
 | x::l,h=>by
  simp only[fnd]at h ⊢
  split
  ·rename_i e;simp[e]
  ·rename_i e
   rw[if_neg e]at h
   rw[List.getElem?_cons_succ]
   exact Zf9 (by simpa using h)
theorem Zb1{c:Int}:∀{l:List Int} {j:Nat},j<fnd c l->l[j]?≠some c
 | [],j,h=>by simp
 | x::l,j,h=>by
  simp only[fnd]at h
  split at h
  ·omega
  ·rename_i e
   cases j with
   | zero=>simpa using e
   | succ j=>rw[List.getElem?_cons_succ];exact Zb1 (by omega)
theorem ZjT{c:Int}{l:List Int}(h:l[i]?=some c)(hb:∀j,j<i->l[j]?≠some c):fnd c l=i:=by
 have hi:i<l.length:=(Ql.1 h).1
 by_cases h1:fnd c l<i
 ·exact absurd (Zf9 (by omega)) (hb _ h1)
 ·by_cases h2:i<fnd c l
  ·exact absurd h (Zb1 h2)
  ·omega
theorem ZbF{c:Int}{l:List Int}(hb:∀j,j<l.length->l[j]?≠some c):fnd c l=l.length:=by
 have:=Zf8 c l
 by_cases h:fnd c l<l.length
 ·exact absurd (Zf9 h) (hb _ h)
 ·omega
def isL(t:Int):Bool:=decide (97<=t∧t<=104)
def ZaW(s:ZB)(r:Rd)(ls:List Int):Bool:=isL (tok s r)&&decide (fnd (tok s r) ls<ls.length)
def varI(s:ZB)(r:Rd)(ls:List Int):Nat:=if ZaW s r ls=true then fnd (tok s r) ls else 0
def varR(s:ZB)(r:Rd)(ls:List Int):Rd:=Zbn s r (ZaW s r ls) (if isL (tok s r)=true then 12 else 11)
def opOf(t:Int):Int:=if t=43 then 3 else if t=45 then 4 else if t=42 then 5 else if t=60 then 6 else if t=126 then 7 else 0
theorem Ze1{r:Rd}{ls:List Int}(h:ZaW s r ls=true):tok s r≠0:=by
 unfold ZaW isL at h
 have:=QB (Qr _ _ ▸ h:_∧_).1
 omega
theorem ZbG{t:Int}(h:opOf t≠0):t≠0∧3<=opOf t∧opOf t<=7:=by
 have key:(t=43∧opOf t=3)∨(t=45∧opOf t=4)∨(t=42∧opOf t=5)∨(t=60∧opOf t=6)∨(t=126∧opOf t=7)∨opOf t=0:=by
  unfold opOf
  by_cases h1:t=43
  ·rw[if_pos h1];exact .inl ⟨h1,rfl⟩
  ·rw[if_neg h1]
   by_cases h2:t=45
   ·rw[if_pos h2];exact .inr (.inl ⟨h2,rfl⟩)
   ·rw[if_neg h2]
    by_cases h3:t=42
    ·rw[if_pos h3];exact .inr (.inr (.inl ⟨h3,rfl⟩))
    ·rw[if_neg h3]
     by_cases h4:t=60
     ·rw[if_pos h4];exact .inr (.inr (.inr (.inl ⟨h4,rfl⟩)))
     ·rw[if_neg h4]
      by_cases h5:t=126
      ·rw[if_pos h5];exact .inr (.inr (.inr (.inr (.inl ⟨h5,rfl⟩))))
      ·rw[if_neg h5];exact .inr (.inr (.inr (.inr (.inr rfl))))
 generalize opOf t=o at *
 omega
def nxt(c:ZB)(i:Int):List Int:=
 if bv c (2*i)=8 then [bv c (2*i+1)] else if bv c (2*i)=9∧bv c (2*i+1)≠i+1 then [i+1,bv c (2*i+1)] else [i+1]
def Edge(c:ZB)(i j:Int):Prop:=0<=i∧i<half c∧j∈nxt c i
def Reach(c:ZB)(S:Int->Prop)(wall j:Int):Prop:=
 ∀P:Int->Prop,(∀i,S i->i≠wall->P i)->(∀i k,P i->Edge c i k->k≠wall->P k)->P j
theorem Reach.start{i:Int}(h:S i)(hw:i≠wall):Reach c S wall i:=λ_ h0 _=>h0 i h hw
theorem Reach.step{i k:Int}(h:Reach c S wall i)(he:Edge c i k)(hw:k≠wall):Reach c S wall k:=
 λP h0 h1=>h1 i k (h P h0 h1) he hw
def Ranged(c:ZB):Prop:=∀i j:Int,Edge c i j->0<=j∧j<=half c
def ZfN(m:Nat->Bool):Nat->Nat
 | 0=>0
 | k+1=>ZfN m k+(if m k then 0 else 1)
theorem ZhK{m m':Nat->Bool}(h:∀i,i<k->m i=m' i):ZfN m k=ZfN m' k:=by
 induction k with
 | zero=>rfl
 | succ k ih=>simp only[ZfN,ih (λi hi=>h i (by omega)),h k (by omega)]
theorem Zdu{m:Nat->Bool}{j:Nat}(hj:j<k)(h:m j=false):ZfN (λx=>if x=j then true else m x) k+1=ZfN m k:=by
 induction k with
 | zero=>omega
 | succ k ih=>
  by_cases e:j=k
  ·subst e
   have hs:ZfN (λx=>if x=j then true else m x) j=ZfN m j:=ZhK (λi hi=>by rw[if_neg (by omega)])
   simp only[ZfN,hs,if_true,h]
   simp
  ·have:=ih (by omega)
   have e2:(if k=j then true else m k)=m k:=if_neg (λh=>e h.symm)
   simp only[ZfN,e2]
   omega
def One(i:Int):Int->Prop:=λx=>x=i
theorem Reach.trans{a b:Int}(h:Reach c S wall a)(k:Reach c (One a) wall b):Reach c S wall b:=
 k (λx=>Reach c S wall x) (λx hx _=>by rw[show x=a from hx];exact h) (λ_ _ hx he hw=>hx.step he hw)
theorem Reach.congr{T:Int->Prop}(hST:∀x,S x->T x)(h:Reach c S wall j):Reach c T wall j:=
 h (λx=>Reach c T wall x) (λx hx hw=>Reach.start (hST x hx) hw) (λ_ _ hx he hw=>hx.step he hw)
theorem Reach.free{i:Int}(hr:Ranged c)(h0:0<=i)(h:Reach c (One i) wall j):Reach c (One i) (-1) j:=
 h (λx=>Reach c (One i) (-1) x) (λx hx _=>Reach.start hx (by have hx:x=i:=hx;omega)) (λx y hx he _=>hx.step he (by have:=(hr x y he).1;omega))
def Zhr(c:ZB)(i j:Int):Prop:=¬Reach c (One i) j (half c)
structure IsJ(c:ZB)(i j:Int):Prop where
 lo:0<=j
 hi:j<=half c
 ne:j≠i
 on:Zhr c i j
 first:∀b:Int,0<=b->b<=half c->b≠i->b≠j->Zhr c i b->¬Reach c (One i) j b
theorem IsJ.unique{i k:Int}(hend:Reach c (One i) (-1) (half c))(hj:IsJ c i j)(hk:IsJ c i k):j=k:=by
 by_cases e:j=k
 ·exact e
 ·exfalso
  have h1:=hj.first k hk.lo hk.hi hk.ne (λh=>e h.symm) hk.on
  have h2:=hk.first j hj.lo hj.hi hj.ne e hj.on
  have:=hend (λx=>Reach c (One i) j x∧Reach c (One i) k x)
   (λx hx _=>by
    have hx:x=i:=hx
    subst hx
    exact⟨Reach.start rfl (λh=>hj.ne h.symm),Reach.start rfl (λh=>hk.ne h.symm)⟩)
   (λx y hx he _=>by
    have hyj:y≠j:=λh=>h2 (by subst h;exact hx.2.step he e)
    have hyk:y≠k:=λh=>h1 (by subst h;exact hx.1.step he (λh=>e h.symm))
    exact⟨hx.1.step he hyj,hx.2.step he hyk⟩)
  exact hj.on this.1
def Reg(c:ZB)(i p:Int):Prop:=∃j,IsJ c i j∧Reach c (λx=>x∈nxt c i) j p
def takesF(op:Int):Int:=if op=2∨op=9∨op=11 then 1 else if op=0∨op=1∨op=8∨op=10 then 0 else 2
def givesF(op:Int):Int:=if op=2∨op=9∨op=11∨op=8 then 0 else 1
def takesAt(c:ZB)(i:Int):Int:=takesF (bv c (2*i))
def givesAt(c:ZB)(i:Int):Int:=givesF (bv c (2*i))
theorem ZeK(c:ZB)(i:Int):(0<=takesAt c i∧takesAt c i<=2)∧(0<=givesAt c i∧givesAt c i<=1)∧-1<=givesAt c i-takesAt c i:=by
 unfold takesAt givesAt takesF givesF
 refine⟨?_,?_,?_⟩
 ·split
  ·omega
  ·split<;>omega
 ·split<;>omega
 ·by_cases h1:bv c (2*i)=2∨bv c (2*i)=9∨bv c (2*i)=11
  ·rw[if_pos h1,if_pos (by omega)];omega
  ·rw[if_neg h1]
   by_cases h2:bv c (2*i)=8
   ·rw[if_pos (by omega),if_pos (by omega)];omega
   ·rw[if_neg (by omega)]
    split<;>omega
def Live(c:ZB)(i:Int):Prop:=Reach c (One 0) (-1) i
structure Zr(c:ZB)(h:Nat->Int):Prop where
 zero:h 0=0
 rng:∀i:Nat,(i:Int)<=half c->Live c i->0<=h i∧h i<=8
 fin:Live c (half c)->h (half c).toNat=0
 pops:∀i:Nat,(i:Int)<half c->Live c i->takesAt c i<=h i
 step:∀i:Nat,(i:Int)<half c->Live c i->∀j:Int,j∈nxt c i->h j.toNat=h i-takesAt c i+givesAt c i
structure Sq where
 k:Int
 pl:Int
 ou:Int
 ta:Int
 rd:Nat->Bool
 tp:Nat->Bool
structure Tq where
 r:Rd
 n:Int
 pn:Int
 pr:Nat->Nat->Bool
 ls:List Int
 vs:List Int
 cd:List Int
 h:Int
 hi:Int
 ss:List Sq
def Zhs(m:Nat->Bool)(p:Int):Nat->Bool:=λj=>if (j:Int)=p then true else m j
def emitQ(q:Tq)(op x:Int):Tq:=
 {q with cd:=q.cd++[op,x%256],h:=q.h+givesF op-takesF op,hi:=max q.hi (q.h+givesF op-takesF op)}
def plQ(q:Tq):Nat:=q.cd.length/2
def aimQ(q:Tq)(z:Nat):Tq:={q with cd:=q.cd.set (2*z+1) ((plQ q:Int)%256)}
def addQ(q:Tq)(x:Sq):Tq:={q with ss:=q.ss++[x]}
def lvOf(q:Tq)(v:Nat):Int:=q.vs.getD v 0
def Ziu(s:ZB)(x:Tq×Sq):Tq×Sq:=
 (emitQ {x.1 with r:=digR s (tk s x.1.r 36) 0 (x.1.n-1)} 10 (dig s (tk s x.1.r 36) 0 (x.1.n-1)),
  {x.2 with rd:=Zhs x.2.rd (dig s (tk s x.1.r 36) 0 (x.1.n-1)),tp:=Zhs x.2.tp (dig s (tk s x.1.r 36) 0 (x.1.n-1))})
def Ziv(s:ZB)(x:Tq×Sq):Tq×Sq:=
 (emitQ {x.1 with r:=varR s x.1.r x.1.ls} 1 (varI s x.1.r x.1.ls),{x.2 with rd:=Zhs x.2.rd (lvOf x.1 (varI s x.1.r x.1.ls))})
def termQ(s:ZB)(ex:Tq×Sq->Tq×Sq)(x:Tq×Sq):Tq×Sq:=
 if 48<=tok s x.1.r∧tok s x.1.r<=57 then (emitQ {x.1 with r:=(num s (adv s x.1.r)).2} 0 (num s (adv s x.1.r)).1,x.2)
 else if tok s x.1.r=36 then Ziu s ({x.1 with r:=adv s x.1.r},x.2)
 else if tok s x.1.r=40 then
  ({(ex ({x.1 with r:=nx (adv s x.1.r)},x.2)).1 with r:=tk s (ex ({x.1 with r:=nx (adv s x.1.r)},x.2)).1.r 41},(ex ({x.1 with r:=nx (adv s x.1.r)},x.2)).2)
 else Ziv s ({x.1 with r:=adv s x.1.r},x.2)
def moreQ(s:ZB)(tm:Tq×Sq->Tq×Sq):Nat->Tq×Sq->Tq×Sq
 | 0,x=>({x.1 with r:=adv s x.1.r},x.2)
 | k+1,x=>if opOf (tok s x.1.r)=0 then ({x.1 with r:=adv s x.1.r},x.2)
   else moreQ s tm k (emitQ (tm ({x.1 with r:=nx (adv s x.1.r)},x.2)).1 (opOf (tok s x.1.r)) 0,(tm ({x.1 with r:=nx (adv s x.1.r)},x.2)).2)
def exprQ(s:ZB):Nat->Tq×Sq->Tq×Sq
 | 0,x=>x
 | k+1,x=>moreQ s (termQ s (exprQ s k)) k (termQ s (exprQ s k) x)
def exQ(s:ZB)(x:Tq×Sq):Tq×Sq:=exprQ s (s.size+1) x
def loopQ(s:ZB)(f:Tq->Tq):Nat->Tq->Tq
 | 0,q=>{q with r:=adv s q.r}
 | k+1,q=>if q.r.er=0∧tok s q.r≠125 then loopQ s f k (f {q with r:=adv s q.r}) else {q with r:=adv s q.r}
def blkQ(s:ZB)(f:Tq->Tq)(k:Nat)(q:Tq):Tq:=
 {loopQ s f k {q with r:=tk s q.r 123} with r:=tk s (loopQ s f k {q with r:=tk s q.r 123}).r 125}
def ZkB(s:ZB)(q:Tq)(x:Sq):Tq:=
 let y:=exQ s ({q with r:=tk s (varR s q.r q.ls) 61},{x with k:=1,ta:=lvOf q (varI s q.r q.ls)})
 addQ (emitQ {y.1 with r:=tk s y.1.r 59} 2 (varI s q.r q.ls)) y.2
def ZlA(s:ZB)(q:Tq)(x:Sq):Tq:=
 let y:=exQ s ({q with r:=digR s (tk s q.r 62) 0 (q.n-1)},{x with k:=2,ta:=dig s (tk s q.r 62) 0 (q.n-1)})
 addQ (emitQ {y.1 with r:=tk s y.1.r 59} 11 (dig s (tk s q.r 62) 0 (q.n-1))) y.2
def ZkC(s:ZB)(f:Int->Tq->Tq)(k:Nat)(q:Tq)(x:Sq):Tq:=
 let y:=exQ s ({q with r:=tk s q.r 63},{x with k:=3})
 let q1:=blkQ s (f y.1.ss.length) k (emitQ (addQ y.1 y.2) 9 0)
 if tok s q1.r=58 then
  let q2:=blkQ s (f y.1.ss.length) k (aimQ (emitQ {q1 with r:=nx (adv s q1.r)} 8 0) (plQ y.1))
  aimQ q2 (plQ q1)
 else aimQ {q1 with r:=adv s q1.r} (plQ y.1)
def ZkD(s:ZB)(f:Int->Tq->Tq)(k:Nat)(q:Tq)(x:Sq):Tq:=
 let y:=exQ s ({q with r:=tk s q.r 64},{x with k:=4})
 let q1:=blkQ s (f y.1.ss.length) k (emitQ (addQ y.1 y.2) 9 0)
 aimQ (emitQ q1 8 (plQ q)) (plQ y.1)
def none6:Nat->Bool:=λ_=>false
def stmQ(s:ZB):Nat->Int->Tq->Tq
 | 0,_,q=>q
 | k+1,ou,q=>
  if tok s q.r=62 then ZlA s {q with r:=adv s q.r} ⟨0,(adv s q.r).a,ou,0,none6,none6⟩
  else if tok s q.r=63 then ZkC s (stmQ s k) k {q with r:=adv s q.r} ⟨0,(adv s q.r).a,ou,0,none6,none6⟩
  else if tok s q.r=64 then ZkD s (stmQ s k) k {q with r:=adv s q.r} ⟨0,(adv s q.r).a,ou,0,none6,none6⟩
  else ZkB s {q with r:=adv s q.r} ⟨0,(adv s q.r).a,ou,0,none6,none6⟩
def bodyQ(s:ZB):Nat->Tq->Tq
 | 0,q=>{q with r:=adv s q.r}
 | k+1,q=>if q.r.er=0∧(adv s q.r).a<s.size then bodyQ s k (stmQ s (s.size+2) (-1) {q with r:=adv s q.r}) else {q with r:=adv s q.r}
def pairQ(q:Tq)(a b:Int):Tq:={q with pr:=λi j=>q.pr i j||(q.pr i a.toNat&&q.pr b.toNat j)}
def prsQ(s:ZB):Nat->Tq->Tq
 | 0,q=>{q with r:=adv s q.r}
 | k+1,q=>if q.r.er=0∧tok s q.r≠46 then
   prsQ s k (pairQ {q with r:=digR s (digR s (adv s q.r) 0 (q.n-1)) 0 (q.n-1)} (dig s (adv s q.r) 0 (q.n-1)) (dig s (digR s (adv s q.r) 0 (q.n-1)) 0 (q.n-1)))
  else {q with r:=adv s q.r}
def decQ(s:ZB)(q:Tq):Tq:=
 if isL (tok s q.r)=false then {q with r:=rfs (adv s q.r) 11}
 else if fnd (tok s q.r) q.ls<q.ls.length then {q with r:=rfs (adv s q.r) 12}
 else {q with r:=digR s (nx (adv s q.r)) 0 (q.n-1),ls:=q.ls++[tok s q.r],vs:=q.vs++[dig s (nx (adv s q.r)) 0 (q.n-1)]}
def decsQ(s:ZB):Nat->Tq->Tq
 | 0,q=>{q with r:=adv s q.r}
 | k+1,q=>if q.r.er=0∧tok s q.r≠46 then decsQ s k (decQ s {q with r:=adv s q.r}) else {q with r:=adv s q.r}
def headQ(s:ZB)(q:Tq):Tq:=
 let n:=dig s q.r 1 6
 let q1:=prsQ s (s.size+1) {q with r:=digR s q.r 1 6,n:=n,pn:=n,pr:=λi j=>decide (i=j)}
 let q2:=decsQ s (s.size+1) {q1 with r:=tk s q1.r 46}
 {q2 with r:=tk s q2.r 46}
def startQ:Tq:=⟨⟨0,0⟩,0,0,λ_ _=>false,[],[],[],0,0,[]⟩
def readQ(s:ZB):Tq:=bodyQ s (s.size+1) (headQ s startQ)
end Go.Proofs.YtcnbifdlkalimabGreat
