/- Lemmas; their conditions stand in each. -/
import Derived.Test.YtcnbifdlkalimabGreatRows
import Derived.WalkSpells
import Derived.WalkLawsBesides
namespace Go.Proofs.YtcnbifdlkalimabGreat
abbrev ZB:=ByteArray
open Go.RowKit Go.Proofs.Tryz
abbrev Qa:=@List.setIfInBounds_toArray
abbrev Qb:=@Nat.le_refl
abbrev Qc:=@List.set_cons_zero
abbrev Qd:=@List.set_cons_succ
abbrev Qe:=@List.length_append
abbrev Qf:=@beq_eq_false_iff_ne
abbrev Qg:=@Nat.le_trans
abbrev Qh:=@Below.refl
abbrev Qi:=@bodyPost_ret
abbrev Qj:=@Int.toNat_of_nonneg
abbrev Qk:=@World.cell?_setCell_same
abbrev Ql:=@List.getElem?_eq_some_iff
abbrev Qn:=@List.getElem?_eq_getElem
abbrev Qo:=@World.cell?_of_block
abbrev Qp:=@results_none
abbrev Qq:=@Nat.lt_of_lt_of_le
abbrev Qr:=@Bool.and_eq_true
abbrev Qs:=@List.getD_eq_getElem?_getD
abbrev Qt:=@List.length_cons
abbrev Qu:=@World.frozen?_setCell
abbrev Qv:=@decide_eq_true
abbrev Qw:=@List.mem_of_getElem?
abbrev Qx:=@decide_eq_false
abbrev Qy:=@List.length_nil
abbrev Qz:=@World.frozen?_of_block
abbrev QA:=@List.mem_singleton
abbrev QB:=@of_decide_eq_true
abbrev QC:=@Int.toNat_natCast
abbrev QD:=@List.getElem?_append_left
abbrev QE:=@List.append_assoc
abbrev QF:=@List.getElem?_append_right
abbrev QH:=@Below.heap_setCell
abbrev QI:=@List.mem_append
abbrev QJ:=@Bool.or_eq_true
abbrev QK:=@List.map_append
abbrev QL:=@beq_iff_eq
abbrev QM:=@Bool.eq_iff_iff
abbrev QN:=@World.cell?_setCell_other
abbrev QO:=@bne_iff_ne
abbrev QP:=@Int.le_refl
abbrev QQ:=@World.frozen?_setCells
abbrev QR:=@ByteArray.append_assoc
abbrev QS:=@List.append_nil
abbrev QT:=@Nat.zero_add
abbrev QU:=@ByteArray.data_append
abbrev QV:=@List.not_mem_nil
abbrev QW:=@Bool.not_eq_true
abbrev QX:=@ByteArray.size_extract
abbrev QY:=@Int.mul_nonneg
abbrev QZ:=@Int.mul_le_mul_of_nonneg_right
abbrev Q0:=@Nat.eq_zero_or_pos
abbrev Q8:=@Nat.zero_le
abbrev Q9:=@Below.trans
abbrev Ua:=@List.getElem_mem
abbrev Ub:=@Nat.add_le_add_right
abbrev Uc:=@List.mem_cons
abbrev Ue:=@Sem.run_bind
abbrev Uf:=@Nat.le_of_lt
abbrev Ug:=@Array.getElem?_eq_some_iff
abbrev Uh:=@List.getElem?_eq_none
abbrev Ui:=@List.getElem?_map
abbrev Uj:=@List.cons_append
abbrev Uk:=@List.eq_nil_of_length_eq_zero
abbrev Ul:=@of_decide_eq_false
abbrev Um:=@List.length_set
abbrev Un:=@Bool.true_and
abbrev Uo:=@Result.andThen_ok
abbrev Up:=@ByteArray.data_extract
abbrev Uq:=@World.ownsRow_nil
abbrev Ur:=@ByteArray.toList_eq
abbrev Us:=@Nat.mul_le_mul
abbrev Ut:=@List.mem_range
abbrev Uu:=@List.flatMap_cons
abbrev Uv:=@Nat.add_assoc
abbrev Uw:=@Bool.false_or
abbrev Ux:=@List.take_of_length_le
abbrev Uy:=@List.append_eq_nil_iff
variable{ok:Bool}{a b e j len n wall x:Int}{f:Int->Bool}{S:Int->Prop}{i k:Nat}{m:Nat->Bool}{h:Nat->Int}{y:Value}{w1 wr:World}{c s t:ZB}
def DP(s:ZB)(k:Int):UInt8:=s.data.toList.getD k.toNat 0
def le(s:ZB)(n a b:Int):Bool:=DP s (a*n+b)==49
def ZA(f:Int->Bool):Nat->Bool
 | 0=>true
 | k+1=>ZA f k&&f k
theorem Zb:ZA f k=true↔∀i:Nat,i<k->f i=true:=by
 induction k with
 | zero=>simp[ZA]
 | succ k l=>
  simp only[ZA,Qr,l];constructor
  ·rintro⟨h,d⟩ i g;by_cases e:i=k
   ·subst e;exact d
   ·exact h i (by omega)
  ·intro h;exact⟨λi g=>h i (by omega),h k (by omega)⟩
theorem Zm(d:i<k)(h:f i=false):ZA f k=false:=by
 cases e:ZA f k with
 | false=>rfl
 | true=>rw[Zb]at e;rw[e i d]at h;exact absurd h (by simp)
def ZI(f:Int->Bool):Nat->Option Int
 | 0=>none
 | k+1=>match ZI f k with
  | some i=>some i
  | none=>if f k then some (k:Int) else none
theorem JG(h:∀i:Nat,i<k->f i=false):ZI f k=none:=by
 induction k with
 | zero=>rfl
 | succ k d=>simp[ZI,d (λi g=>h i (by omega)),h k (by omega)]
theorem Ra(d:i<=k)(h:ZI f i=some x):ZI f k=some x:=by
 induction k with
 | zero=>
  have:i=0:=by omega
  subst this;exact h
 | succ k g=>
  by_cases e:i=k+1
  ·subst e;exact h
  ·simp[ZI,g (by omega)]
theorem IN(g:i<k)(h:∀j:Nat,j<i->f j=false)(d:f i=true):ZI f k=some (i:Int):=
 Ra (i:=i+1) (by omega) (by simp[ZI,JG h,d])
theorem ND{g:Int->Bool}(h:∀i:Nat,i<k->f i=g i):ZI f k=ZI g k:=by
 induction k with
 | zero=>rfl
 | succ k d=>simp only[ZI,d (λi l=>h i (by omega)),h k (by omega)]
theorem KN{g:Int->Bool}(h:∀i:Nat,i<k->f i=g i):ZA f k=ZA g k:=by
 induction k with
 | zero=>rfl
 | succ k d=>simp only[ZA,d (λi l=>h i (by omega)),h k (by omega)]
theorem TQ(s:ZB)(k:Int)(h:k.toNat<s.size):s[k.toNat]=DP s k:=by unfold DP;rw[List.getD_eq_getElem?_getD,List.getElem?_eq_getElem (by simpa using h)];rfl
theorem PD(s:ZB)(k:Int)(c:UInt8)(h:k.toNat<s.size):(((s[k.toNat].toNat:Nat):Int)==((c.toNat:Nat):Int))=(DP s k==c):=by
 rw[TQ s k h,QM];simp only[QL];constructor
 ·intro e;exact UInt8.toNat_inj.1 (by omega)
 ·intro e;rw[e]
theorem U8(s:ZB)(n a b:Int)(h:(a*n+b).toNat<s.size):(((s[(a*n+b).toNat].toNat:Nat):Int)==49)=le s n a b:=
 PD s (a*n+b) 49 h
theorem Nv(n a b:Int)(d:0<=a)(g:a<n)(l:b<n):0<=a*n∧a*n+b<n*n:=by refine⟨QY d (by omega),?_⟩;have:a*n<=(n-1)*n:=QZ (by omega) (by omega);rw[Int.sub_mul]at this;omega
theorem Fu(n:Int)(h:1<=n)(d:n<=6):n*n<=36:=by have:n*n<=6*6:=Int.mul_le_mul d d (by omega) (by omega);omega
structure Bz(w wr:World)(x y:Value):Prop where
 below:Below w.heap.size w wr
 size:w.heap.size<wr.heap.size
 c0:wr.cell? ⟨w.heap.size,0,none⟩=some x
 c1:wr.cell? ⟨w.heap.size,1,none⟩=some y
theorem Bz.step{w:World}{x:Value}(h:Bz w wr x y)(d:Below wr.heap.size wr w1):Bz w w1 x y:=
 ⟨h.below.trans (d.mono (Uf h.size)),Qq h.size d.size,by rw[d.cell (p:=⟨w.heap.size,0,none⟩) h.size];exact h.c0,by rw[d.cell (p:=⟨w.heap.size,1,none⟩) h.size];exact h.c1⟩
theorem Bz.mk'(w:World)(x y:Value)(t:TypeId):Bz w (w.alloc (.cells #[x,y] t)) x y:=
 ⟨(Below.refl _ _).alloc (Nat.le_refl _) _,by simp,by simp[go_sem],by simp[go_sem]⟩
theorem Za{a b:Bool}(h:a=b):Ending.returned (.bool a)=.returned (.bool b):=by rw[h]
theorem ZG{k:IntKind}(h:a=b):Ending.returned (.int k a)=.returned (.int k b):=by rw[h]
structure Cf(s:ZB)(n:Int):Prop where
 lo:1<=n
 hi:n<=6
 size:n*n<=s.size
def Bs(len:Int):Int:=if len=1 then 1 else if len=4 then 2 else if len=9 then 3 else if len=16 then 4 else if len=25 then 5 else if len=36 then 6 else 0
theorem Oj{k:Int}(d:1<=k)(g:k<=6)(h:k*k=len):Bs len=k:=by
 have:k=1∨k=2∨k=3∨k=4∨k=5∨k=6:=by omega
 subst h;rcases this with rfl|rfl|rfl|rfl|rfl|rfl<;>decide
theorem Zov(h:∀j:Int,1<=j->j<7->j*j≠len):Bs len=0:=by have d:=h 1 (by omega) (by omega);have g:=h 2 (by omega) (by omega);have l:=h 3 (by omega) (by omega);have o:=h 4 (by omega) (by omega);have p:=h 5 (by omega) (by omega);have q:=h 6 (by omega) (by omega);unfold Bs;rw[if_neg (by omega),if_neg (by omega),if_neg (by omega),if_neg (by omega),if_neg (by omega),if_neg (by omega)]
theorem Lt(len:Int):0<=Bs len∧Bs len<=6∧(Bs len≠0->Bs len*Bs len=len):=by
 unfold Bs
 repeat' split
 all_goals simp_all
def Hd(s:ZB)(i:Int):Bool:=DP s i==48||DP s i==49
theorem ML(h:k<s.size):Hd s k=true↔((s[k].toNat:Nat):Int)=48∨((s[k].toNat:Nat):Int)=49:=by have d:=PD s k 48 (by simpa using h);have g:=PD s k 49 (by simpa using h);simp only[QC]at d g;unfold Hd;rw[<-d,<-g,QJ,QL,QL];exact Iff.rfl
theorem Tx(h:k<s.size)(d:(((s[k].toNat:Nat):Int) != 48)=true∧(((s[k].toNat:Nat):Int) != 49)=true):Hd s k=false:=by
 cases e:Hd s k with
 | false=>rfl
 | true=>rw[ML h]at e;simp only[QO]at d;omega
theorem Ty(h:k<s.size)(d:(((s[k].toNat:Nat):Int) != 48)=false∨(((s[k].toNat:Nat):Int) != 49)=false):Hd s k=true:=by rw[ML h];simpa using d
theorem ZC{p:Int->Bool}(h:∀i:Nat,i<k->p i=true)(d:p k=true):∀i:Nat,i<k+1->p i=true:=by
 intro i g;by_cases e:i=k
 ·subst e;exact d
 ·exact h i (by omega)
theorem JI{p:Int->Bool}(h:∀i:Nat,i<k->p i=false)(d:p k=false):∀i:Nat,i<k+1->p i=false:=by
 intro i g;by_cases e:i=k
 ·subst e;exact d
 ·exact h i (by omega)
def Dn(s:ZB):Bool:=ZA (Hd s) s.size
def Ap(s:ZB):Int:=if Dn s then Bs s.size else 0
theorem GK(h:Ap s≠0):Cf s (Ap s)∧Ap s*Ap s=s.size∧Dn s=true∧Ap s=Bs s.size:=by
 unfold Ap at *;split at h
 ·rename_i d;rw[if_pos d];have:=Lt s.size;exact⟨⟨by omega,by omega,by rw[this.2.2 h];omega⟩,this.2.2 h,d,rfl⟩
 ·exact absurd rfl h
def LV(s:ZB)(n:Int):Bool:=ZA (λa=>le s n a a) n.toNat
def Nx(s:ZB)(n:Int):Bool:=ZA (λa=>ZA (λb=>decide (b<=a)||!(le s n a b&&le s n b a)) n.toNat) n.toNat
def Hb(s:ZB)(n a b:Int):Bool:=ZA (λc=>!(le s n b c)||le s n a c) n.toNat
def PF(s:ZB)(n:Int):Bool:=ZA (λa=>ZA (λb=>!(le s n a b)||Hb s n a b) n.toNat) n.toNat
def Ee(s:ZB)(n:Int):Bool:=LV s n&&(Nx s n&&PF s n)
def Ds(s:ZB)(n a b c:Int):Bool:=le s n a c&&le s n b c
def Ez(s:ZB)(n a b c:Int):Bool:=le s n c a&&le s n c b
def Im(s:ZB)(n a b c:Int):Bool:=Ds s n a b c&&ZA (λd=>d==c||(!(Ds s n a b d)||le s n c d)) n.toNat
def Io(s:ZB)(n a b c:Int):Bool:=Ez s n a b c&&ZA (λd=>d==c||(!(Ez s n a b d)||le s n d c)) n.toNat
def D0(s:ZB)(n a b:Int):Option Int:=ZI (Im s n a b) n.toNat
def Fb(s:ZB)(n a b:Int):Option Int:=ZI (Io s n a b) n.toNat
def L4(s:ZB)(n:Int):Bool:=ZA (λa=>ZA (λb=>(D0 s n a b).isSome&&(Fb s n a b).isSome) n.toNat) n.toNat
def CP(s:ZB)(n:Int):Int:=if Ee s n then (if L4 s n then 0 else 5) else 4
def EY(s:ZB)(n a b:Int):Bool:=!((a==b&&!(le s n a b))||(a != b&&(le s n a b&&le s n b a)))&&ZA (λc=>!(le s n a b&&(le s n b c&&!(le s n a c)))) n.toNat
def Ft(s:ZB)(n:Int):Bool:=ZA (λa=>ZA (λb=>EY s n a b) n.toNat) n.toNat
def Bv(s:ZB)(n a b j:Int):Bool:=Ds s n a b j&&ZA (λc=>!(Ds s n a b c)||le s n j c) n.toNat
def JX(s:ZB)(n a b j:Int):Bool:=Ez s n a b j&&ZA (λc=>!(Ez s n a b c)||le s n c j) n.toNat
def Dt(s:ZB)(n a b:Int):Option Int:=ZI (Bv s n a b) n.toNat
def El(s:ZB)(n a b:Int):Option Int:=ZI (JX s n a b) n.toNat
def IB(s:ZB)(n:Int):Bool:=ZA (λa=>ZA (λb=>(Dt s n a b).isSome&&(El s n a b).isSome) n.toNat) n.toNat
theorem RJ{m:Nat}(g:m<=k)(h:ZA f m=false):ZA f k=false:=by
 cases e:ZA f k with
 | false=>rfl
 | true=>rw[Zb]at e;rw[Zb.2 (λi d=>e i (by omega))]at h;exact absurd h (by simp)
theorem HY(h:ZI f k=some x):0<=x∧x<k∧f x=true:=by
 induction k with
 | zero=>simp[ZI]at h
 | succ k g=>
  simp only[ZI]at h;cases e:ZI f k with
  | some y=>rw[e]at h;simp only[Option.some.injEq]at h;subst h;have:=g e;exact⟨this.1,by omega,this.2.2⟩
  | none=>
   rw[e]at h;by_cases d:f k=true
   ·simp only[d,if_true,Option.some.injEq]at h;subst h;exact⟨by omega,by omega,d⟩
   ·simp[d]at h
def HF(len k:Int):Int:=if Bs len<k then Bs len else 0
theorem XI{k:Int}(d:1<=k)(g:k<=6)(h:len=k*k):HF len (k+1)=k:=by unfold HF;rw[Oj d g h.symm,if_pos (by omega)]
theorem XW{k:Int}(l:1<=k)(h:len≠k*k):HF len (k+1)=HF len k:=by
 unfold HF;have g:=Lt len;by_cases e:Bs len=k
 ·exact absurd ((g.2.2 (by omega)).symm.trans (by rw[e])) h
 ·by_cases d:Bs len<k
  ·rw[if_pos d,if_pos (by omega)]
  ·rw[if_neg d,if_neg (by omega)]
theorem XJ(len:Int):HF len 7=Bs len:=by unfold HF;have d:=Lt len;rw[if_pos (by omega)]
def Ny(s:ZB):Int:=if Ap s=0 then 3 else CP s (Ap s)
structure Bo(s t:ZB)(n:Int)(a b:Nat):Prop where
 size:(t.size:Int)=a*n+b
 bytes:∀i j:Nat,(j:Int)<n->(i:Int)*n+j<t.size->DP t (i*n+j)=DP s (j*n+i)
theorem Bo.start(s:ZB)(n:Int):Bo s {data:=#[]} n 0 0:=
 ⟨by simp[ByteArray.size],λi j _ d=>by simp[ByteArray.size]at d;have:=Int.mul_nonneg (a:=(i:Int)) (b:=n) (by omega) (by omega);omega⟩
theorem Bo.small{a b:Nat}(h:Bo s t n a b)(g:n*n<=36)(o:(a:Int)<n)(p:(b:Int)<=n):t.size<=36:=by have l:=h.size;have d:(a:Int)*n<=(n-1)*n:=QZ (by omega) (by omega);rw[Int.sub_mul]at d;omega
theorem Zow(t u:ZB)(k:Int)(h:k.toNat<t.size):DP (t++u) k=DP t k:=by unfold DP;rw[Qs,Qs];simp only[QU,Array.toList_append];rw[List.getElem?_append_left (by simpa using h)]
theorem XX(t u:ZB)(k:Int)(h:t.size<=k.toNat):DP (t++u) k=DP u (k-t.size):=by unfold DP;rw[Qs,Qs];simp only[QU,Array.toList_append];rw[List.getElem?_append_right (by simpa using h)];congr 2;simp only[Array.length_toList];show k.toNat-t.size=_;omega
theorem M8(s:ZB)(a b k:Nat)(d:b<=s.size)(h:a+k<b):DP (s.extract a b) k=DP s (a+k:Nat):=by unfold DP;rw[Qs,Qs];simp only[Up,QC,Array.getElem?_toList];rw[Array.getElem?_extract,if_pos (by have:s.data.size=s.size:=rfl;omega)]
theorem Bo.more{m:Nat}(h:Bo s t n k m)(_hk:(k:Int)<n)(z:(m:Int)<n)(B:(m:Int)*n+k<s.size) :
  Bo s (t++s.extract ((m:Int)*n+k).toNat ((m:Int)*n+k+1).toNat) n k (m+1):=by
 have A:0<=(m:Int)*n:=QY (by omega) (by omega);have v:=h.size;have p:(s.extract ((m:Int)*n+k).toNat ((m:Int)*n+k+1).toNat).size=1:=by rw[QX];omega
 have l:(t++s.extract ((m:Int)*n+k).toNat ((m:Int)*n+k+1).toNat).size=t.size+1:=by rw[ByteArray.size_append,p]
 refine⟨by rw[l];omega,?_⟩;intro i j r g;rw[l]at g;have w:0<=(i:Int)*n:=QY (by omega) (by omega);by_cases u:(i:Int)*n+j<t.size
 ·rw[Zow _ _ _ (by omega)];exact h.bytes i j r u
 ·have q:(i:Int)*n+j=k*n+m:=by omega
  have d:i=k:=by
   by_cases a:i<k
   ·have:((i:Int)+1)*n<=(k:Int)*n:=QZ (by omega) (by omega);rw[Int.add_mul]at this;omega
   ·by_cases b:k<i
    ·have:((k:Int)+1)*n<=(i:Int)*n:=QZ (by omega) (by omega);rw[Int.add_mul]at this;omega
    ·omega
  subst d;obtain rfl:j=m:=by omega
  rw[XX _ _ _ (by omega)];have o:(i:Int)*n+j-t.size=((0:Nat):Int):=by omega
  rw[o,M8 _ _ _ _ (by omega) (by omega)];congr 1;omega
theorem Bo.row{m:Nat}(h:Bo s t n k m)(d:(m:Int)=n):Bo s t n (k+1) 0:=by
 refine⟨?_,h.bytes⟩;rw[h.size,d];have:((k+1:Nat):Int)=(k:Int)+1:=by omega
 rw[this,Int.add_mul];omega
theorem Bo.tab(h:Bo s t n n.toNat 0)(d:Cf s n):Cf t n:=by
 have e:((n.toNat:Nat):Int)=n:=by have:=d.lo;omega
 have g:=h.size;rw[e]at g;exact⟨d.lo,d.hi,by omega⟩
theorem Bo.le(h:Bo s t n n.toNat 0)(r:Cf s n)(a b:Int)(g:0<=a)(l:a<n)(p:0<=b)(o:b<n):le t n a b=le s n b a:=by
 have e:((n.toNat:Nat):Int)=n:=by have:=r.lo;omega
 have q:=h.size;rw[e]at q;obtain⟨u,v⟩:=Nv n a b g l o;have d:=h.bytes a.toNat b.toNat (by omega) (by rw[Qj g,Qj p];omega)
 rw[Qj g,Qj p]at d;unfold Go.Proofs.YtcnbifdlkalimabGreat.le;rw[d]
theorem Bo.meet(h:Bo s t n n.toNat 0)(l:Cf s n)(a b:Int)(q:0<=a)(d:a<n)(r:0<=b)(g:b<n):Dt t n a b=El s n a b:=by
 refine ND (λj u=>?_);have o:∀c:Nat,c<n.toNat->Ds t n a b c=Ez s n a b c:=by intro c p;unfold Ds Ez;rw[h.le l a c q d (by omega) (by omega),h.le l b c r g (by omega) (by omega)]
 unfold Bv JX;rw[o j u];congr 1;refine KN (λc p=>?_);rw[o c p,h.le l j c (by omega) (by omega) (by omega) (by omega)]
theorem HZ(s:ZB)(n:Int):Ee s n=Ft s n:=by
 rw[QM];unfold Ee Ft LV Nx PF Hb;simp only[Qr,Zb];constructor
 ·rintro⟨C,B,D⟩ a d b o;unfold EY;rw[Qr,Zb];have E:=C a d;have z:=D a d b o;constructor
  ·by_cases e:a=b
   ·subst e;simp[E]
   ·have r:((a:Int)==(b:Int))=false:=by simp;omega
    have u:((a:Int) != (b:Int))=true:=by simp;omega
    rw[r,u];cases g:le s n a b with
    | false=>simp
    | true=>
     cases q:le s n b a with
     | false=>simp
     | true=>
      exfalso;by_cases l:a<b
      ·have:=B a d b o;have A:¬(b:Int)<=a:=by omega
       simp[g,q,A]at this
      ·have:=B b o a d;have A:¬(a:Int)<=b:=by omega
       simp[g,q,A]at this
  ·intro c v;cases g:le s n a b with
   | false=>simp
   | true=>
    rw[g]at z;simp only[Bool.not_true,Uw,Zb]at z;have:=z c v;cases p:le s n b c with
    | false=>simp
    | true=>rw[p]at this;simp at this;simp[this]
 ·intro h;have w:∀a:Nat,a<n.toNat->∀b:Nat,b<n.toNat->((!((((a:Int)==b)&&!(le s n a b))||(((a:Int) != b)&&(le s n a b&&le s n b a))))=true∧∀c:Nat,c<n.toNat->(!(le s n a b&&(le s n b c&&!(le s n a c))))=true):=by intro a d b o;have:=h a d b o;unfold EY at this;rw[Qr,Zb]at this;exact this
  refine⟨λa d=>?_,λa d b o=>?_,λa d b o=>?_⟩
  ·have:=(w a d a d).1;simpa using this
  ·by_cases l:(b:Int)<=a
   ·simp[l]
   ·have:=(w a d b o).1;have r:((a:Int)==(b:Int))=false:=by simp;omega
    have u:((a:Int) != (b:Int))=true:=by simp;omega
    rw[r,u]at this;simp only[Bool.false_and,Uw,Un]at this;rw[this];simp
  ·cases g:le s n a b with
   | false=>simp
   | true=>
    simp only[Bool.not_true,Uw,Zb];intro c v;have:=(w a d b o).2 c v;rw[g]at this;cases p:le s n b c with
    | false=>simp
    | true=>rw[p]at this;simpa using this
theorem Ph(h:Ee s n=true)(a:Nat)(d:a<n.toNat):le s n a a=true:=by unfold Ee LV at h;rw[Qr,Zb]at h;exact h.1 a d
theorem KR(h:Ee s n=true)(a b:Int):D0 s n a b=Dt s n a b:=by
 refine ND (λj g=>?_);unfold Im Bv;congr 1;refine KN (λc d=>?_);by_cases e:c=j
 ·subst e;simp[Ph h c d]
 ·have:((c:Int)==(j:Int))=false:=by simp;omega
  rw[this,Uw]
theorem RU(h:Ee s n=true)(a b:Int):Fb s n a b=El s n a b:=by
 refine ND (λj g=>?_);unfold Io JX;congr 1;refine KN (λc d=>?_);by_cases e:c=j
 ·subst e;simp[Ph h c d]
 ·have:((c:Int)==(j:Int))=false:=by simp;omega
  rw[this,Uw]
theorem Zox(h:Ee s n=true):L4 s n=IB s n:=by refine KN (λa _=>?_);refine KN (λb _=>?_);rw[KR h,RU h]
def Az(s:ZB):Int:=if Ap s=0 then 3 else if Ft s (Ap s) then (if IB s (Ap s) then 0 else 5) else 4
def BX(s:ZB):Int:=if Az s=0 then Ap s else 0
theorem GT(h:Az s=e)(d:e≠0):BX s=0:=by unfold BX;rw[if_neg (by omega)]
theorem Jh(h:Az s=0):BX s=Ap s:=by unfold BX;rw[if_pos h]
theorem RV(s:ZB):Ny s=Az s:=by
 unfold Ny Az CP;split
 ·rfl
 ·rw[HZ];cases e:Ft s (Ap s) with
  | false=>rfl
  | true=>rw[Zox (by rw[HZ];exact e)]
theorem Zoy(h:IB s n=true)(a b:Int)(l:0<=a)(o:a<n)(p:0<=b)(q:b<n):(Dt s n a b).isSome=true∧(El s n a b).isSome=true:=by
 unfold IB at h;rw[Zb]at h;have d:=h a.toNat (by omega)
 rw[Zb]at d;have g:=d b.toNat (by omega)
 rw[Qj l,Qj p,Qr]at g;exact g
def EO(s:ZB):ZB:=if Ap s=0 then {data:=#[]} else s
def Dc(s:ZB):ZB:=if Az s=0 then s else {data:=#[]}
theorem Gk(h:Az s=0):Ap s≠0∧Ft s (Ap s)=true∧IB s (Ap s)=true:=by
 unfold Az at h;split at h
 ·omega
 ·split at h
  ·split at h
   ·exact⟨by assumption,by assumption,by assumption⟩
   ·omega
  ·omega
def PJ(s:ZB)(a b:Int):Bool:=decide (0<=a∧a<Ap s∧0<=b∧b<Ap s)
def CT(s:ZB)(a b:Int):Int:=if Az s=0 then (if PJ s a b then 0 else 10) else Az s
def EP(s:ZB)(a b:Int):Int:=if CT s a b=0 then (Dt s (Ap s) a b).getD 0 else 0
def EQ(s:ZB)(a b:Int):Int:=if CT s a b=0 then (El s (Ap s) a b).getD 0 else 0
theorem MX(h:Az s≠0):CT s a b=Az s∧EP s a b=0∧EQ s a b=0:=by
 have:CT s a b=Az s:=by unfold CT;rw[if_neg h]
 refine⟨this,?_,?_⟩
 ·unfold EP;rw[this,if_neg h]
 ·unfold EQ;rw[this,if_neg h]
theorem LG(h:Az s=0)(d:¬(0<=a∧a<Ap s∧0<=b∧b<Ap s)):CT s a b=10∧EP s a b=0∧EQ s a b=0:=by
 have:CT s a b=10:=by unfold CT PJ;rw[if_pos h,Qx d];rfl
 refine⟨this,?_,?_⟩
 ·unfold EP;rw[this];rfl
 ·unfold EQ;rw[this];rfl
theorem Iq(h:Az s=0)(d:0<=a∧a<Ap s∧0<=b∧b<Ap s):CT s a b=0∧(Dt s (Ap s) a b)=some (EP s a b)∧(El s (Ap s) a b)=some (EQ s a b):=by
 have:CT s a b=0:=by unfold CT PJ;rw[if_pos h,Qv d];rfl
 obtain⟨g,l⟩:=Zoy (Gk h).2.2 a b d.1 d.2.1 d.2.2.1 d.2.2.2;refine⟨this,?_,?_⟩
 ·unfold EP;rw[this,if_pos rfl];cases e:Dt s (Ap s) a b with
  | none=>rw[e]at g;exact absurd g (by simp)
  | some x=>rfl
 ·unfold EQ;rw[this,if_pos rfl];cases e:El s (Ap s) a b with
  | none=>rw[e]at l;exact absurd l (by simp)
  | some x=>rfl
structure Dh(wr:World)(b:Nat)(x y:Value):Prop where
 lt:b<wr.heap.size
 c0:wr.cell? ⟨b,0,none⟩=some x
 c1:wr.cell? ⟨b,1,none⟩=some y
 f0:wr.frozen? ⟨b,0,none⟩=false
 f1:wr.frozen? ⟨b,1,none⟩=false
theorem Dh.step{b:Nat}{x:Value}(h:Dh wr b x y)(d:Below wr.heap.size wr w1):Dh w1 b x y:=
 ⟨Qq h.lt d.size,by rw[d.cell (p:=⟨b,0,none⟩) h.lt];exact h.c0,by rw[d.cell (p:=⟨b,1,none⟩) h.lt];exact h.c1,by rw[d.frozen (p:=⟨b,0,none⟩) h.lt];exact h.f0,by rw[d.frozen (p:=⟨b,1,none⟩) h.lt];exact h.f1⟩
theorem Dh.new(w:World)(x y:Value)(t:TypeId):Dh (w.alloc (.cells #[x,y] t)) w.heap.size x y:=
 ⟨by simp,by simp[go_sem],by simp[go_sem],by simp[go_sem],by simp[go_sem]⟩
theorem Dh.alloc{b:Nat}{x:Value}(h:Dh wr b x y)(o:Obj):Dh (wr.alloc o) b x y:=
 h.step ((Qh _ _).alloc (Qb _) _)
def Ko(a n:Int):Bool:=decide (0<=a∧a<n)
theorem Pi(h:0<=a∧a<n):Ko a n=true:=Qv h
theorem MY(h:¬(0<=a∧a<n)):Ko a n=false:=Qx h
def L6(s:ZB)(a b:Int):Int:=if CT s a b=0 then Ap s else 0
def L9(s:ZB)(a b:Int):ZB:=if CT s a b=0 then s else {data:=#[]}
theorem LN(h:CT s a b≠0):L6 s a b=0∧L9 s a b={data:=#[]}∧EP s a b=0∧EQ s a b=0:=by unfold L6 L9 EP EQ;rw[if_neg h,if_neg h,if_neg h,if_neg h];exact⟨rfl,rfl,rfl,rfl⟩
theorem MZ(h:CT s a b=0):L6 s a b=Ap s∧L9 s a b=s∧Az s=0∧(0<=a∧a<Ap s∧0<=b∧b<Ap s):=by
 unfold L6 L9;rw[if_pos h,if_pos h];refine⟨rfl,rfl,?_⟩;by_cases d:Az s=0
 ·refine⟨d,?_⟩;by_cases g:0<=a∧a<Ap s∧0<=b∧b<Ap s
  ·exact g
  ·have:=(LG (a:=a) (b:=b) d g).1;omega
 ·have:=(MX (a:=a) (b:=b) d).1;omega
structure Kp(p:Prop):Prop where
 o:p
theorem Kp.out{p:Prop}(h:Kp p):p:=h.o
theorem Z_{p:Prop}(h:p):Kp p:=⟨h⟩
def bv(s:ZB)(k:Int):Int:=((DP s k).toNat:Nat)
theorem Zx(s:ZB)(k:Int):0<=bv s k∧bv s k<=255:=by unfold bv;have:=UInt8.toNat_lt (DP s k);omega
theorem Ir(s:ZB)(k:Int)(h:k.toNat<s.size):((s[k.toNat].toNat:Nat):Int)=bv s k:=by unfold bv;rw[TQ s k h]
theorem ZJ(s:ZB)(k:Nat)(h:k<s.size):((s[k].toNat:Nat):Int)=bv s k:=Ir s k (by simpa using h)
def hd(s:ZB)(n:Int):ZB:=s.extract 0 n.toNat
def tl(s:ZB)(n:Int):ZB:=s.extract n.toNat s.size
theorem JY(d:0<=n)(h:n<=s.size):((hd s n).size:Int)=n:=by unfold hd;rw[QX];omega
theorem D9(s:ZB)(n:Int):(hd s n).size<=s.size:=by unfold hd;rw[QX];omega
theorem Zy(s:ZB)(n:Int):(tl s n).size<=s.size:=by unfold tl;rw[QX];omega
theorem Nw(k:Nat)(d:(k:Int)<n)(h:n<=s.size):bv (hd s n) k=bv s k:=by unfold bv hd;rw[M8 s 0 n.toNat k (by omega) (by omega)];simp
structure AF(wr:World)(b:Nat)(vs:List Value):Prop where
 lt:b<wr.heap.size
 c:∀(i:Nat) (v:Value),vs[i]?=some v->wr.cell? ⟨b,i,none⟩=some v
 f:∀(i:Nat) (v:Value),vs[i]?=some v->wr.frozen? ⟨b,i,none⟩=false
theorem AF.step{b:Nat}{vs:List Value}(h:AF wr b vs)(d:Below wr.heap.size wr w1):AF w1 b vs:=
 ⟨Qq h.lt d.size,λi v g=>by rw[d.cell (p:=⟨b,i,none⟩) h.lt];exact h.c i v g,λi v g=>by rw[d.frozen (p:=⟨b,i,none⟩) h.lt];exact h.f i v g⟩
theorem AF.alloc{b:Nat}{vs:List Value}(h:AF wr b vs)(o:Obj):AF (wr.alloc o) b vs:=
 h.step ((Qh _ _).alloc (Qb _) _)
theorem AF.new2(w:World)(x y:Value)(t:TypeId):AF (w.alloc (.cells #[x,y] t)) w.heap.size [x,y]:=by
 refine⟨by simp,?_,?_⟩ <;>
 ·intro i v d;match i with
  | 0=>simp at d;simp[go_sem,d]
  | 1=>simp at d;simp[go_sem,d]
  | i+2=>simp at d
theorem AF.new3(w:World)(x y z:Value)(t:TypeId):AF (w.alloc (.cells #[x,y,z] t)) w.heap.size [x,y,z]:=by
 refine⟨by simp,?_,?_⟩ <;>
 ·intro i v d;match i with
  | 0=>simp at d;simp[go_sem,d]
  | 1=>simp at d;simp[go_sem,d]
  | 2=>simp at d;simp[go_sem,d]
  | i+3=>simp at d
theorem AF.new4(w:World)(x y z u:Value)(t:TypeId):AF (w.alloc (.cells #[x,y,z,u] t)) w.heap.size [x,y,z,u]:=by
 refine⟨by simp,?_,?_⟩ <;>
 ·intro i v d;match i with
  | 0=>simp at d;simp[go_sem,d]
  | 1=>simp at d;simp[go_sem,d]
  | 2=>simp at d;simp[go_sem,d]
  | 3=>simp at d;simp[go_sem,d]
  | i+4=>simp at d
theorem AF.new5(w:World)(x y z u a:Value)(t:TypeId):AF (w.alloc (.cells #[x,y,z,u,a] t)) w.heap.size [x,y,z,u,a]:=by
 refine⟨by simp,?_,?_⟩ <;>
 ·intro i v d;match i with
  | 0=>simp at d;simp[go_sem,d]
  | 1=>simp at d;simp[go_sem,d]
  | 2=>simp at d;simp[go_sem,d]
  | 3=>simp at d;simp[go_sem,d]
  | 4=>simp at d;simp[go_sem,d]
  | i+5=>simp at d
def DE(s:ZB)(sz most:Int):Bool:=decide (1<=s.size∧bv s 0<=most∧sz*bv s 0<=(tl s 1).size)
def DA(s:ZB)(sz:Int):ZB:=hd (tl s 1) (sz*bv s 0)
def DK(s:ZB)(sz:Int):ZB:=tl (tl s 1) (sz*bv s 0)
theorem LU{g d:Int}(h:DE s g d=true):1<=s.size∧bv s 0<=d∧g*bv s 0<=(tl s 1).size:=QB h
theorem Vq{g d:Int}(h:DE s g d=false):s.size=0∨(1<=s.size∧d<bv s 0)∨(1<=s.size∧bv s 0<=d∧(tl s 1).size<g*bv s 0):=by have:=Ul h;omega
def Iv(v:ZB)(n:Int):Bool:=ZA (λi=>decide (bv v i<n)) v.size
def Ff(s:ZB)(n:Int):Bool:=DE s 1 8&&Iv (DA s 1) n
def GA(s:ZB):Bool:=decide (2<=s.size∧bv s 0=83∧1<=bv s 1∧bv s 1<=6)
def Av(s:ZB):ZB:=hd (tl s 2) (bv s 1*bv s 1)
def BT(s:ZB):ZB:=tl (tl s 2) (bv s 1*bv s 1)
def EA(s:ZB):Bool:=GA s&&(decide (bv s 1*bv s 1<=(tl s 2).size)&&Dn (Av s))
def At(s:ZB):ZB:=DA (BT s) 1
def Ck(s:ZB):ZB:=DK (BT s) 1
def Ao(s:ZB):ZB:=DA (Ck s) 2
def GG(s:ZB):ZB:=DK (Ck s) 2
def DV(s:ZB):Bool:=EA s&&(Ff (BT s) (bv s 1)&&(DE (Ck s) 2 200&&decide ((GG s).size=0)))
theorem Gj(h:GA s=true):2<=s.size∧bv s 0=83∧1<=bv s 1∧bv s 1<=6:=QB h
theorem TR(h:GA s=false):s.size<2∨(2<=s.size∧bv s 0≠83)∨(2<=s.size∧bv s 0=83∧bv s 1<1)∨(2<=s.size∧bv s 0=83∧1<=bv s 1∧6<bv s 1):=by have:=Ul h;omega
theorem Np(h:GA s=true)(g:bv s 1*bv s 1<=(tl s 2).size):Ap (Av s)=if Dn (Av s) then bv s 1 else 0:=by obtain⟨-,-,d,l⟩:=Gj h;have o:((Av s).size:Int)=bv s 1*bv s 1:=JY (QY (by omega) (by omega)) g;unfold Ap;rw[Oj d l o.symm]
def half(c:ZB):Int:=(c.size:Int)/2
theorem Zn(c:ZB):0<=half c∧2*half c<=c.size∧c.size<2*half c+2:=by unfold half;omega
def CS(nv k n op arg:Int):Bool:=decide (op=0∨((op=1∨op=2)∧arg<nv)∨((3<=op∧op<=7)∧arg=0)∨((op=8∨op=9)∧arg<=k)∨((op=10∨op=11)∧arg<n))
def FU(c v:ZB)(n i:Int):Bool:=CS v.size (half c) n (bv c (2*i)) (bv c (2*i+1))
def FN(c v:ZB)(n:Int):Bool:=ZA (FU c v n) (half c).toNat
def AN(s:ZB):Int:=if 448<(s.size:Int) then 1 else if DV s then (if Az (Av s)=0 then (if FN (Ao s) (At s) (bv s 1) then 0 else 6) else Az (Av s)) else 2
theorem Lc(h:EA s=true):Cf (Av s) (bv s 1)∧Ap (Av s)=bv s 1∧CP (Av s) (bv s 1)=Az (Av s):=by unfold EA at h;rw[Qr,Qr]at h;obtain⟨l,p,q⟩:=h;have d:=Np l (QB p);rw[q,if_pos rfl]at d;obtain⟨-,-,r,u⟩:=Gj l;have o:=(GK (s:=Av s) (by omega)).1;rw[d]at o;refine⟨o,d,?_⟩;have g:=RV (Av s);unfold Ny at g;rw[d,if_neg (by omega)]at g;exact g
theorem JL(s:ZB) :
  (448<(s.size:Int)∧AN s=1)∨(s.size<=448∧DV s=false∧AN s=2)∨(s.size<=448∧DV s=true∧Az (Av s)≠0∧AN s=Az (Av s))∨
  (s.size<=448∧DV s=true∧Az (Av s)=0∧FN (Ao s) (At s) (bv s 1)=false∧AN s=6)∨(s.size<=448∧DV s=true∧Az (Av s)=0∧FN (Ao s) (At s) (bv s 1)=true∧AN s=0):=by
 unfold AN;by_cases h:448<(s.size:Int)
 ·exact .inl ⟨h,by rw[if_pos h]⟩
 ·rw[if_neg h];have g:s.size<=448:=by omega
  cases l:DV s with
  | false=>exact .inr (.inl ⟨g,rfl,rfl⟩)
  | true=>
   by_cases d:Az (Av s)=0
   ·cases o:FN (Ao s) (At s) (bv s 1) with
    | false=>exact .inr (.inr (.inr (.inl ⟨g,rfl,d,rfl,by rw[if_pos rfl,if_pos d];rfl⟩)))
    | true=>exact .inr (.inr (.inr (.inr ⟨g,rfl,d,rfl,by rw[if_pos rfl,if_pos d];rfl⟩)))
   ·exact .inr (.inr (.inl ⟨g,rfl,d,by rw[if_pos rfl,if_neg d]⟩))
def bs(L:List Int):ZB:=⟨(L.map λx=>UInt8.ofNat x.toNat).toArray⟩
theorem Zd(L:List Int):(bs L).size=L.length:=by show (L.map λx=>UInt8.ofNat x.toNat).toArray.size=_;simp
theorem Zg(L M:List Int):bs (L++M)=bs L++bs M:=by apply ByteArray.ext;show ((L++M).map λx=>UInt8.ofNat x.toNat).toArray=(bs L++bs M).data;rw[QU];simp[bs]
theorem Zr1:bs []={data:=#[]}:=rfl
theorem Zr2{L:List Int}(h:L[k]?=some x):DP (bs L) k=UInt8.ofNat x.toNat:=by unfold DP bs;simp[List.getD,h]
theorem Nt{L:List Int}(h:L[k]?=some x)(d:0<=x)(g:x<=255):bv (bs L) k=x:=by
 unfold bv;rw[Zr2 h];have:(UInt8.ofNat x.toNat).toNat=x.toNat:=by rw[UInt8.toNat_ofNat'];omega
 rw[this];omega
structure Rd where
 a:Nat
 er:Int
def blk(x:Int):Bool:=x==32||x==10
def NB(s:ZB):Nat->Nat->Nat
 | 0,a=>a
 | k+1,a=>if a<s.size∧blk (bv s a)=true then NB s k (a+1) else a
def PT(s:ZB)(a:Nat):Nat:=NB s (s.size-a) a
theorem PE{a:Nat}(h:a<s.size)(d:blk (bv s a)=true):PT s a=PT s (a+1):=by unfold PT;rw[show s.size-a=(s.size-(a+1))+1 from by omega];simp only[NB];rw[if_pos ⟨h,d⟩]
theorem Kj{a:Nat}(h:¬(a<s.size∧blk (bv s a)=true)):PT s a=a:=by
 unfold PT;cases s.size-a with
 | zero=>rfl
 | succ k=>simp only[NB];rw[if_neg h]
theorem Pj(s:ZB)(P:Nat->Nat->Prop)(g:∀a,¬(a<s.size∧blk (bv s a)=true)->P a a)(o:∀a,a<s.size->blk (bv s a)=true->P (a+1) (PT s (a+1))->P a (PT s (a+1))):∀a,P a (PT s a):=by
 have d:∀k a,s.size-a<=k->P a (PT s a):=by
  intro k;induction k with
  | zero=>
   intro a p;have l:¬(a<s.size∧blk (bv s a)=true):=λh=>by omega
   rw[Kj l];exact g a l
  | succ k q=>
   intro a p;by_cases h:a<s.size∧blk (bv s a)=true
   ·rw[PE h.1 h.2];exact o a h.1 h.2 (q (a+1) (by omega))
   ·rw[Kj h];exact g a h
 exact λa=>d _ a (Qb _)
theorem U9(s:ZB)(a:Nat):a<=PT s a:=
 Pj s (λa b=>a<=b) (λ_ _=>Qb _) (λa _ _ h=>by omega) a
theorem Vc{a:Nat}(h:a<=s.size):PT s a<=s.size:=
 Pj s (λa b=>a<=s.size->b<=s.size) (λ_ _ h=>h) (λa g _ d _=>d (by omega)) a h
theorem Zr3(s:ZB)(a:Nat):¬(PT s a<s.size∧blk (bv s (PT s a))=true):=
 Pj s (λ_ b=>¬(b<s.size∧blk (bv s b)=true)) (λ_ h=>h) (λ_ _ _ h=>h) a
theorem TS(s:ZB)(a:Nat):PT s (PT s a)=PT s a:=Kj (Zr3 s a)
def here(s:ZB)(r:Rd):Int:=if r.er=0∧r.a<s.size then bv s r.a else 0
def Aa(s:ZB)(r:Rd):Rd:=if r.er=0 then ⟨PT s r.a,0⟩ else r
def Ae(s:ZB)(r:Rd):Int:=here s (Aa s r)
def Bi(r:Rd)(e:Int):Rd:=if r.er=0 then ⟨r.a,e⟩ else r
def nx(r:Rd):Rd:=if r.er=0 then ⟨r.a+1,0⟩ else r
def BW(s:ZB)(r:Rd)(ok:Bool)(e:Int):Rd:=if ok=true then nx (Aa s r) else Bi (Aa s r) e
def tk(s:ZB)(r:Rd)(c:Int):Rd:=BW s r (Ae s r==c) 11
def Ah(s:ZB)(r:Rd):Nat:=if r.er=0 then s.size-r.a else 0
theorem Zl(s:ZB)(r:Rd):(Aa s r).er=r.er:=by unfold Aa;split<;>simp_all
theorem ZD{r:Rd}(h:r.er≠0):Aa s r=r:=if_neg h
theorem Fp{r:Rd}(h:r.er=0):Aa s r=⟨PT s r.a,0⟩:=if_pos h
theorem Z3(s:ZB)(r:Rd):Aa s (Aa s r)=Aa s r:=by
 by_cases h:r.er=0
 ·rw[Fp h,Fp rfl];show (⟨PT s (PT s r.a),0⟩:Rd)=_;rw[TS]
 ·rw[ZD h,ZD h]
theorem Ze{r:Rd}(h:r.a<=s.size):(Aa s r).a<=s.size:=by
 unfold Aa;split
 ·exact Vc h
 ·exact h
theorem HD(s:ZB)(r:Rd):r.a<=(Aa s r).a:=by
 unfold Aa;split
 ·exact U9 _ _
 ·exact Qb _
theorem Zs(s:ZB)(r:Rd):Ae s (Aa s r)=Ae s r:=by unfold Ae;rw[Z3]
theorem ZqC(s:ZB)(r:Rd):0<=here s r∧here s r<=255:=by
 unfold here;split
 ·exact Zx _ _
 ·omega
theorem Tz{r:Rd}(h:r.er≠0):here s r=0:=if_neg λk=>h k.1
theorem JP{r:Rd}(h:here s r≠0):r.er=0∧r.a<s.size:=by
 unfold here at h;split at h
 ·assumption
 ·exact absurd rfl h
theorem Zr4(s:ZB)(r:Rd):0<=Ae s r∧Ae s r<=255:=ZqC _ _
theorem JZ{r:Rd}(h:r.er≠0):Ae s r=0:=by unfold Ae;rw[ZD h,Tz h]
theorem Z8{r:Rd}(h:Ae s r≠0):r.er=0∧(Aa s r).a<s.size:=by have:=JP h;rw[Zl]at this;exact this
theorem EZ(r:Rd):(nx r).er=r.er:=by unfold nx;split<;>simp_all
theorem Km(r:Rd)(e:Int):(Bi r e).a=r.a:=by unfold Bi;split<;>rfl
theorem Dr{r:Rd}(d:e≠0):(Bi r e).er≠0:=by
 unfold Bi;split
 ·exact d
 ·assumption
theorem Pk{r:Rd}(h:r.er≠0):Bi r e=r:=if_neg h
theorem Ve{r:Rd}(h:r.er≠0):nx r=r:=if_neg h
theorem Nu{r:Rd}(h:here s r≠0):(nx r).a<=s.size:=by have:=JP h;unfold nx;rw[if_pos this.1];exact this.2
theorem Pm{r:Rd}(h:r.a<=s.size)(d:ok=true->Ae s r≠0):(BW s r ok e).a<=s.size:=by
 unfold BW;split
 ·exact Nu (d (by assumption))
 ·rw[Km];exact Ze h
theorem Z4{r:Rd}{c:Int}(h:r.a<=s.size)(d:c≠0):(tk s r c).a<=s.size:=
 Pm h (λk=>by have:=eq_of_beq k;omega)
theorem IY{r:Rd}(h:r.er≠0):Ah s r=0:=if_neg h
theorem Zu(s:ZB)(r:Rd):Ah s (Aa s r)<=Ah s r:=by
 by_cases h:r.er=0
 ·rw[Fp h];unfold Ah;rw[if_pos rfl,if_pos h];have:=U9 s r.a;show s.size-PT s r.a<=_;omega
 ·rw[ZD h];exact Qb _
theorem LH{r:Rd}(d:e≠0):Ah s (Bi r e)=0:=IY (Dr d)
theorem KS{r:Rd}(h:here s r≠0):Ah s (nx r)<Ah s r:=by have k:=JP h;unfold Ah;rw[EZ,if_pos k.1,if_pos k.1];unfold nx;rw[if_pos k.1];show s.size-(r.a+1)<_;omega
theorem Ob(s:ZB)(r:Rd):Ah s (nx r)<=Ah s r:=by
 unfold Ah nx;split
 ·rw[if_pos rfl];show s.size-(r.a+1)<=_;omega
 ·exact Qb _
theorem Oe{r:Rd}(d:e≠0):Ah s (BW s r ok e)<=Ah s r:=by
 unfold BW;split
 ·exact Qg (Ob _ _) (Zu _ _)
 ·rw[LH d];exact Q8 _
theorem DS(s:ZB)(r:Rd)(c:Int):Ah s (tk s r c)<=Ah s r:=Oe (by omega)
theorem NF{r:Rd}(d:ok=true)(g:Ae s r≠0):Ah s (BW s r ok e)<Ah s r:=by unfold BW;rw[if_pos d];exact Qq (KS g) (Zu _ _)
theorem Z5(s:ZB)(r:Rd):Ah s r<=s.size:=by unfold Ah;split<;>omega
def Eo(s:ZB)(r:Rd)(lo hi:Int):Bool:=decide (lo<=Ae s r-48∧Ae s r-48<=hi)
def AW(s:ZB)(r:Rd)(lo hi:Int):Int:=if Eo s r lo hi=true then Ae s r-48 else 0
def An(s:ZB)(r:Rd)(lo hi:Int):Rd:=BW s r (Eo s r lo hi) 11
theorem Pn{r:Rd}{d g:Int}(l:0<=d)(h:Eo s r d g=true):Ae s r≠0:=by have:=QB h;omega
def DD(s:ZB):Nat->Rd->Int->Int×Rd
 | 0,r,v=>(v,r)
 | k+1,r,v=>if 48<=here s r∧here s r<=57 then (if 255<10*v+here s r-48 then (0,Bi r 11) else DD s k (nx r) (10*v+here s r-48)) else (v,r)
def num(s:ZB)(r:Rd):Int×Rd:=DD s (Ah s r) r 0
theorem XY(s:ZB)(k:Nat)(r:Rd)(v:Int)(h:Ah s r=0):DD s k r v=(v,r):=by
 cases k with
 | zero=>rfl
 | succ k=>
  have:¬(48<=here s r∧here s r<=57):=λc=>by have:=KS (s:=s) (r:=r) (by omega);omega
  simp only[DD];rw[if_neg this]
theorem TU:∀(k:Nat) (r:Rd) (v:Int),0<=v->v<=255->(0<=(DD s k r v).1∧(DD s k r v).1<=255)
 | 0,r,v,d,g=>⟨d,g⟩
 | k+1,r,v,d,g=>by
  simp only[DD];split
  ·rename_i hd;split
   ·exact⟨QP _,by show (0:Int)<=255;omega⟩
   ·exact TU k _ _ (by omega) (by omega)
  ·exact⟨d,g⟩
theorem Of:∀(k:Nat) (r:Rd) (v:Int),Ah s (DD s k r v).2<=Ah s r
 | 0,r,v=>Qb _
 | k+1,r,v=>by
  simp only[DD];split
  ·split
   ·show Ah s (Bi r 11)<=_;rw[LH (by omega)];exact Q8 _
   ·exact Qg (Of k _ _) (Ob _ _)
  ·exact Qb _
theorem M0:∀(k:Nat) (r:Rd) (v:Int),r.a<=s.size->(DD s k r v).2.a<=s.size
 | 0,r,v,h=>h
 | k+1,r,v,h=>by
  simp only[DD];split
  ·rename_i hd;split
   ·show (Bi r 11).a<=_;rw[Km];exact h
   ·exact M0 k _ _ (Nu (by omega))
  ·exact h
def fnd(c:Int):List Int->Nat
 | []=>0
 | x::l=>if x=c then 0 else fnd c l+1
theorem Kk(c:Int):∀l,fnd c l<=l.length
 | []=>Qb _
 | x::l=>by
  simp only[fnd,Qt];split
  ·omega
  ·have:=Kk c l;omega
theorem Kl{c:Int}:∀{l:List Int},fnd c l<l.length->l[fnd c l]?=some c
 | [],h=>by simp[fnd]at h
 | x::l,h=>by
  simp only[fnd]at h ⊢;split
  ·rename_i e;simp[e]
  ·rename_i e;rw[if_neg e]at h;rw[List.getElem?_cons_succ];exact Kl (by simpa using h)
theorem KI{c:Int}:∀{l:List Int} {j:Nat},j<fnd c l->l[j]?≠some c
 | [],j,h=>by simp
 | x::l,j,h=>by
  simp only[fnd]at h;split at h
  ·omega
  ·rename_i e;cases j with
   | zero=>simpa using e
   | succ j=>rw[List.getElem?_cons_succ];exact KI (by omega)
theorem Nq{c:Int}{l:List Int}(h:l[i]?=some c)(o:∀j,j<i->l[j]?≠some c):fnd c l=i:=by
 have p:i<l.length:=(Ql.1 h).1;by_cases d:fnd c l<i
 ·exact absurd (Kl (by omega)) (o _ d)
 ·by_cases g:i<fnd c l
  ·exact absurd h (KI g)
  ·omega
theorem Ia{c:Int}{l:List Int}(d:∀j,j<l.length->l[j]?≠some c):fnd c l=l.length:=by
 have:=Kk c l;by_cases h:fnd c l<l.length
 ·exact absurd (Kl h) (d _ h)
 ·omega
def Ct(t:Int):Bool:=decide (97<=t∧t<=104)
def CW(s:ZB)(r:Rd)(ls:List Int):Bool:=Ct (Ae s r)&&decide (fnd (Ae s r) ls<ls.length)
def varI(s:ZB)(r:Rd)(ls:List Int):Nat:=if CW s r ls=true then fnd (Ae s r) ls else 0
def AD(s:ZB)(r:Rd)(ls:List Int):Rd:=BW s r (CW s r ls) (if Ct (Ae s r)=true then 12 else 11)
def AK(t:Int):Int:=if t=43 then 3 else if t=45 then 4 else if t=42 then 5 else if t=60 then 6 else if t=126 then 7 else 0
theorem Oc{r:Rd}{d:List Int}(h:CW s r d=true):Ae s r≠0:=by unfold CW Ct at h;have:=QB (Qr _ _ ▸ h:_∧_).1;omega
theorem Ib{t:Int}(h:AK t≠0):t≠0∧3<=AK t∧AK t<=7:=by
 have r:(t=43∧AK t=3)∨(t=45∧AK t=4)∨(t=42∧AK t=5)∨(t=60∧AK t=6)∨(t=126∧AK t=7)∨AK t=0:=by
  unfold AK;by_cases d:t=43
  ·rw[if_pos d];exact .inl ⟨d,rfl⟩
  ·rw[if_neg d];by_cases g:t=45
   ·rw[if_pos g];exact .inr (.inl ⟨g,rfl⟩)
   ·rw[if_neg g];by_cases l:t=42
    ·rw[if_pos l];exact .inr (.inr (.inl ⟨l,rfl⟩))
    ·rw[if_neg l];by_cases p:t=60
     ·rw[if_pos p];exact .inr (.inr (.inr (.inl ⟨p,rfl⟩)))
     ·rw[if_neg p];by_cases q:t=126
      ·rw[if_pos q];exact .inr (.inr (.inr (.inr (.inl ⟨q,rfl⟩))))
      ·rw[if_neg q];exact .inr (.inr (.inr (.inr (.inr rfl))))
 generalize AK t=o at *;omega
def AP(c:ZB)(i:Int):List Int:=
 if bv c (2*i)=8 then [bv c (2*i+1)] else if bv c (2*i)=9∧bv c (2*i+1)≠i+1 then [i+1,bv c (2*i+1)] else [i+1]
theorem M1(c:ZB)(i:Int):(AP c i).length<=2:=by
 unfold AP;split
 ·simp
 ·split<;>simp
def Cq(c:ZB)(i j:Int):Prop:=0<=i∧i<half c∧j∈AP c i
def Ac(c:ZB)(S:Int->Prop)(wall j:Int):Prop:=
 ∀P:Int->Prop,(∀i,S i->i≠wall->P i)->(∀i k,P i->Cq c i k->k≠wall->P k)->P j
theorem Ac.start{i:Int}(h:S i)(g:i≠wall):Ac c S wall i:=λ_ d _=>d i h g
theorem Ac.step{i k:Int}(h:Ac c S wall i)(l:Cq c i k)(o:k≠wall):Ac c S wall k:=
 λP g d=>d i k (h P g d) l o
def Ay(c:ZB):Prop:=∀i j:Int,Cq c i j->0<=j∧j<=half c
def Dx(c:ZB)(mk:Nat->Bool)(i:Int):Prop:=0<=i∧i<=half c∧mk i.toNat=true
structure B9(c:ZB)(mk:Nat->Bool)(wall:Int)(m:Nat->Bool):Prop where
 sound:∀j:Nat,(j:Int)<=half c->m j=true->Ac c (Dx c mk) wall j
 begun:∀j:Nat,(j:Int)<=half c->mk j=true->(j:Int)≠wall->m j=true
def Z2(c:ZB)(wall:Int)(m:Nat->Bool)(k:Nat):Prop:=∀i:Nat,i<k->m i=true->∀j:Int,j∈AP c i->j≠wall->m j.toNat=true
theorem WP{mk:Nat->Bool}(z:Ay c)(h:B9 c mk wall m)(u:Z2 c wall m (half c).toNat) :
  ∀j:Nat,(j:Int)<=half c->(m j=true↔Ac c (Dx c mk) wall j):=by
 intro j w;refine⟨h.sound j w,λr=>?_⟩;have:=r (λx=>0<=x∧x<=half c∧m x.toNat=true) (λi d q=>⟨d.1,d.2.1,h.begun i.toNat (by have:=d.1;have:=d.2.1;omega) d.2.2 (by have:=d.1;omega)⟩) (λi k d g q=>?_)
 ·have o:=this.2.2;rw[QC]at o;exact o
 ·have p:=z i k g;refine⟨p.1,p.2,?_⟩;have l:=g.1;have v:=g.2.1;exact u i.toNat (by omega) d.2.2 k (by rw[Qj l];exact g.2.2) q
def BG(m:Nat->Bool):Nat->Nat
 | 0=>0
 | k+1=>BG m k+(if m k then 0 else 1)
theorem Su{m':Nat->Bool}(h:∀i,i<k->m i=m' i):BG m k=BG m' k:=by
 induction k with
 | zero=>rfl
 | succ k d=>simp only[BG,d (λi g=>h i (by omega)),h k (by omega)]
theorem Hu{j:Nat}(p:j<k)(h:m j=false):BG (λx=>if x=j then true else m x) k+1=BG m k:=by
 induction k with
 | zero=>omega
 | succ k l=>
  by_cases e:j=k
  ·subst e;have g:BG (λx=>if x=j then true else m x) j=BG m j:=Su (λi o=>by rw[if_neg (by omega)]);simp only[BG,g,if_true,h];simp
  ·have:=l (by omega);have d:(if k=j then true else m k)=m k:=if_neg (λh=>e h.symm);simp only[BG,d];omega
theorem WQ{mk:Nat->Bool}{g:Nat}(h:B9 c mk wall m)(q:(i:Int)<half c)(r:m i=true)(v:(g:Int)∈AP c i)(u:(g:Int)≠wall) :
  B9 c mk wall (λx=>if x=g then true else m x):=by
 refine⟨λj l d=>?_,λj l p o=>?_⟩
 ·by_cases e:j=g
  ·subst e;exact(h.sound i (by omega) r).step ⟨by omega,q,v⟩ u
  ·simp only[if_neg e]at d;exact h.sound j l d
 ·by_cases e:j=g
  ·simp[e]
  ·simp only[if_neg e];exact h.begun j l p o
def Bx(i:Int):Int->Prop:=λx=>x=i
theorem Ac.ne(h:Ac c S wall j):j≠wall:=h (λx=>x≠wall) (λ_ _ d=>d) (λ_ _ _ _ d=>d)
theorem Ac.trans(h:Ac c S wall a)(k:Ac c (Bx a) wall b):Ac c S wall b:=
 k (λx=>Ac c S wall x) (λx d _=>by rw[show x=a from d];exact h) (λ_ _ d g l=>d.step g l)
theorem Ac.congr{T:Int->Prop}(d:∀x,S x->T x)(h:Ac c S wall j):Ac c T wall j:=
 h (λx=>Ac c T wall x) (λx l g=>Ac.start (d x l) g) (λ_ _ l o g=>l.step o g)
theorem Mu(l:(i:Int)<=half c)(wall j:Int):Ac c (Dx c (λj=>decide (j=i))) wall j↔Ac c (Bx i) wall j:=by
 constructor
 ·refine Ac.congr (λx d=>?_);have g:=QB d.2.2;have:=d.1;show x=(i:Int)
  omega
 ·refine Ac.congr (λx d=>?_);have d:x=(i:Int):=d;refine⟨by omega,by omega,Qv (by omega)⟩
theorem Ac.free{i:Int}(l:Ay c)(o:0<=i)(h:Ac c (Bx i) wall j):Ac c (Bx i) (-1) j:=
 h (λx=>Ac c (Bx i) (-1) x) (λx d _=>Ac.start d (by have d:x=i:=d;omega)) (λx y d g _=>d.step g (by have:=(l x y g).1;omega))
def D1(c:ZB)(i j:Int):Prop:=¬Ac c (Bx i) j (half c)
structure EW(c:ZB)(i j:Int):Prop where
 lo:0<=j
 hi:j<=half c
 ne:j≠i
 on:D1 c i j
 first:∀b:Int,0<=b->b<=half c->b≠i->b≠j->D1 c i b->¬Ac c (Bx i) j b
theorem EW.unique{i k:Int}(o:Ac c (Bx i) (-1) (half c))(g:EW c i j)(l:EW c i k):j=k:=by
 by_cases e:j=k
 ·exact e
 ·exfalso;have u:=g.first k l.lo l.hi l.ne (λh=>e h.symm) l.on;have v:=l.first j g.lo g.hi g.ne e g.on;have:=o (λx=>Ac c (Bx i) j x∧Ac c (Bx i) k x)
   (λx d _=>by
    have d:x=i:=d;subst d;exact⟨Ac.start rfl (λh=>g.ne h.symm),Ac.start rfl (λh=>l.ne h.symm)⟩)
   (λx y d p _=>by
    have q:y≠j:=λh=>v (by subst h;exact d.2.step p e);have r:y≠k:=λh=>u (by subst h;exact d.1.step p (λh=>e h.symm))
    exact⟨d.1.step p q,d.2.step p r⟩)
  exact g.on this.1
theorem ZqD{i:Int}(w:Ay c)(q:0<=i)(l:∀x,Ac c (Bx i) (-1) x->Ac c (Bx x) (-1) (half c))(g:a≠b)(u:D1 c i a)(v:D1 c i b)
  (o:Ac c (Bx i) b a) (r:Ac c (Bx i) a b):False:=by
 have:=l a (o.free w q) (λx=>Ac c (Bx a) b x∨Ac c (Bx b) a x)
  (λx d _=>.inl (Ac.start d (by have d:x=a:=d;rw[d];exact g)))
  (λx y d p _=>by
   rcases d with d|d
   ·by_cases e:y=b
    ·exact .inr (Ac.start e (λh=>g (h.symm.trans e)))
    ·exact .inl (d.step p e)
   ·by_cases e:y=a
    ·exact .inl (Ac.start e (λh=>g (e.symm.trans h)))
    ·exact .inr (d.step p e))
 rcases this with h|h
 ·exact v (o.trans h)
 ·exact u (r.trans h)
theorem Zr5{i:Int}(o:i≠a)(p:¬Ac c (Bx i) b a)(h:Ac c (Bx i) b x):Ac c (Bx i) a x:=
 (h (λx=>Ac c (Bx i) b x∧Ac c (Bx i) a x)
  (λx d g=>⟨Ac.start d g,Ac.start d (by have d:x=i:=d;rw[d];exact o)⟩)
  (λx y d l g=>⟨d.1.step l g,d.2.step l (λe=>p (by rw[<-e];exact d.1.step l g))⟩)).2
theorem Wl{i:Int}(E:Ay c)(D:0<=i)(v:∀x,Ac c (Bx i) (-1) x->Ac c (Bx x) (-1) (half c)) :
  ∀l:List Int,l≠[]->(∀x,x∈l->x≠i∧D1 c i x)->∃a,a∈l∧∀b,b∈l->b≠a->¬Ac c (Bx i) a b:=by
 intro l;induction l with
 | nil=>intro h;exact absurd rfl h
 | cons x l G=>
  intro _ g;by_cases C:l=[]
  ·subst C;exact⟨x,by simp,λb u d=>absurd (by simpa using u) d⟩
  ·obtain⟨a,B,p⟩:=G C (λy F=>g y (by simp[F]));have r:=g a (by simp[B]);have A:=g x (by simp);by_cases w:x≠a∧Ac c (Bx i) a x
   ·refine⟨x,by simp,λb u d o=>?_⟩;have z:b∈l:=by
     rcases Uc.1 u with h|h
     ·exact absurd h d
     ·exact h
    have q:¬Ac c (Bx i) x a:=λh=>ZqD E D v w.1 A.2 r.2 w.2 h;by_cases e:b=a
    ·subst e;exact q o
    ·exact p b z e (Zr5 (λh=>r.1 h.symm) q o)
   ·refine⟨a,by simp[B],λb u d o=>?_⟩;rcases Uc.1 u with h|h
    ·subst h;exact w ⟨d,o⟩
    ·exact p b h d o
def CO(c:ZB)(i p:Int):Prop:=∃j,EW c i j∧Ac c (λx=>x∈AP c i) j p
def Aj(op:Int):Int:=if op=2∨op=9∨op=11 then 1 else if op=0∨op=1∨op=8∨op=10 then 0 else 2
def Ar(op:Int):Int:=if op=2∨op=9∨op=11∨op=8 then 0 else 1
def Ab(c:ZB)(i:Int):Int:=Aj (bv c (2*i))
def As(c:ZB)(i:Int):Int:=Ar (bv c (2*i))
theorem Hv(c:ZB)(i:Int):(0<=Ab c i∧Ab c i<=2)∧(0<=As c i∧As c i<=1)∧-1<=As c i-Ab c i:=by
 unfold Ab As Aj Ar;refine⟨?_,?_,?_⟩
 ·split
  ·omega
  ·split<;>omega
 ·split<;>omega
 ·by_cases d:bv c (2*i)=2∨bv c (2*i)=9∨bv c (2*i)=11
  ·rw[if_pos d,if_pos (by omega)];omega
  ·rw[if_neg d];by_cases g:bv c (2*i)=8
   ·rw[if_pos (by omega),if_pos (by omega)];omega
   ·rw[if_neg (by omega)];split<;>omega
def Aq(c:ZB)(i:Int):Prop:=Ac c (Bx 0) (-1) i
structure Zj(c:ZB)(h:Nat->Int):Prop where
 zero:h 0=0
 rng:∀i:Nat,(i:Int)<=half c->Aq c i->0<=h i∧h i<=8
 fin:Aq c (half c)->h (half c).toNat=0
 pops:∀i:Nat,(i:Int)<half c->Aq c i->Ab c i<=h i
 step:∀i:Nat,(i:Int)<half c->Aq c i->∀j:Int,j∈AP c i->h j.toNat=h i-Ab c i+As c i
structure GR(c:ZB)(m:Nat->Bool)(h:Nat->Int):Prop where
 sound:∀j:Nat,(j:Int)<=half c->m j=true->Aq c j
 begun:m 0=true∧h 0=0
 fits:∀f:Nat->Int,Zj c f->∀j:Nat,(j:Int)<=half c->m j=true->h j=f j
 small:∀j:Nat,(j:Int)<=half c->-(((half c).toNat+1:Nat)-BG m ((half c).toNat+1):Int)<=h j∧h j<=(((half c).toNat+1:Nat)-BG m ((half c).toNat+1):Int)
theorem Wm{g:Nat}(w:Ay c)(H:GR c m h)(q:(i:Int)<half c)(r:m i=true)(u:(g:Int)∈AP c i)(l:m g=false) :
  GR c (λx=>if x=g then true else m x) (λx=>if x=g then h i-Ab c i+As c i else h x):=by
 have A:=w i g ⟨by omega,q,u⟩;have v:=Hu (k:=(half c).toNat+1) (j:=g) (by omega) l;obtain⟨B,C,D⟩:=Hv c i;refine⟨λj o d=>?_,?_,λf p j o d=>?_,λj o=>?_⟩
 ·by_cases e:j=g
  ·subst e;exact(H.sound i (by omega) r).step ⟨by omega,q,u⟩ (by omega)
  ·simp only[if_neg e]at d;exact H.sound j o d
 ·have e:(0:Nat)≠g:=λe=>by rw[<-e,H.begun.1]at l;exact absurd l (by simp)
  simp only[if_neg e];exact H.begun
 ·by_cases e:j=g
  ·subst e;simp only[if_true];have:=p.step i q (H.sound i (by omega) r) j u;rw[QC]at this;rw[this,H.fits f p i (by omega) r]
  ·simp only[if_neg e]at d ⊢;exact H.fits f p j o d
 ·have E:=H.small j o;have z:=H.small i (by omega);by_cases e:j=g
  ·simp only[if_pos e];omega
  ·simp only[if_neg e];omega
theorem Wn(z:Ay c)(H:GR c m h)(u:Z2 c (-1) m (half c).toNat):∀j:Nat,(j:Int)<=half c->(m j=true↔Aq c j):=by
 intro j w;refine⟨H.sound j w,λr=>?_⟩;have:=r (λx=>0<=x∧x<=half c∧m x.toNat=true) (λi d q=>?_) (λi k d g q=>?_)
 ·have o:=this.2.2;rw[QC]at o;exact o
 ·have d:i=0:=d;subst d;exact⟨by omega,by have:=(Zn c).1;omega,H.begun.1⟩
 ·have p:=z i k g;refine⟨p.1,p.2,?_⟩;have l:=g.1;have v:=g.2.1;exact u i.toNat (by omega) d.2.2 k (by rw[Qj l];exact g.2.2) q
def Fh(c:ZB)(h:Nat->Int)(i:Nat):Prop:=
 (0<=h i∧h i<=8)∧((i:Int)=half c->h i=0)∧((i:Int)<half c->Ab c i<=h i∧∀j:Int,j∈AP c i->h j.toNat=h i-Ab c i+As c i)
theorem XK(H:GR c m h)(d:∀i:Nat,(i:Int)<=half c->Aq c i->Fh c h i):Zj c h:=by have o:=(Zn c).1;refine⟨H.begun.2,λi l g=>(d i l g).1,λg=>?_,λi l g=>((d i (by omega) g).2.2 l).1,λi l g=>((d i (by omega) g).2.2 l).2⟩;have e:((half c).toNat:Int)=half c:=Qj o;exact(d (half c).toNat (by omega) (by rw[e];exact g)).2.1 e
theorem JM(B:Ay c)(H:GR c m h)(l:∀j:Nat,(j:Int)<=half c->(m j=true↔Aq c j))(w:(i:Int)<=half c)(q:Aq c i)(r:¬Fh c h i):¬∃f,Zj c f:=by
 rintro⟨f,u⟩;refine r ?_;have g:∀j:Nat,(j:Int)<=half c->Aq c j->h j=f j:=λj p o=>H.fits f u j p ((l j p).2 o);have e:=g i w q
 refine⟨by rw[e];exact u.rng i w q,λA=>?_,λd=>⟨by rw[e];exact u.pops i d q,λj p=>?_⟩⟩
 ·have z:i=(half c).toNat:=by omega
  rw[e,z];exact u.fin (by rw[<-A];exact q)
 ·have v:=B i j ⟨by omega,d,p⟩;have o:Aq c j:=q.step ⟨by omega,d,p⟩ (by omega);rw[g j.toNat (by omega) (by rw[Qj v.1];exact o),e];exact u.step i d q j p
structure Sq where
 k:Int
 pl:Int
 ou:Int
 ta:Int
 rd:Nat->Bool
 tp:Nat->Bool
structure Tq where
 r:Rd
 n:Int
 pn:Int
 pr:Nat->Nat->Bool
 ls:List Int
 vs:List Int
 cd:List Int
 h:Int
 hi:Int
 ss:List Sq
def Eb(m:Nat->Bool)(p:Int):Nat->Bool:=λj=>if (j:Int)=p then true else m j
def Ad(q:Tq)(op x:Int):Tq:=
 {q with cd:=q.cd++[op,x%256],h:=q.h+Ar op-Aj op,hi:=max q.hi (q.h+Ar op-Aj op)}
def plQ(q:Tq):Nat:=q.cd.length/2
def Bd(q:Tq)(z:Nat):Tq:={q with cd:=q.cd.set (2*z+1) ((plQ q:Int)%256)}
def Ax(q:Tq)(x:Sq):Tq:={q with ss:=q.ss++[x]}
def BN(q:Tq)(v:Nat):Int:=q.vs.getD v 0
def Jq(s:ZB)(x:Tq×Sq):Tq×Sq:=
 (Ad {x.1 with r:=An s (tk s x.1.r 36) 0 (x.1.n-1)} 10 (AW s (tk s x.1.r 36) 0 (x.1.n-1)),
  {x.2 with rd:=Eb x.2.rd (AW s (tk s x.1.r 36) 0 (x.1.n-1)),tp:=Eb x.2.tp (AW s (tk s x.1.r 36) 0 (x.1.n-1))})
def Jr(s:ZB)(x:Tq×Sq):Tq×Sq:=
 (Ad {x.1 with r:=AD s x.1.r x.1.ls} 1 (varI s x.1.r x.1.ls),{x.2 with rd:=Eb x.2.rd (BN x.1 (varI s x.1.r x.1.ls))})
def Bj(s:ZB)(ex:Tq×Sq->Tq×Sq)(x:Tq×Sq):Tq×Sq:=
 if 48<=Ae s x.1.r∧Ae s x.1.r<=57 then (Ad {x.1 with r:=(num s (Aa s x.1.r)).2} 0 (num s (Aa s x.1.r)).1,x.2)
 else if Ae s x.1.r=36 then Jq s ({x.1 with r:=Aa s x.1.r},x.2)
 else if Ae s x.1.r=40 then
  ({(ex ({x.1 with r:=nx (Aa s x.1.r)},x.2)).1 with r:=tk s (ex ({x.1 with r:=nx (Aa s x.1.r)},x.2)).1.r 41},(ex ({x.1 with r:=nx (Aa s x.1.r)},x.2)).2)
 else Jr s ({x.1 with r:=Aa s x.1.r},x.2)
def BB(s:ZB)(tm:Tq×Sq->Tq×Sq):Nat->Tq×Sq->Tq×Sq
 | 0,x=>({x.1 with r:=Aa s x.1.r},x.2)
 | k+1,x=>if AK (Ae s x.1.r)=0 then ({x.1 with r:=Aa s x.1.r},x.2)
   else BB s tm k (Ad (tm ({x.1 with r:=nx (Aa s x.1.r)},x.2)).1 (AK (Ae s x.1.r)) 0,(tm ({x.1 with r:=nx (Aa s x.1.r)},x.2)).2)
def AI(s:ZB):Nat->Tq×Sq->Tq×Sq
 | 0,x=>x
 | k+1,x=>BB s (Bj s (AI s k)) k (Bj s (AI s k) x)
def Cb(s:ZB)(x:Tq×Sq):Tq×Sq:=AI s (s.size+1) x
def Be(s:ZB)(f:Tq->Tq):Nat->Tq->Tq
 | 0,q=>{q with r:=Aa s q.r}
 | k+1,q=>if q.r.er=0∧Ae s q.r≠125 then Be s f k (f {q with r:=Aa s q.r}) else {q with r:=Aa s q.r}
def Bt(s:ZB)(f:Tq->Tq)(k:Nat)(q:Tq):Tq:=
 {Be s f k {q with r:=tk s q.r 123} with r:=tk s (Be s f k {q with r:=tk s q.r 123}).r 125}
def Fw(s:ZB)(q:Tq)(x:Sq):Tq:=
 let y:=Cb s ({q with r:=tk s (AD s q.r q.ls) 61},{x with k:=1,ta:=BN q (varI s q.r q.ls)})
 Ax (Ad {y.1 with r:=tk s y.1.r 59} 2 (varI s q.r q.ls)) y.2
def FW(s:ZB)(q:Tq)(x:Sq):Tq:=
 let y:=Cb s ({q with r:=An s (tk s q.r 62) 0 (q.n-1)},{x with k:=2,ta:=AW s (tk s q.r 62) 0 (q.n-1)})
 Ax (Ad {y.1 with r:=tk s y.1.r 59} 11 (AW s (tk s q.r 62) 0 (q.n-1))) y.2
def Fx(s:ZB)(f:Int->Tq->Tq)(k:Nat)(q:Tq)(x:Sq):Tq:=
 let y:=Cb s ({q with r:=tk s q.r 63},{x with k:=3})
 let q1:=Bt s (f y.1.ss.length) k (Ad (Ax y.1 y.2) 9 0)
 if Ae s q1.r=58 then
  let q2:=Bt s (f y.1.ss.length) k (Bd (Ad {q1 with r:=nx (Aa s q1.r)} 8 0) (plQ y.1))
  Bd q2 (plQ q1)
 else Bd {q1 with r:=Aa s q1.r} (plQ y.1)
def Fy(s:ZB)(f:Int->Tq->Tq)(k:Nat)(q:Tq)(x:Sq):Tq:=
 let y:=Cb s ({q with r:=tk s q.r 64},{x with k:=4})
 let q1:=Bt s (f y.1.ss.length) k (Ad (Ax y.1 y.2) 9 0)
 Bd (Ad q1 8 (plQ q)) (plQ y.1)
def none6:Nat->Bool:=λ_=>false
def Am(s:ZB):Nat->Int->Tq->Tq
 | 0,_,q=>q
 | k+1,ou,q=>
  if Ae s q.r=62 then FW s {q with r:=Aa s q.r} ⟨0,(Aa s q.r).a,ou,0,none6,none6⟩
  else if Ae s q.r=63 then Fx s (Am s k) k {q with r:=Aa s q.r} ⟨0,(Aa s q.r).a,ou,0,none6,none6⟩
  else if Ae s q.r=64 then Fy s (Am s k) k {q with r:=Aa s q.r} ⟨0,(Aa s q.r).a,ou,0,none6,none6⟩
  else Fw s {q with r:=Aa s q.r} ⟨0,(Aa s q.r).a,ou,0,none6,none6⟩
def Bp(s:ZB):Nat->Tq->Tq
 | 0,q=>{q with r:=Aa s q.r}
 | k+1,q=>if q.r.er=0∧(Aa s q.r).a<s.size then Bp s k (Am s (s.size+2) (-1) {q with r:=Aa s q.r}) else {q with r:=Aa s q.r}
def Cc(q:Tq)(a b:Int):Tq:={q with pr:=λi j=>q.pr i j||(q.pr i a.toNat&&q.pr b.toNat j)}
def BR(s:ZB):Nat->Tq->Tq
 | 0,q=>{q with r:=Aa s q.r}
 | k+1,q=>if q.r.er=0∧Ae s q.r≠46 then
   BR s k (Cc {q with r:=An s (An s (Aa s q.r) 0 (q.n-1)) 0 (q.n-1)} (AW s (Aa s q.r) 0 (q.n-1)) (AW s (An s (Aa s q.r) 0 (q.n-1)) 0 (q.n-1)))
  else {q with r:=Aa s q.r}
def BI(s:ZB)(q:Tq):Tq:=
 if Ct (Ae s q.r)=false then {q with r:=Bi (Aa s q.r) 11}
 else if fnd (Ae s q.r) q.ls<q.ls.length then {q with r:=Bi (Aa s q.r) 12}
 else {q with r:=An s (nx (Aa s q.r)) 0 (q.n-1),ls:=q.ls++[Ae s q.r],vs:=q.vs++[AW s (nx (Aa s q.r)) 0 (q.n-1)]}
def BE(s:ZB):Nat->Tq->Tq
 | 0,q=>{q with r:=Aa s q.r}
 | k+1,q=>if q.r.er=0∧Ae s q.r≠46 then BE s k (BI s {q with r:=Aa s q.r}) else {q with r:=Aa s q.r}
def Br(s:ZB)(q:Tq):Tq:=
 let n:=AW s q.r 1 6
 let q1:=BR s (s.size+1) {q with r:=An s q.r 1 6,n:=n,pn:=n,pr:=λi j=>decide (i=j)}
 let q2:=BE s (s.size+1) {q1 with r:=tk s q1.r 46}
 {q2 with r:=tk s q2.r 46}
def Ak:Tq:=⟨⟨0,0⟩,0,0,λ_ _=>false,[],[],[],0,0,[]⟩
def Ai(s:ZB):Tq:=Bp s (s.size+1) (Br s Ak)
end Go.Proofs.YtcnbifdlkalimabGreat
