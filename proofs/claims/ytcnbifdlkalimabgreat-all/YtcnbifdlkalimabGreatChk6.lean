/- Lemmas; their conditions stand in each. -/
import Derived.Test.YtcnbifdlkalimabGreatChkA
import Derived.Deep.CutRange
namespace Go.Proofs.YtcnbifdlkalimabGreat
open Go.RowKit Go.Deep Go.Proofs.Tryz
set_option linter.all false
set_option maxRecDepth 100000
variable{n:Int}{L:List Int}{gn:Nat}{m:Nat->Bool}{h:Nat->Int}{w wr:World}{c t v:ZB}
structure HS(n:Int)(t v c:ZB)(w wr:World)(h:Nat->Int)(m:Nat->Bool):Prop where
 b:Below w.heap.size w wr
 o:AF wr w.heap.size [.int .i64 n,.string t,.string v,.string c,.int .i64 (half c)]
 rh:wr.rowIs (w.heap.size+1) 3 ((half c).toNat+1) (λj=>.int .i64 (h j))
 rm:wr.rowIs (w.heap.size+2) 4 ((half c).toNat+1) (λj=>.bool (m j))
theorem HS.step{w1:World}(H:HS n t v c w wr h m)(a:Below wr.heap.size wr w1):HS n t v c w w1 h m:=
 ⟨H.b.trans (a.mono (Uf H.o.lt)),H.o.step a,H.rh.of_block (a.block _ H.rh.lt),H.rm.of_block (a.block _ H.rm.lt)⟩
theorem Nj{b:Nat}{vs:List Value}(h:AF wr b vs)(a:Addr)(v:Value)(d:a.block≠b):AF (wr.setCell a v) b vs:=by
 refine⟨by simpa using h.lt,λi x g=>?_,λi x g=>?_⟩
 ·rw[QN wr a ⟨b,i,none⟩ v (by intro e;exact d (by rw[e]))];exact h.c i x g
 ·rw[Qu];exact h.f i x g
theorem HS.mark(H:HS n t v c w wr h m)(j:Nat):HS n t v c w (wr.setCell ⟨w.heap.size+2,j,none⟩ (.bool true)) h (λi=>if i=j then true else m i):=
 ⟨H.b.setCell (by simp) _,Nj H.o _ _ (by simp),H.rh.setOther (by simp) _,(H.rm.set j (.bool true)).congr (λi _=>by split<;>rfl)⟩
theorem HS.lay(H:HS n t v c w wr h m)(j:Nat)(x:Int):HS n t v c w (wr.setCell ⟨w.heap.size+1,j,none⟩ (.int .i64 x)) (λi=>if i=j then x else h i) m:=
 ⟨H.b.setCell (by simp) _,Nj H.o _ _ (by simp),(H.rh.set j (.int .i64 x)).congr (λi _=>by split<;>rfl),H.rm.setOther (by simp) _⟩
theorem HS.begin(n:Int)(t v c:ZB)(w:World):HS n t v c w (((w.alloc (.cells #[.int .i64 n,.string t,.string v,.string c,.int .i64 (half c)] 169)).alloc (.cells (madeCells #[.int .i64 0] ((half c).toNat+1)) 3)).alloc (.cells ((madeCells #[.bool false] ((half c).toNat+1)).setIfInBounds 0 (.bool true)) 4)) (λ_=>0) (λj=>decide (j=0)):=by
 refine⟨(((Qh _ _).alloc (Qb _) _).alloc (by simp) _).alloc (by simp;omega) _,((AF.new5 w _ _ _ _ _ _).alloc _).alloc _,?_,?_⟩
 ·have h:=(World.rowIs_made (w.alloc (.cells #[.int .i64 n,.string t,.string v,.string c,.int .i64 (half c)] 169)) (.int .i64 0) ((half c).toNat+1) 3).alloc (.cells ((madeCells #[.bool false] ((half c).toNat+1)).setIfInBounds 0 (.bool true)) 4);simpa using h
 ·have h:=Re ((w.alloc (.cells #[.int .i64 n,.string t,.string v,.string c,.int .i64 (half c)] 169)).alloc (.cells (madeCells #[.int .i64 0] ((half c).toNat+1)) 3)) (.bool false) (.bool true) ((half c).toNat+1) 0 4;simp only[World.size_alloc]at h;refine h.congr (λj a=>?_);by_cases e:j=0
  ·simp[e]
  ·simp[e]
structure HL(n:Int)(t v c:ZB)(gn:Nat)(L:List Int)(w wr:World)(h:Nat->Int)(m:Nat->Bool):Prop where
 s:HS n t v c w wr h m
 l:∀(p:Nat) (x:Int),L[p]?=some x->wr.cell? ⟨gn,p,none⟩=some (.int .i64 x)
 g:gn<wr.heap.size
 ne:gn≠w.heap.size+2∧gn≠w.heap.size+1
theorem HL.step{w1:World}(H:HL n t v c gn L w wr h m)(a:Below wr.heap.size wr w1):HL n t v c gn L w w1 h m:=
 ⟨H.s.step a,λp x b=>(a.cell (p:=⟨gn,p,none⟩) H.g).trans (H.l p x b),Qq H.g a.size,H.ne⟩
theorem HL.mark(H:HL n t v c gn L w wr h m)(j:Nat):HL n t v c gn L w (wr.setCell ⟨w.heap.size+2,j,none⟩ (.bool true)) h (λi=>if i=j then true else m i):=
 ⟨H.s.mark j,λp x b=>by rw[World.cell?_setCell_other wr ⟨w.heap.size+2,j,none⟩ ⟨gn,p,none⟩ (.bool true) (by intro e;have a:=congrArg Addr.block e;exact H.ne.1 a.symm)];exact H.l p x b,by simpa using H.g,H.ne⟩
theorem HL.lay(H:HL n t v c gn L w wr h m)(j:Nat)(y:Int):HL n t v c gn L w (wr.setCell ⟨w.heap.size+1,j,none⟩ (.int .i64 y)) (λi=>if i=j then y else h i) m:=
 ⟨H.s.lay j y,λp x b=>by rw[World.cell?_setCell_other wr ⟨w.heap.size+1,j,none⟩ ⟨gn,p,none⟩ (.int .i64 y) (by intro e;have a:=congrArg Addr.block e;exact H.ne.2 a.symm)];exact H.l p x b,by simpa using H.g,H.ne⟩
theorem OM(n i:Int)(t v c:ZB)(w:World)(d:c.size<=maxLen)(b:0<=i)(f:i<half c)(a:bv c (2*i)<=11) :
  Calls prog 203 #[.agg #[.int .i64 n,.string t,.string v,.string c,.int .i64 (half c)],.int .i64 i] w λe g=>e=.returned (.int .i64 (Ab c i))∧Below w.heap.size w g:=Sc n i t v c w d b f a
theorem S8(n i:Int)(t v c:ZB)(w:World)(d:c.size<=maxLen)(b:0<=i)(f:i<half c)(a:bv c (2*i)<=11) :
  Calls prog 204 #[.agg #[.int .i64 n,.string t,.string v,.string c,.int .i64 (half c)],.int .i64 i] w λe g=>e=.returned (.int .i64 (As c i))∧Below w.heap.size w g:=Se n i t v c w d b f a
theorem Mj{w':World}{j k l o p y z:Value}{b f:Nat}(g:¬b=f)(r:w'.cell? ⟨w.heap.size,0,none⟩=some j)(s:w'.cell? ⟨w.heap.size,1,none⟩=some k)(u:w'.cell? ⟨w.heap.size,2,none⟩=some l)(x:w'.cell? ⟨w.heap.size,3,none⟩=some o)(A:w'.cell? ⟨w.heap.size,4,none⟩=some p)(B:w'.cell? ⟨w.heap.size+1,f,none⟩=some y) :
  (w'.setCell ⟨w.heap.size+1,b,none⟩ z).cell? ⟨w.heap.size,0,none⟩=some j∧(w'.setCell ⟨w.heap.size+1,b,none⟩ z).cell? ⟨w.heap.size,1,none⟩=some k∧(w'.setCell ⟨w.heap.size+1,b,none⟩ z).cell? ⟨w.heap.size,2,none⟩=some l∧(w'.setCell ⟨w.heap.size+1,b,none⟩ z).cell? ⟨w.heap.size,3,none⟩=some o∧(w'.setCell ⟨w.heap.size+1,b,none⟩ z).cell? ⟨w.heap.size,4,none⟩=some p∧(w'.setCell ⟨w.heap.size+1,b,none⟩ z).cell? ⟨w.heap.size+1,f,none⟩=some y:=by
 have a:∀i:Nat,(⟨w.heap.size+1,b,none⟩:Addr)≠⟨w.heap.size,i,none⟩:=λi e=>by have q:=congrArg Addr.block e;simp at q
 have d:(⟨w.heap.size+1,b,none⟩:Addr)≠⟨w.heap.size+1,f,none⟩:=λe=>g (congrArg Addr.off e);refine⟨?_,?_,?_,?_,?_,?_⟩
 ·rw[QN w' _ _ z (a 0)];exact r
 ·rw[QN w' _ _ z (a 1)];exact s
 ·rw[QN w' _ _ z (a 2)];exact u
 ·rw[QN w' _ _ z (a 3)];exact x
 ·rw[QN w' _ _ z (a 4)];exact A
 ·rw[QN w' _ _ z d];exact B
theorem We(c:ZB):GR c (λj=>decide (j=0)) (λ_=>0):=by
 have a:∀k:Nat,BG (λj=>decide (j=0)) k<=k:=λk=>by
  induction k with
  | zero=>simp[BG]
  | succ k g=>simp only[BG];split<;>omega
 refine⟨λj d b=>?_,⟨by simp,rfl⟩,λf e j d b=>?_,λj d=>?_⟩
 ·have:j=0:=QB b;subst this;exact Ac.start rfl (by omega)
 ·have:j=0:=QB b;subst this;exact e.zero.symm
 ·have:=a ((half c).toNat+1);omega
def ZtB(c:ZB)(w:World)(e:Ending)(w':World):Prop:=
 ∃ok:Bool,e=.returned (.tuple #[.slice (some ⟨w.heap.size+1,0,none⟩) ((half c).toNat+1) ((half c).toNat+1),.bool ok])∧∃h:Nat->Int,w'.rowIs (w.heap.size+1) 3 ((half c).toNat+1) (λj=>.int .i64 (h j))∧Kp ((ok=true->Zj c h)∧(ok=false->¬∃f,Zj c f))∧Below w.heap.size w w'
set_option maxHeartbeats 12800000
theorem Wv(n:Int)(gl:Nat)(lv:Nat->Bool)(t v c:ZB)(w:World)(hc:c.size<=maxLen)(hk:half c<=200)(hr:Kp (Ay c))(aN:Kp (∀i:Int,0<=i->i<half c->bv c (2*i)<=11))(ah:w.rowIs gl 4 ((half c).toNat+1) (λj=>.bool (lv j)))(aL:Kp (∀j:Nat,(j:Int)<=half c->(lv j=true↔Aq c j))) :
  Calls prog 153 #[.agg #[.int .i64 n,.string t,.string v,.string c,.int .i64 (half c)],.slice (some ⟨gl,0,none⟩) ((half c).toNat+1) ((half c).toNat+1)] w λe J=>
   ZtB c w e J:=by
 have hh:=(Zn c).1;have aG:=ah.lt;have ak:=run_make_row' (P:=prog) 206 4 (.bool false) 1 Tryz.underlying206 KV rfl .i64 .i64 ((half c).toNat+1) (by omega) (by omega);rw[show ((((half c).toNat+1):Nat):Int)=half c+1 from by omega]at ak;have al:=run_make_row' (P:=prog) 69 3 (.int .i64 0) 8 Tryz.underlying69 OQ rfl .i64 .i64 ((half c).toNat+1) (by omega) (by omega);rw[show ((((half c).toNat+1):Nat):Int)=half c+1 from by omega]at al;have aR:=Lk (.bool false) ((half c).toNat+1) 0 (by omega);replace ah:=Z_ ah;go_in;go_wp2_with fail;clear ak al aR;go_loopg [8] (2*BG (λj=>decide (j=0)) ((half c).toNat+1)+1) (λg a wr=>∃(E:Bool) (m:Nat->Bool) (h:Nat->Int),a=.bool E∧g=2*BG m ((half c).toNat+1)+(if E then 1 else 0)∧HS n t v c w wr h m∧Kp (GR c m h)∧Kp (E=false->Z2 c (-1) m (half c).toNat));case atStart=>exact⟨true,_,_,rfl,by simp,HS.begin n t v c w,⟨We c⟩,⟨λh=>absurd h (by simp)⟩⟩
 case round=>
  obtain⟨E,m,h,rfl,hg,f,z,am⟩:=hrel;replace hg:=Z_ hg;have ol:=f.o.lt;have q0:=f.o.c 0 _ rfl;have q1:=f.o.c 1 _ rfl;have q2:=f.o.c 2 _ rfl;have q3:=f.o.c 3 _ rfl;have q4:=f.o.c 4 _ rfl;cases E
  ·have F:Kp (∀j:Nat,(j:Int)<=half c->(m j=true↔Aq c j)):=⟨Wn hr.o z.o (am.o (by simp))⟩
   clear am hg;go_wp2_with fail;go_loopw [12] (λi wr=>∃k:Nat,k<=((half c).toNat+1)∧i=.int .i64 k∧HS n t v c w wr h m∧Kp (∀j:Nat,j<k->Aq c j->Fh c h j)) (λi _=>((half c).toNat+1)-(intOf i).toNat);case atStart=>exact⟨0,by omega,rfl,f,⟨λj hj=>absurd hj (by omega)⟩⟩
   case round=>
    clear f ol q0 q1 q2 q3 q4;obtain⟨k,be,rfl,f,aj⟩:=hrel;have ol:=f.o.lt;have q0:=f.o.c 0 _ rfl;have q1:=f.o.c 1 _ rfl;have q2:=f.o.c 2 _ rfl;have q3:=f.o.c 3 _ rfl;have q4:=f.o.c 4 _ rfl;by_cases aK:(k:Int)<=half c
    ·have ao:wr.cell? ⟨gl,k,none⟩=some (.bool (lv k)):=by rw[f.b.cell (p:=⟨gl,k,none⟩) aG];exact ah.o.cell (by omega)
     have aU:(k:Int)<half c+1:=by omega
     have Z:Kp ((Aq c k->Fh c h k)->∀j:Nat,j<k+1->Aq c j->Fh c h j):=⟨λQ j hj Y=>by
      by_cases e:j=k
      ·subst e;exact Q Y
      ·exact aj.o j (by omega) Y⟩
     cases K:lv k
     ·rw[K]at ao;have aW:Kp (¬Aq c k):=⟨λY=>by rw[(aL.o k aK).2 Y]at K;exact absurd K (by simp)⟩
      clear K;go_wp2;go_roundw;case rel=>exact⟨k+1,by omega,by go_num,f,⟨Z.o (λY=>absurd Y aW.o)⟩⟩
      case measure=>simp[intOf];omega
     ·rw[K]at ao;have Y:Kp (Aq c k):=⟨(aL.o k aK).1 K⟩
      clear K;have aS:=f.rh.cell (i:=k) (by omega);have W:Kp (Fh c h k↔((0<=h k∧h k<=8)∧((k:Int)=half c->h k=0)∧((k:Int)<half c->Ab c k<=h k∧∀j:Int,j∈AP c k->h j.toNat=h k-Ab c k+As c k))):=⟨Iff.rfl⟩
      by_cases c1:h k<0
      ·have D:Kp (¬Fh c h k):=⟨λx=>by have:=(W.o.1 x).1;omega⟩
       go_wp2;go_ret2;exact⟨false,rfl,h,f.rh,⟨⟨λh=>absurd h (by simp),λ_=>JM hr.o z.o F.o (by omega) Y.o D.o⟩⟩,f.b⟩
      ·by_cases c2:8<h k
       ·have D:Kp (¬Fh c h k):=⟨λx=>by have:=(W.o.1 x).1;omega⟩
        go_wp2;go_ret2;exact⟨false,rfl,h,f.rh,⟨⟨λh=>absurd h (by simp),λ_=>JM hr.o z.o F.o (by omega) Y.o D.o⟩⟩,f.b⟩
       ·by_cases c3:(k:Int)=half c
        ·have k3:((k:Int)==half c)=true:=QL.2 c3;by_cases c4:h k=0
         ·have k4:(h k != 0)=false:=by rw[c4];rfl
          have au:Kp (Fh c h k):=⟨W.o.2 ⟨by omega,λ_=>c4,λQ=>by omega⟩⟩
          clear c3 c4;go_wp2;go_roundw;case rel=>exact⟨k+1,by omega,by go_num,f,⟨Z.o (λ_=>au.o)⟩⟩
          case measure=>simp[intOf];omega
         ·have k4:(h k != 0)=true:=QO.2 c4;have D:Kp (¬Fh c h k):=⟨λx=>c4 ((W.o.1 x).2.1 c3)⟩
          clear c3 c4;go_wp2;go_ret2;exact⟨false,rfl,h,f.rh,⟨⟨λh=>absurd h (by simp),λ_=>JM hr.o z.o F.o (by omega) Y.o D.o⟩⟩,f.b⟩
        ·have k3:((k:Int)==half c)=false:=Qf.2 c3;have V:(k:Int)<half c:=by omega
         have O:Kp _:=⟨aN.o k (by omega) V⟩
         obtain⟨⟨d1,d2⟩,⟨d3,d4⟩,d5⟩:=Hv c k;go_upto_region 26 with fail;clear ao;have aV:(k:Int)<max (half c) 0+1:=by omega
         go_region_held3 (λJ=>J.cell? ⟨w.heap.size,0,none⟩=some (.int .i64 n)∧J.cell? ⟨w.heap.size,1,none⟩=some (.string t)∧J.cell? ⟨w.heap.size,2,none⟩=some (.string v)∧J.cell? ⟨w.heap.size,3,none⟩=some (.string c)∧J.cell? ⟨w.heap.size,4,none⟩=some (.int .i64 (half c))∧J.cell? ⟨w.heap.size+1,k,none⟩=some (.int .i64 (h k))) (go_keep) ((go_at_call 203;refine(OM n k t v c _ hc (by omega) V O.o).mono ?_;rintro e w4 ⟨rfl,U⟩;have C:HS n t v c w w4 h m:=f.step ((Qh _ _).drew.trans U);have a0:=C.o.c 0 _ rfl;have a1:=C.o.c 1 _ rfl;have a2:=C.o.c 2 _ rfl;have a3:=C.o.c 3 _ rfl;have a4:=C.o.c 4 _ rfl;have a5:=C.rh.cell (i:=k) (by omega)));all_goals
          clear ol q0 q1 q2 q3 q4 a0 a1 a2 a3 a4 a5 aS;by_cases c5:h k<Ab c k
          ·have D:Kp (¬Fh c h k):=⟨λx=>by have:=((W.o.1 x).2.2 V).1;omega⟩
           go_wp2;go_ret2;exact⟨false,rfl,h,C.rh,⟨⟨λh=>absurd h (by simp),λ_=>JM hr.o z.o F.o (by omega) Y.o D.o⟩⟩,C.b⟩
          ·have ol:=C.o.lt;have q0:=C.o.c 0 _ rfl;have q1:=C.o.c 1 _ rfl;have q2:=C.o.c 2 _ rfl;have q3:=C.o.c 3 _ rfl;have q4:=C.o.c 4 _ rfl;go_wp2_with fail;refine(MS n k t v c _ hc (by omega) V hk).mono ?_;rintro e w6 ⟨r,rfl,hI,aB⟩;have aw:=C.rm.lt;have ay:=C.step aB;obtain⟨⟨gn,aO,rfl,aF,H,d⟩⟩:=hI;have X:HL n t v c gn (AP c k) w w6 h m:=⟨ay,d,H,by omega⟩
           clear U aB aw C ay d H aF ol q0 q1 q2 q3 q4;have av:Kp (∀(q:Nat) (x:Int),(AP c k)[q]?=some x->0<=x∧x<=half c∧x∈AP c k):=⟨λq x Q=>by
            have M:=Qw Q;have:=hr.o k x ⟨by omega,V,M⟩;exact⟨this.1,this.2,M⟩⟩
           have ap:Kp (∀j:Int,j∈AP c k->∃q,q<(AP c k).length∧(AP c k)[q]?=some j):=⟨λj hj=>by
            obtain⟨q,hq,he⟩:=List.getElem_of_mem hj;exact⟨q,hq,by rw[Qn hq,he]⟩⟩
           have aJ:=M1 c k;generalize hL:AP c k=L at *;replace hL:=Z_ hL;go_wp2_with fail;go_loopw [123] (λqv wr=>∃q:Nat,q<=L.length∧qv=.int .i64 q∧HL n t v c gn L w wr h m∧Kp (∀(p:Nat) (x:Int),p<q->L[p]?=some x->h x.toNat=h k-Ab c k+As c k)) (λqv _=>L.length-(intOf qv).toNat);case atStart=>exact⟨0,by omega,rfl,X,⟨λp x hp=>absurd hp (by omega)⟩⟩
           case round=>
            clear X;obtain⟨q,hq,rfl,X,ab⟩:=hrel;have ol:=X.s.o.lt;have q0:=X.s.o.c 0 _ rfl;have q1:=X.s.o.c 1 _ rfl;have q2:=X.s.o.c 2 _ rfl;have q3:=X.s.o.c 3 _ rfl;have q4:=X.s.o.c 4 _ rfl;by_cases af:q<L.length
            ·obtain⟨x,Q⟩:∃x,L[q]?=some x:=⟨_,Qn af⟩
             have an:=X.l q x Q;obtain⟨ax,a8,aa⟩:=av.o q x Q;obtain⟨B,rfl⟩:=Int.eq_ofNat_of_zero_le ax;replace Q:=Z_ Q;replace aa:Kp ((B:Int)∈L):=⟨aa⟩
             have wA:IntKind.i64.wrap (h k-Ab c k)=h k-Ab c k:=by rw[IntKind.wrap_i64];omega
             have wB:IntKind.i64.wrap (h k-Ab c k+As c k)=h k-Ab c k+As c k:=by rw[IntKind.wrap_i64];omega
             have a9:(B:Int)<half c+1:=by omega
             have aX:(q:Int)<(L.length:Int):=by omega
             have z5:=X.s.rh.cell (i:=k) (by omega);have z6:=X.s.rh.cell (i:=B) (by omega);go_upto_region 31 with fail;clear an;have ba:(B:Int)<max (half c) 0+1:=by omega
             go_region_held3 (λJ=>J.cell? ⟨w.heap.size,0,none⟩=some (.int .i64 n)∧J.cell? ⟨w.heap.size,1,none⟩=some (.string t)∧J.cell? ⟨w.heap.size,2,none⟩=some (.string v)∧J.cell? ⟨w.heap.size,3,none⟩=some (.string c)∧J.cell? ⟨w.heap.size,4,none⟩=some (.int .i64 (half c))∧J.cell? ⟨w.heap.size+1,k,none⟩=some (.int .i64 (h k))∧J.cell? ⟨w.heap.size+1,B,none⟩=some (.int .i64 (h B))) (go_keep) (first|(go_at_call 203;refine(OM n k t v c _ hc (by omega) V O.o).mono ?_;rintro e w4 ⟨rfl,U⟩;have u:HL n t v c gn L w w4 h m:=(by first|exact X.step ((Qh _ _).drew.trans U)|exact y.step U);have a0:=u.s.o.c 0 _ rfl;have a1:=u.s.o.c 1 _ rfl;have a2:=u.s.o.c 2 _ rfl;have a3:=u.s.o.c 3 _ rfl;have a4:=u.s.o.c 4 _ rfl;have a5:=u.s.rh.cell (i:=k) (by omega);have a6:=u.s.rh.cell (i:=B) (by omega))|(go_at_call 204;refine(S8 n k t v c _ hc (by omega) V O.o).mono ?_;rintro e w5 ⟨rfl,ae⟩;have y:HL n t v c gn L w w5 h m:=(by first|exact X.step ((Qh _ _).drew.trans ae)|exact u.step ae);have a0:=y.s.o.c 0 _ rfl;have a1:=y.s.o.c 1 _ rfl;have a2:=y.s.o.c 2 _ rfl;have a3:=y.s.o.c 3 _ rfl;have a4:=y.s.o.c 4 _ rfl;have a5:=y.s.rh.cell (i:=k) (by omega);have a6:=y.s.rh.cell (i:=B) (by omega)));all_goals
              clear ol q0 q1 q2 q3 q4 a0 a1 a2 a3 a4 a5 a6 z5 z6;by_cases c6:h B=h k-Ab c k+As c k
              ·have k6:(h B != h k-Ab c k+As c k)=false:=by rw[c6];simp
               have ad:Kp (∀(p:Nat) (x:Int),p<q+1->L[p]?=some x->h x.toNat=h k-Ab c k+As c k):=⟨λp x hp G=>by
                by_cases e:p=q
                ·subst e;rw[Q.o]at G;simp only[Option.some.injEq]at G;rw[<-G,QC];exact c6
                ·exact ab.o p x (by omega) G⟩
               clear c6;go_wp2;go_roundw;case rel=>first|exact⟨q+1,by omega,by go_num,y,ad⟩|exact⟨q+1,by omega,by go_num,u,ad⟩
               case measure=>simp[intOf];omega
              ·have k6:(h B != h k-Ab c k+As c k)=true:=QO.2 c6;have D:Kp (¬Fh c h k):=⟨λx=>by
                have h1:=((W.o.1 x).2.2 V).2 B aa.o;rw[QC]at h1;exact c6 h1⟩
               clear c6;go_wp2;go_ret2;first|exact⟨false,rfl,h,y.s.rh,⟨⟨λh=>absurd h (by simp),λ_=>JM hr.o z.o F.o (by omega) Y.o D.o⟩⟩,y.s.b⟩|exact⟨false,rfl,h,u.s.rh,⟨⟨λh=>absurd h (by simp),λ_=>JM hr.o z.o F.o (by omega) Y.o D.o⟩⟩,u.s.b⟩
            ·have au:Kp (Fh c h k):=⟨W.o.2 ⟨by omega,λQ=>by omega,λ_=>⟨by omega,λj hj=>by
              obtain⟨p,hp,G⟩:=ap.o j hj;exact ab.o p j (by omega) G⟩⟩⟩
             go_wp2;go_roundw;case rel=>exact⟨k+1,by omega,by go_num,X.s,⟨Z.o (λ_=>au.o)⟩⟩
             case measure=>simp[intOf];omega
    ·have aE:Kp (Zj c h):=⟨XK z.o (λi hi Y=>aj.o i (by omega) Y)⟩
     go_wp2;go_ret2;exact⟨true,rfl,h,f.rh,⟨⟨λ_=>aE.o,λh=>absurd h (by simp)⟩⟩,f.b⟩
  ·clear am;go_wp2_with fail;go_loopw [8,9] (λa i wr=>∃(E:Bool) (k:Nat) (m':Nat->Bool) (h':Nat->Int),a=.bool E∧(k:Int)<=half c∧i=.int .i64 k∧HS n t v c w wr h' m'∧Kp (GR c m' h')∧Kp ((E=false->m'=m∧Z2 c (-1) m k)∧(E=true->BG m' ((half c).toNat+1)<BG m ((half c).toNat+1)))) (λ_ i _=>(half c).toNat-(intOf i).toNat);case atStart=>exact⟨false,0,m,h,rfl,by omega,rfl,f,z,⟨⟨λ_=>⟨rfl,λi hi=>absurd hi (by omega)⟩,λh=>absurd h (by simp)⟩⟩⟩
   case round=>
    clear f z ol q0 q1 q2 q3 q4;obtain⟨E,A,m',h',rfl,bd,rfl,f,z,I⟩:=hrel;have ol:=f.o.lt;have q0:=f.o.c 0 _ rfl;have q1:=f.o.c 1 _ rfl;have q2:=f.o.c 2 _ rfl;have q3:=f.o.c 3 _ rfl;have q4:=f.o.c 4 _ rfl;by_cases N:(A:Int)<half c
    ·have aq:=f.rm.cell (i:=A) (by omega);have aU:(A:Int)<half c+1:=by omega
     cases K:m' A
     ·rw[K]at aq;have S:Kp ((E=false->m'=m∧Z2 c (-1) m (A+1))∧(E=true->BG m' ((half c).toNat+1)<BG m ((half c).toNat+1))):=⟨⟨λh=>⟨(I.o.1 h).1,λi hi M j hj hw=>by
       by_cases e:i=A
       ·subst e;rw[(I.o.1 h).1]at K;rw[K]at M;exact absurd M (by simp)
       ·exact(I.o.1 h).2 i (by omega) M j hj hw⟩,I.o.2⟩⟩
      go_wp2;go_roundw;case rel=>exact⟨E,A+1,m',h',rfl,by omega,by go_num,f,z,S⟩
      case measure=>simp[intOf];omega
     ·rw[K]at aq;replace K:=Z_ K;go_wp2_with fail;refine(MS n A t v c _ hc (by omega) N hk).mono ?_;rintro e w1 ⟨r,rfl,hI,az⟩;have aw:=f.rm.lt;replace f:=f.step az;obtain⟨⟨gn,aO,rfl,aF,H,d⟩⟩:=hI;have aH:gn≠w.heap.size+2∧gn≠w.heap.size+1:=by omega
      clear az aw aq ol q0 q1 q2 q3 q4;have av:Kp (∀(q:Nat) (x:Int),(AP c A)[q]?=some x->0<=x∧x<=half c∧x∈AP c A):=⟨λq x Q=>by
       have M:=Qw Q;have:=hr.o A x ⟨by omega,N,M⟩;exact⟨this.1,this.2,M⟩⟩
      have ap:Kp (∀j:Int,j∈AP c A->∃q,q<(AP c A).length∧(AP c A)[q]?=some j):=⟨λj hj=>by
       obtain⟨q,hq,he⟩:=List.getElem_of_mem hj;exact⟨q,hq,by rw[Qn hq,he]⟩⟩
      have aJ:=M1 c A;have O:Kp _:=⟨aN.o A (by omega) N⟩
      obtain⟨⟨d1,d2⟩,⟨d3,d4⟩,d5⟩:=Hv c A;generalize hL:AP c A=L at *;replace hL:=Z_ hL;replace d:=Z_ d;have aY:=f.o.lt;go_wp2_with fail;go_loopw [8,41] (λa qv wr=>∃(E:Bool) (q:Nat) (R:Nat->Bool) (h2:Nat->Int),a=.bool E∧q<=L.length∧qv=.int .i64 q∧HS n t v c w wr h2 R∧Kp (GR c R h2)∧Kp (R A=true)∧Kp ((E=false->R=m∧Z2 c (-1) m A∧∀(p:Nat) (x:Int),p<q->L[p]?=some x->m x.toNat=true)∧(E=true->BG R ((half c).toNat+1)<BG m ((half c).toNat+1)))∧Kp (∀(p:Nat) (x:Int),L[p]?=some x->wr.cell? ⟨gn,p,none⟩=some (.int .i64 x))∧gn<wr.heap.size) (λ_ qv _=>L.length-(intOf qv).toNat);case atStart=>exact⟨E,0,m',h',rfl,by omega,rfl,f,z,K,⟨⟨λh=>⟨(I.o.1 h).1,(I.o.1 h).2,λp x hp=>absurd hp (by omega)⟩,I.o.2⟩⟩,d,H⟩
      case round=>
       clear f z K I d aY H;obtain⟨E,q,R,h2,rfl,hq,rfl,f,z,K,I,d,H⟩:=hrel;have ol:=f.o.lt;have q0:=f.o.c 0 _ rfl;have q1:=f.o.c 1 _ rfl;have q2:=f.o.c 2 _ rfl;have q3:=f.o.c 3 _ rfl;have q4:=f.o.c 4 _ rfl;by_cases af:q<L.length
       ·obtain⟨x,Q⟩:∃x,L[q]?=some x:=⟨_,Qn af⟩
        have an:=d.o q x Q;obtain⟨ax,a8,aa⟩:=av.o q x Q;obtain⟨B,rfl⟩:=Int.eq_ofNat_of_zero_le ax;replace Q:=Z_ Q;have ar:=f.rm.cell (i:=B) (by omega);have aQ:=f.rm.frozen B;have a9:(B:Int)<half c+1:=by omega
        have aX:(q:Int)<(L.length:Int):=by omega
        replace aa:Kp ((B:Int)∈AP c A):=⟨by rw[hL.o];exact aa⟩
        cases M:R B
        ·rw[M]at ar;have aZ:=z.o.small A (by omega);have aP:=Hu (k:=((half c).toNat+1)) (j:=B) (by omega) M;have bb:-201<=h2 A:=by omega
         have bc:h2 A<=201:=by omega
         clear aZ aP;have T:=HL.mark (n:=n) (t:=t) (v:=v) (c:=c) ⟨f,d.o,H,aH⟩ B;have ai:Kp (GR c (λx=>if x=B then true else R x) (λx=>if x=B then h2 A-Ab c A+As c A else h2 x)):=⟨Wm hr.o z.o N K.o aa.o M⟩
         have aA:Kp ((λx=>if x=B then true else R x) A=true):=⟨by simp[K.o]⟩
         have S:Kp (BG (λx=>if x=B then true else R x) ((half c).toNat+1)<BG m ((half c).toNat+1)):=⟨by
          have h1:=Hu (k:=((half c).toNat+1)) (j:=B) (by omega) M;cases E with
          | false=>rw[(I.o.1 rfl).1]at h1 ⊢;omega
          | true=>have:=I.o.2 rfl;omega⟩
         have e0:=T.s.o.c 0 _ rfl;have e1:=T.s.o.c 1 _ rfl;have e2:=T.s.o.c 2 _ rfl;have e3:=T.s.o.c 3 _ rfl;have e4:=T.s.o.c 4 _ rfl;have e5:=T.s.rh.cell (i:=A) (by omega);have aM:¬B=A:=λe=>by rw[e,K.o]at M;exact absurd M (by simp)
         clear I K z d M;go_upto_region 16 with fail;clear ol q0 q1 q2 q3 q4 ar aQ an;have aV:(A:Int)<max (half c) 0+1:=by omega
         have ba:(B:Int)<max (half c) 0+1:=by omega
         go_region_held3 (λJ=>J.cell? ⟨w.heap.size,0,none⟩=some (.int .i64 n)∧J.cell? ⟨w.heap.size,1,none⟩=some (.string t)∧J.cell? ⟨w.heap.size,2,none⟩=some (.string v)∧J.cell? ⟨w.heap.size,3,none⟩=some (.string c)∧J.cell? ⟨w.heap.size,4,none⟩=some (.int .i64 (half c))∧J.cell? ⟨w.heap.size+1,A,none⟩=some (.int .i64 (h2 A))) (first|exact Mj aM a0 a1 a2 a3 a4 a5|go_keep) (first|(go_at_call 203;refine(OM n A t v c _ hc (by omega) N O.o).mono ?_;rintro e w4 ⟨rfl,U⟩;have u:HL n t v c gn L w w4 h2 (λx=>if x=B then true else R x):=(by first|exact T.step ((Qh _ _).drew.trans U)|exact y.step U);have a0:=u.s.o.c 0 _ rfl;have a1:=u.s.o.c 1 _ rfl;have a2:=u.s.o.c 2 _ rfl;have a3:=u.s.o.c 3 _ rfl;have a4:=u.s.o.c 4 _ rfl;have a5:=u.s.rh.cell (i:=A) (by omega);have a6:=u.s.rh.cell (i:=B) (by omega);have a7:=u.s.rh.frozen B)|(go_at_call 204;refine(S8 n A t v c _ hc (by omega) N O.o).mono ?_;rintro e w5 ⟨rfl,ae⟩;have y:HL n t v c gn L w w5 h2 (λx=>if x=B then true else R x):=(by first|exact T.step ((Qh _ _).drew.trans ae)|exact u.step ae);have a0:=y.s.o.c 0 _ rfl;have a1:=y.s.o.c 1 _ rfl;have a2:=y.s.o.c 2 _ rfl;have a3:=y.s.o.c 3 _ rfl;have a4:=y.s.o.c 4 _ rfl;have a5:=y.s.rh.cell (i:=A) (by omega);have a6:=y.s.rh.cell (i:=B) (by omega);have a7:=y.s.rh.frozen B));all_goals
          go_wp2;go_roundw;case rel=>first|exact⟨true,q+1,_,_,rfl,by omega,by go_num,(y.lay B _).s,ai,aA,⟨⟨λh=>absurd h (by simp),λ_=>S.o⟩⟩,⟨(y.lay B _).l⟩,(y.lay B _).g⟩|exact⟨true,q+1,_,_,rfl,by omega,by go_num,(u.lay B _).s,ai,aA,⟨⟨λh=>absurd h (by simp),λ_=>S.o⟩⟩,⟨(u.lay B _).l⟩,(u.lay B _).g⟩
          case measure=>simp[intOf];omega
        ·rw[M]at ar;have S:Kp ((E=false->R=m∧Z2 c (-1) m A∧∀(p:Nat) (x:Int),p<q+1->L[p]?=some x->m x.toNat=true)∧(E=true->BG R ((half c).toNat+1)<BG m ((half c).toNat+1))):=⟨⟨λh=>⟨(I.o.1 h).1,(I.o.1 h).2.1,λp x hp G=>by
          by_cases e:p=q
          ·subst e;rw[Q.o]at G;simp only[Option.some.injEq]at G;rw[<-G,QC,<-(I.o.1 h).1];exact M
          ·exact(I.o.1 h).2.2 p x (by omega) G⟩,I.o.2⟩⟩
         clear M;go_wp2;go_roundw;case rel=>exact⟨E,q+1,R,h2,rfl,by omega,by go_num,f,z,K,S,d,H⟩
         case measure=>simp[intOf];omega
       ·have S:Kp ((E=false->R=m∧Z2 c (-1) m (A+1))∧(E=true->BG R ((half c).toNat+1)<BG m ((half c).toNat+1))):=⟨⟨λh=>⟨(I.o.1 h).1,λi hi M j hj aT=>by
         by_cases e:i=A
         ·subst e;rw[hL.o]at hj;obtain⟨p,hp,G⟩:=ap.o j hj;exact(I.o.1 h).2.2 p j (by omega) G
         ·exact(I.o.1 h).2.1 i (by omega) M j hj aT⟩,I.o.2⟩⟩
        go_wp2;go_roundw;case rel=>exact⟨E,A+1,R,h2,rfl,by omega,by go_num,f,z,S⟩
        case measure=>simp[intOf];omega
    ·have aI:A=(half c).toNat:=by omega
     have aC:Kp (E=false->Z2 c (-1) m' (half c).toNat):=⟨λh=>by rw[(I.o.1 h).1,<-aI];exact(I.o.1 h).2⟩
     have aD:Kp (2*BG m' ((half c).toNat+1)+(if E then 1 else 0)<2*BG m ((half c).toNat+1)+1):=⟨by
      cases E with
      | false=>rw[(I.o.1 rfl).1];simp
      | true=>have:=I.o.2 rfl;simp;omega⟩
     clear aI;go_wp2;go_roundg (2*BG m' ((half c).toNat+1)+(if E then 1 else 0));case measure=>have h1:=hg.o;have h2:=aD.o;simp at h1;omega
     case rel=>exact⟨E,m',h',rfl,rfl,f,z,aC⟩
end Go.Proofs.YtcnbifdlkalimabGreat
