import Derived.Test.YtcnbifdlkalimabGreatMchB
import Derived.Test.YtcnbifdlkalimabGreatWayB
import Derived.Test.YtcnbifdlkalimabGreatLabM
import Derived.Test.YtcnbifdlkalimabGreatPlainR
/- Lemmas for the statement Means; their conditions stand in each. -/
namespace Go.Proofs.YtcnbifdlkalimabGreat
open Go.RowKit Go.Proofs.Tryz
set_option linter.unusedVariables false
set_option maxRecDepth 100000
variable{en st:Int}{g:Nat}{lg:Nat->ZB}{w:World}{s vs:ZB}
def Z9(n:Int)(t v c:ZB)(T:Int->ZB)(j:Nat):Value:=
 if j=0 then .int .i64 n else if j=1 then .string t else if j=2 then .string v else if j=3 then .string c
 else if j<10 then .string (T ((j:Int)-4)) else if j<34 then .int .i64 0 else .slice none 0 0
theorem ZmX(n:Int)(t v c:ZB)(T:Int->ZB):prog.built 155 [(0,.agg #[.int .i64 n,.string t,.string v,.string c]),(1,.agg #[.string (T 0),.string (T 1),.string (T 2),.string (T 3),.string (T 4),.string (T 5)])]=some (big 40 (Z9 n t v c T)):=by kernel_rfl
theorem Zqv(n:Int)(t v c:ZB)(T:Int->ZB)(j:Nat):(Z9 n t v c T j).oneCell'=true:=by
 unfold Z9
 repeat (split;rfl)
 rfl
theorem ZmY{b:Nat}(h:Room w b 40)(n:Int)(t v c:ZB)(T:Int->ZB):YB (w.setCells b 0 (big 40 (Z9 n t v c T)).toList) b n t v c T start:=by
 have e:∀j,j<40->(w.setCells b 0 (big 40 (Z9 n t v c T)).toList).cell? ⟨b,j,none⟩=some (Z9 n t v c T j):=λj hj=>by
  have:=ZA w b 0 40 (Z9 n t v c T) h.c j hj
  rwa [QT]at this
 refine⟨by have:=(Z2 (But.refl b 0 w) (big 40 (Z9 n t v c T)).toList 0).size;exact Qq h.lt this,e 0 (by omega),e 1 (by omega),e 2 (by omega),e 3 (by omega),λj hj=>?_,?_,λj hj=>?_,?_,λj hj=>?_,λj hj=>?_,⟨λ_=>.slice none 0 0,λj hj=>?_,λj hj=>?_,λi j hi hj hij=>.inl rfl⟩,λj hj=>?_⟩
 ·rw[e (4+j) (by omega)]
  unfold Z9
  rw[if_neg (by omega),if_neg (by omega),if_neg (by omega),if_neg (by omega),if_pos (by omega),show ((4+j:Nat):Int)-4=(j:Int) from by omega]
 ·exact e 10 (by omega)
 ·rw[e (11+j) (by omega)]
  unfold Z9
  rw[if_neg (by omega),if_neg (by omega),if_neg (by omega),if_neg (by omega),if_neg (by omega),if_pos (by omega)]
  rfl
 ·exact e 19 (by omega)
 ·rw[e (20+j) (by omega)]
  unfold Z9
  rw[if_neg (by omega),if_neg (by omega),if_neg (by omega),if_neg (by omega),if_neg (by omega),if_pos (by omega)]
  rfl
 ·rw[e (28+j) (by omega)]
  unfold Z9
  rw[if_neg (by omega),if_neg (by omega),if_neg (by omega),if_neg (by omega),if_neg (by omega),if_pos (by omega)]
  show _=some (Value.int .i64 ((min 0 (T j).size:Nat):Int))
  rw[Nat.zero_min]
  rfl
 ·rw[e (34+j) (by omega)]
  unfold Z9
  rw[if_neg (by omega),if_neg (by omega),if_neg (by omega),if_neg (by omega),if_neg (by omega),if_neg (by omega)]
 ·exact Uq _ _ _ _
 ·have:=h.f j hj
  rw[QT]at this
  rw[QQ]
  exact this
def ZnD(w:World)(n:Int)(t v c:ZB)(T:Int->ZB):World:=(((w.alloc (.cells #[.int .i64 n,.string t,.string v,.string c] 76)).alloc (.cells #[.string (T 0),.string (T 1),.string (T 2),.string (T 3),.string (T 4),.string (T 5)] 23)).alloc (.cells #[.int .i64 0,.int .i64 0,.string {data:=#[]},.string {data:=#[]},.string {data:=#[]},.string {data:=#[]},.string {data:=#[]},.string {data:=#[]},.string {data:=#[]}] 31)).alloc (.cells #[.int .i64 0,.string {data:=#[]},.string {data:=#[]},.string {data:=#[]},.string {data:=#[]},.string {data:=#[]},.string {data:=#[]},.string {data:=#[]},.string {data:=#[]},.string {data:=#[]},.int .i64 0,.int .i64 0,.int .i64 0,.int .i64 0,.int .i64 0,.int .i64 0,.int .i64 0,.int .i64 0,.int .i64 0,.int .i64 0,.int .i64 0,.int .i64 0,.int .i64 0,.int .i64 0,.int .i64 0,.int .i64 0,.int .i64 0,.int .i64 0,.int .i64 0,.int .i64 0,.int .i64 0,.int .i64 0,.int .i64 0,.int .i64 0,.slice none 0 0,.slice none 0 0,.slice none 0 0,.slice none 0 0,.slice none 0 0,.slice none 0 0] 155)
theorem ZmZ(w:World)(cs:Array Value)(t:TypeId)(b k:Nat)(hb:b=w.heap.size)(hk:cs.size=k):Room (w.alloc (.cells cs t)) b k:=by
 subst hb
 exact Room.of_row (heap_alloc_last w _) hk
structure ZX(w:World)(g:Nat)(en st:Int)(lg:Nat->ZB)(vs:ZB):Prop where
 lt:g<w.heap.size
 c0:w.cell? ⟨g,0,none⟩=some (.int .i64 en)
 c1:w.cell? ⟨g,1,none⟩=some (.int .i64 st)
 cl:∀j:Nat,j<6->w.cell? ⟨g,2+j,none⟩=some (.string (lg j))
 cv:w.cell? ⟨g,8,none⟩=some (.string vs)
 f:∀j:Nat,j<9->w.frozen? ⟨g,j,none⟩=false
theorem ZX.step{w1:World}(H:ZX w g en st lg vs)(hb:Below w.heap.size w w1):ZX w1 g en st lg vs:=by
 have key:∀k:Nat,w1.cell? ⟨g,k,none⟩=w.cell? ⟨g,k,none⟩:=λk=>hb.cell (p:=⟨g,k,none⟩) H.lt
 exact⟨Qq H.lt hb.size,(key _).trans H.c0,(key _).trans H.c1,λj hj=>(key _).trans (H.cl j hj),(key _).trans H.cv,λj hj=>by rw[hb.frozen (p:=⟨g,j,none⟩) H.lt];exact H.f j hj⟩
theorem ZX.but{w1:World}{b:Nat}(H:ZX w g en st lg vs)(hb:But b w.heap.size w w1)(hne:g≠b):ZX w1 g en st lg vs:=by
 have key:∀k:Nat,w1.cell? ⟨g,k,none⟩=w.cell? ⟨g,k,none⟩:=λk=>hb.cell (p:=⟨g,k,none⟩) H.lt hne
 exact⟨Qq H.lt hb.size,(key _).trans H.c0,(key _).trans H.c1,λj hj=>(key _).trans (H.cl j hj),(key _).trans H.cv,λj hj=>by rw[hb.frozen (p:=⟨g,j,none⟩) H.lt hne];exact H.f j hj⟩
theorem ZX.new(w:World)(t:TypeId)(en st:Int):ZX (w.alloc (.cells #[.int .i64 en,.int .i64 st,.string {data:=#[]},.string {data:=#[]},.string {data:=#[]},.string {data:=#[]},.string {data:=#[]},.string {data:=#[]},.string {data:=#[]}] t)) w.heap.size en st (λ_=>{data:=#[]}) {data:=#[]}:=by
 refine⟨by simp,by simp[go_sem],by simp[go_sem],λj hj=>?_,by simp[go_sem],λj hj=>?_⟩
 ·match j with
  | 0=>simp[go_sem]
  | 1=>simp[go_sem]
  | 2=>simp[go_sem]
  | 3=>simp[go_sem]
  | 4=>simp[go_sem]
  | 5=>simp[go_sem]
  | j+6=>omega
 ·simp[go_sem]
theorem ZX.setVars(H:ZX w g en st lg vs)(x:ZB):ZX (w.setCell ⟨g,8,none⟩ (.string x)) g en st lg x:=by
 have key:∀k:Nat,k≠8->(w.setCell ⟨g,8,none⟩ (.string x)).cell? ⟨g,k,none⟩=w.cell? ⟨g,k,none⟩:=λk hk=>ZL _ _ _ _ _ (by omega)
 exact⟨by simpa using H.lt,(key _ (by omega)).trans H.c0,(key _ (by omega)).trans H.c1,λj hj=>(key _ (by omega)).trans (H.cl j hj),World.cell?_setCell_same _ _ _ H.cv,λj hj=>by rw[World.frozen?_setCell];exact H.f j hj⟩
theorem ZX.setLog{k:Nat}(H:ZX w g en st lg vs)(hk:k<6)(x:ZB):ZX (w.setCell ⟨g,2+k,none⟩ (.string x)) g en st (λj=>if j=k then x else lg j) vs:=by
 have key:∀i:Nat,i≠2+k->(w.setCell ⟨g,2+k,none⟩ (.string x)).cell? ⟨g,i,none⟩=w.cell? ⟨g,i,none⟩:=λi hi=>ZL _ _ _ _ _ (by omega)
 refine⟨by simpa using H.lt,(key _ (by omega)).trans H.c0,(key _ (by omega)).trans H.c1,λj hj=>?_,(key _ (by omega)).trans H.cv,λj hj=>by rw[World.frozen?_setCell];exact H.f j hj⟩
 by_cases e:j=k
 ·subst e
  rw[Qk _ _ _ (H.cl j hj),if_pos rfl]
 ·rw[key _ (by omega),if_neg e];exact H.cl j hj
def Zq3(w:World)(g:Nat)(y:Nat->ZB):World:=(((((w.setCell ⟨g,2,none⟩ (.string (y 0))).setCell ⟨g,3,none⟩ (.string (y 1))).setCell ⟨g,4,none⟩ (.string (y 2))).setCell ⟨g,5,none⟩ (.string (y 3))).setCell ⟨g,6,none⟩ (.string (y 4))).setCell ⟨g,7,none⟩ (.string (y 5))
theorem ZX.setAt{k p:Nat}(H:ZX w g en st lg vs)(hk:k<6)(hp:p=2+k)(x:ZB):ZX (w.setCell ⟨g,p,none⟩ (.string x)) g en st (λj=>if j=k then x else lg j) vs:=by
 subst hp
 exact H.setLog hk x
theorem ZX.same{lg':Nat->ZB}(H:ZX w g en st lg vs)(h:∀j,j<6->lg j=lg' j):ZX w g en st lg' vs:=
 ⟨H.lt,H.c0,H.c1,λj hj=>by rw[<-h j hj];exact H.cl j hj,H.cv,H.f⟩
theorem ZX.setLogs(H:ZX w g en st lg vs)(y:Nat->ZB):ZX (Zq3 w g y) g en st y vs:=by
 have K0:=H.setAt (k:=0) (p:=2) (by omega) rfl (y 0)
 have K1:=K0.setAt (k:=1) (p:=3) (by omega) rfl (y 1)
 have K2:=K1.setAt (k:=2) (p:=4) (by omega) rfl (y 2)
 have K3:=K2.setAt (k:=3) (p:=5) (by omega) rfl (y 3)
 have K4:=K3.setAt (k:=4) (p:=6) (by omega) rfl (y 4)
 have K5:=K4.setAt (k:=5) (p:=7) (by omega) rfl (y 5)
 unfold Zq3
 refine K5.same λj hj=>?_
 by_cases e5:j=5
 ·subst e5;simp
 by_cases e4:j=4
 ·subst e4;simp
 by_cases e3:j=3
 ·subst e3;simp
 by_cases e2:j=2
 ·subst e2;simp
 by_cases e1:j=1
 ·subst e1;simp
 have e0:j=0:=by omega
 subst e0;simp
theorem Zgm{B:Nat}{x:World}(h:Below B x w)(g:Nat)(hg:B<=g)(y:Nat->ZB):Below B x (Zq3 w g y):=
 (((((h.setCell hg _).setCell hg _).setCell hg _).setCell hg _).setCell hg _).setCell hg _
theorem Zke{c:ZB}{T:Int->ZB}:∀(k:Nat) (m:Hnd),(Za6 c T k m).pl≠half c->numM c T (k+1) m=k+1
 | 0,m,h=>by
  have h':m.pl≠half c:=h
  rw[Zbs h']
  rfl
 | k+1,m,h=>by
  by_cases e:m.pl=half c
  ·rw[Zbg e]at h;exact absurd e h
  ·rw[Zcg e]at h
   rw[Zbs e,Zke k _ h]
set_option maxHeartbeats 6400000
theorem ZoC(n:Int)(t v c:ZB)(T:Int->ZB)(h:Nat->Int)(f:Nat)(w:World)(F:Zsj c v n T)(P:Kp (Through c v t n h))(hf:f<=20000) :
  Calls prog 26 #[.agg #[.int .i64 n,.string t,.string v,.string c],Zhu T,.int .i64 f] w λe w'=>e=.returned (ZoY c v T f)∧Below w.heap.size w w':=by
 have hc:=F.hc
 have hK:=F.hK
 have hv8:=F.hv
 have hh:=(Z4 c).1
 have hsz:(ZnD w n t v c T).heap.size=w.heap.size+4:=by unfold ZnD;simp
 have hR0:Room (ZnD w n t v c T) (w.heap.size+1+1+1) 40:=ZmZ _ _ _ _ _ (by simp) rfl
 have hO0:Own (ZnD w n t v c T) w.heap.size [.int .i64 n,.string t,.string v,.string c]:=(((Own.new4 w _ _ _ _ _).alloc _).alloc _).alloc _
 have hX0:ZX (ZnD w n t v c T) (w.heap.size+1+1) 0 0 (λ_=>{data:=#[]}) {data:=#[]}:=by
  have:=(ZX.new (en:=0) (st:=0) ((w.alloc (.cells #[.int .i64 n,.string t,.string v,.string c] 76)).alloc (.cells #[.string (T 0),.string (T 1),.string (T 2),.string (T 3),.string (T 4),.string (T 5)] 23)) 31).step ((Qh _ _).alloc (Qb _) (.cells #[.int .i64 0,.string {data:=#[]},.string {data:=#[]},.string {data:=#[]},.string {data:=#[]},.string {data:=#[]},.string {data:=#[]},.string {data:=#[]},.string {data:=#[]},.string {data:=#[]},.int .i64 0,.int .i64 0,.int .i64 0,.int .i64 0,.int .i64 0,.int .i64 0,.int .i64 0,.int .i64 0,.int .i64 0,.int .i64 0,.int .i64 0,.int .i64 0,.int .i64 0,.int .i64 0,.int .i64 0,.int .i64 0,.int .i64 0,.int .i64 0,.int .i64 0,.int .i64 0,.int .i64 0,.int .i64 0,.int .i64 0,.int .i64 0,.slice none 0 0,.slice none 0 0,.slice none 0 0,.slice none 0 0,.slice none 0 0,.slice none 0 0] 155))
  unfold ZnD
  simpa using this
 have hB0:Below w.heap.size w (ZnD w n t v c T):=((((Qh _ _).alloc (Qb _) _).alloc (by simp) _).alloc (by simp;omega) _).alloc (by simp;omega) _
 obtain⟨w1,hw1⟩:∃w1,w1=(ZnD w n t v c T).setCells (w.heap.size+1+1+1) 0 (big 40 (Z9 n t v c T)).toList:=⟨_,rfl⟩
 have hB:But (w.heap.size+1+1+1) (ZnD w n t v c T).heap.size (ZnD w n t v c T) w1:=by rw[hw1];exact Z2 (But.refl _ _ _) _ _
 have H1:YB w1 (w.heap.size+1+1+1) n t v c T start:=by rw[hw1];exact ZmY hR0 n t v c T
 have hX1:=hX0.but hB (by omega)
 have hO1:=hO0.but hB (by omega)
 have hB1:Below w.heap.size w w1:=hB0.trans ((hB.mono hB0.size).below (by omega))
 replace hw1:=Z_ hw1
 have q0:=hO1.c 0 _ rfl
 have q1:=hO1.c 1 _ rfl
 have q2:=hO1.c 2 _ rfl
 have q3:=hO1.c 3 _ rfl
 replace H1:=Z_ H1
 replace hX1:=Z_ hX1
 replace hB1:=Z_ hB1
 replace hR0:=Z_ hR0
 have hb:=ZmX n t v c T
 replace hb:=Z_ hb
 clear hO0 hO1 hX0 hB0 hB
 replace F:=Z_ F
 unfold Zhu
 go_enter func26,ntmps26
 iterate 24 go_step
 refine Zar 155 #[(0,.tmp 11),(1,.tmp 12)] rfl (big 40 (Z9 n t v c T)) ?hf ?_
 case hf=>exact(congrArg (Program.built prog 155) (by simp[Act.eval])).trans hb.out
 iterate 5 go_step
 refine Zm 155 (.tmp 7) (.tmp 13) rfl (w.heap.size+1+1+1) 0 40 (Z9 n t v c T) rfl rfl (by kernel_rfl) hR0.out.c hR0.out.f (λj _=>Zqv _ _ _ _ _ j) ?_
 rw[show (((w.alloc (.cells #[.int .i64 n,.string t,.string v,.string c] 76)).alloc (.cells #[.string (T 0),.string (T 1),.string (T 2),.string (T 3),.string (T 4),.string (T 5)] 23)).alloc (.cells #[.int .i64 0,.int .i64 0,.string {data:=#[]},.string {data:=#[]},.string {data:=#[]},.string {data:=#[]},.string {data:=#[]},.string {data:=#[]},.string {data:=#[]}] 31)).alloc (.cells #[.int .i64 0,.string {data:=#[]},.string {data:=#[]},.string {data:=#[]},.string {data:=#[]},.string {data:=#[]},.string {data:=#[]},.string {data:=#[]},.string {data:=#[]},.string {data:=#[]},.int .i64 0,.int .i64 0,.int .i64 0,.int .i64 0,.int .i64 0,.int .i64 0,.int .i64 0,.int .i64 0,.int .i64 0,.int .i64 0,.int .i64 0,.int .i64 0,.int .i64 0,.int .i64 0,.int .i64 0,.int .i64 0,.int .i64 0,.int .i64 0,.int .i64 0,.int .i64 0,.int .i64 0,.int .i64 0,.int .i64 0,.int .i64 0,.slice none 0 0,.slice none 0 0,.slice none 0 0,.slice none 0 0,.slice none 0 0,.slice none 0 0] 155)=ZnD w n t v c T from rfl,<-hw1.out]
 dsimp only [Act.put]
 clear hR0 hw1 hsz hb
 obtain⟨mb,hmb⟩:∃mb,mb=w.heap.size+1+1+1:=⟨_,rfl⟩
 obtain⟨xb,hxb⟩:∃xb,xb=w.heap.size+1+1:=⟨_,rfl⟩
 rw[<-hmb,<-hxb]
 rw[<-hmb]at H1
 rw[<-hxb]at hX1
 have hwx:w.heap.size<=xb:=by omega
 have hxm:xb<mb:=by omega
 clear hmb hxb
 go_wp2_with fail
 refine(ZT n t v c _ hc).mono ?_
 rintro e w2 ⟨rfl,hb2⟩
 have H2:Kp _:=⟨H1.out.step hb2⟩
 have hX2:Kp _:=⟨hX1.out.step hb2⟩
 have hB2:Kp _:=⟨hB1.out.trans (hb2.mono hB1.out.size)⟩
 clear H1 hX1 hB1 hb2 q0 q1 q2 q3
 go_wp2_with fail
 go_loopw [9] (λsv wr=>∃k:Nat,k<=f∧sv=.int .i64 k∧Kp (YB wr mb n t v c T (Za6 c T k start))∧Kp (numM c T k start=k)∧Kp (ZX wr xb 0 0 (λ_=>{data:=#[]}) {data:=#[]})∧Kp (Below w.heap.size w wr)) (λsv _=>f-(intOf sv).toNat)
 case atStart=>exact⟨0,by omega,rfl,H2,⟨rfl⟩,hX2,hB2⟩
 case round=>
  clear H2 hX2 hB2
  obtain⟨k,hk,rfl,H,hN,hX,hB⟩:=hrel
  have hpl:=H.out.pl
  obtain⟨Sd,Vd,_⟩:=ZhS (T:=T) P.out k start (ZiZ P.out) Zgg
  obtain⟨pl,hple⟩:∃pl,(Za6 c T k start).pl=pl:=⟨_,rfl⟩
  rw[hple]at hpl
  replace Sd:=Z_ Sd
  replace Vd:=Z_ Vd
  by_cases he:pl=half c
  ·have hnx:Kp (endOf c T f=1∧cntOf c T f=k∧(∀l,logOf c T f l=bs ((Za6 c T k start).lo l))∧varsOf c v T f=bs (lst (Za6 c T k start).va v.size)):=⟨by
    obtain⟨r1,r2⟩:=Zmj (T:=T) (m:=start) (k:=k) (by rw[hple];exact he) f hk
    unfold endOf cntOf logOf varsOf
    rw[r1,r2,hN.out,hple,if_pos he]
    exact⟨rfl,rfl,λ_=>rfl,rfl⟩⟩
   subst he
   have hnn:(half c != half c)=false:=by simp
   have hxl:=hX.out.lt
   have hml:=H.out.lt
   by_cases hkf:k<f
   all_goals
    clear hN hple Sd
    go_wp2_with fail
    obtain⟨wa,hwa⟩:∃wa,wa=wr.alloc (.cells #[.int .i64 1,.int .i64 k,.string {data:=#[]},.string {data:=#[]},.string {data:=#[]},.string {data:=#[]},.string {data:=#[]},.string {data:=#[]},.string {data:=#[]}] 31):=⟨_,rfl⟩
    rw[<-hwa]
    have A0:ZX wa wr.heap.size 1 k (λ_=>{data:=#[]}) {data:=#[]}:=by rw[hwa];exact ZX.new wr _ 1 k
    have hbA:Below wr.heap.size wr wa:=by rw[hwa];exact(Qh _ _).alloc (Qb _) _
    have hL:=Zfj mb n t v c T _ wa (H.out.step hbA)
    unfold Zhu at hL
    dsimp only at hL
    obtain⟨y,hy⟩:∃y:Nat->ZB,∀j:Nat,bs ((Za6 c T k start).lo j)=y j:=⟨_,λ_=>rfl⟩
    have z0:bs ((Za6 c T k start).lo 0)=y 0:=hy 0
    have z1:bs ((Za6 c T k start).lo 1)=y 1:=hy 1
    have z2:bs ((Za6 c T k start).lo 2)=y 2:=hy 2
    have z3:bs ((Za6 c T k start).lo 3)=y 3:=hy 3
    have z4:bs ((Za6 c T k start).lo 4)=y 4:=hy 4
    have z5:bs ((Za6 c T k start).lo 5)=y 5:=hy 5
    rw[z0,z1,z2,z3,z4,z5]at hL
    obtain⟨yv,hyv⟩:∃yv,bs (lst (Za6 c T k start).va v.size)=yv:=⟨_,rfl⟩
    have hres:Kp (ZoY c v T f=.agg #[.int .i64 1,.int .i64 k,.string (y 0),.string (y 1),.string (y 2),.string (y 3),.string (y 4),.string (y 5),.string yv]):=⟨by
     unfold ZoY
     rw[hnx.out.1,hnx.out.2.1,hnx.out.2.2.1,hnx.out.2.2.1,hnx.out.2.2.1,hnx.out.2.2.1,hnx.out.2.2.1,hnx.out.2.2.1,hnx.out.2.2.2,z0,z1,z2,z3,z4,z5,hyv]⟩
    replace hyv:=Z_ hyv
    clear z0 z1 z2 z3 z4 z5 hy hwa hpl hnx
    refine hL.mono ?_
    rintro e w3 ⟨rfl,hb3⟩
    have A1:=A0.step hb3
    have hbr3:Below wr.heap.size wr w3:=hbA.trans (hb3.mono hbA.size)
    have A2:Kp _:=⟨A1.setLogs y⟩
    have hbr4:Kp _:=⟨Zgm hbr3 wr.heap.size (Qb _) y⟩
    have d0:=A1.cl 0 (by omega)
    have d1:=A1.cl 1 (by omega)
    have d2:=A1.cl 2 (by omega)
    have d3:=A1.cl 3 (by omega)
    have d4:=A1.cl 4 (by omega)
    have d5:=A1.cl 5 (by omega)
    have g0:=A1.f 2 (by omega)
    have g1:=A1.f 3 (by omega)
    have g2:=A1.f 4 (by omega)
    have g3:=A1.f 5 (by omega)
    have g4:=A1.f 6 (by omega)
    have g5:=A1.f 7 (by omega)
    have hl3:=A1.lt
    clear A1 A0 hb3 hbA hbr3 hL
    go_wp2_with fail
    rw[show (((((w3.setCell ⟨wr.heap.size,2,none⟩ (.string (y 0))).setCell ⟨wr.heap.size,3,none⟩ (.string (y 1))).setCell ⟨wr.heap.size,4,none⟩ (.string (y 2))).setCell ⟨wr.heap.size,5,none⟩ (.string (y 3))).setCell ⟨wr.heap.size,6,none⟩ (.string (y 4))).setCell ⟨wr.heap.size,7,none⟩ (.string (y 5))=Zq3 w3 wr.heap.size y from rfl]
    have hV:=Zfk mb n t v c T _ (Zq3 w3 wr.heap.size y) (H.out.step hbr4.out) hc hv8 Vd
    rw[hyv.out]at hV
    clear d0 d1 d2 d3 d4 d5 g0 g1 g2 g3 g4 g5 hl3
    refine hV.mono ?_
    rintro e w5 ⟨rfl,hb5⟩
    have A3:=A2.out.step hb5
    have hbr5:Below wr.heap.size wr w5:=hbr4.out.trans (hb5.mono hbr4.out.size)
    have X5:=hX.out.step hbr5
    have hB5:Below w.heap.size w w5:=hB.out.trans (hbr5.mono (by omega))
    have hx5:=X5.lt
    have ha5:=A3.lt
    have d0:=A3.c0
    have d1:=A3.c1
    have d2:=A3.cl 0 (by omega)
    have d3:=A3.cl 1 (by omega)
    have d4:=A3.cl 2 (by omega)
    have d5:=A3.cl 3 (by omega)
    have d6:=A3.cl 4 (by omega)
    have d7:=A3.cl 5 (by omega)
    have d8:=A3.cv
    have g8:=A3.f 8 (by omega)
    have r0:=X5.c0
    have r1:=X5.c1
    have r2:=X5.cl 0 (by omega)
    have r3:=X5.cl 1 (by omega)
    have r4:=X5.cl 2 (by omega)
    have r5:=X5.cl 3 (by omega)
    have r6:=X5.cl 4 (by omega)
    have r7:=X5.cl 5 (by omega)
    have r8:=X5.cv
    have f0:=X5.f 0 (by omega)
    have f1:=X5.f 1 (by omega)
    have f2:=X5.f 2 (by omega)
    have f3:=X5.f 3 (by omega)
    have f4:=X5.f 4 (by omega)
    have f5:=X5.f 5 (by omega)
    have f6:=X5.f 6 (by omega)
    have f7:=X5.f 7 (by omega)
    have f8:=X5.f 8 (by omega)
    have hne2:wr.heap.size≠xb:=by omega
    have hgw:w.heap.size<=wr.heap.size:=by omega
    clear hV hbr5 X5 A3 A2 hb5 H hX hB hbr4
    go_wp2
    exact bodyPost_ret (v:=.agg #[.int .i64 1,.int .i64 k,.string (y 0),.string (y 1),.string (y 2),.string (y 3),.string (y 4),.string (y 5),.string yv]) (by simp[results,Tryz.results26,go_sem,r0,r1,r2,r3,r4,r5,r6,r7,r8]) rfl ⟨by rw[hres.out],((((((((((hB5.setCell hgw _).setCell hwx _).setCell hwx _).setCell hwx _).setCell hwx _).setCell hwx _).setCell hwx _).setCell hwx _).setCell hwx _).setCell hwx _)⟩
  ·by_cases hkf:k<f
   ·have hki:(k:Int)<(f:Int):=by omega
    have hne:(pl != half c)=true:=QO.2 he
    have hlt:(Za6 c T k start).pl<half c:=by have:=Sd.out.r1;omega
    have hlen:Kp (∀l,((Za6 c T k start).lo l).length<=20000):=⟨λl=>by have:=Zmh c T l k start;have e:(start.lo l).length=0:=rfl;omega⟩
    have hst:=ZmU mb n t v c T h _ wr H.out F.out P Sd Vd hlt hlen
    have hnx:Kp (Za6 c T (k+1) start=Zy c T (Za6 c T k start)∧numM c T (k+1) start=k+1):=⟨Zmi (by rw[hple];exact he),Zke k start (by rw[hple];exact he)⟩
    rw[<-hnx.out.1]at hst
    have hBm:=hX.out.lt
    replace hst:=Z_ hst
    clear hlt hlen he
    go_wp2_with fail
    refine hst.out.mono ?_
    rintro e w3 ⟨rfl,H3,hb3⟩
    have hX3:Kp (ZX w3 xb 0 0 (λ_=>{data:=#[]}) {data:=#[]}):=⟨by
     have key:∀j:Nat,w3.cell? ⟨xb,j,none⟩=wr.cell? ⟨xb,j,none⟩:=λj=>hb3.cell (p:=⟨xb,j,none⟩) hxm
     exact⟨Qq hX.out.lt hb3.size,(key _).trans hX.out.c0,(key _).trans hX.out.c1,λj hj=>(key _).trans (hX.out.cl j hj),(key _).trans hX.out.cv,λj hj=>by rw[hb3.frozen (p:=⟨xb,j,none⟩) hxm];exact hX.out.f j hj⟩⟩
    have hB3:Kp (Below w.heap.size w w3):=⟨hB.out.trans (hb3.mono (by omega))⟩
    replace H3:=Z_ H3
    clear hb3 hX hB H hpl hst
    go_wp2_with fail
    go_roundw
    case rel=>exact⟨k+1,by omega,by go_num,H3,⟨hnx.out.2⟩,hX3,hB3⟩
    case measure=>simp[intOf];omega
   ·have ekf:k=f:=by omega
    subst ekf
    have hne:(pl==half c)=false:=Qf.2 he
    have hnx:Kp (endOf c T k=2∧cntOf c T k=k∧(∀l,logOf c T k l=bs ((Za6 c T k start).lo l))∧varsOf c v T k=bs (lst (Za6 c T k start).va v.size)):=⟨by
     unfold endOf cntOf logOf varsOf
     rw[hN.out,hple,if_neg he]
     exact⟨rfl,rfl,λ_=>rfl,rfl⟩⟩
    have hxl:=hX.out.lt
    have hml:=H.out.lt
    clear hN hple Sd
    go_wp2_with fail
    obtain⟨wa,hwa⟩:∃wa,wa=wr.alloc (.cells #[.int .i64 2,.int .i64 k,.string {data:=#[]},.string {data:=#[]},.string {data:=#[]},.string {data:=#[]},.string {data:=#[]},.string {data:=#[]},.string {data:=#[]}] 31):=⟨_,rfl⟩
    rw[<-hwa]
    have A0:ZX wa wr.heap.size 2 k (λ_=>{data:=#[]}) {data:=#[]}:=by rw[hwa];exact ZX.new wr _ 2 k
    have hbA:Below wr.heap.size wr wa:=by rw[hwa];exact(Qh _ _).alloc (Qb _) _
    have hL:=Zfj mb n t v c T _ wa (H.out.step hbA)
    unfold Zhu at hL
    dsimp only at hL
    obtain⟨y,hy⟩:∃y:Nat->ZB,∀j:Nat,bs ((Za6 c T k start).lo j)=y j:=⟨_,λ_=>rfl⟩
    have z0:bs ((Za6 c T k start).lo 0)=y 0:=hy 0
    have z1:bs ((Za6 c T k start).lo 1)=y 1:=hy 1
    have z2:bs ((Za6 c T k start).lo 2)=y 2:=hy 2
    have z3:bs ((Za6 c T k start).lo 3)=y 3:=hy 3
    have z4:bs ((Za6 c T k start).lo 4)=y 4:=hy 4
    have z5:bs ((Za6 c T k start).lo 5)=y 5:=hy 5
    rw[z0,z1,z2,z3,z4,z5]at hL
    obtain⟨yv,hyv⟩:∃yv,bs (lst (Za6 c T k start).va v.size)=yv:=⟨_,rfl⟩
    have hres:Kp (ZoY c v T k=.agg #[.int .i64 2,.int .i64 k,.string (y 0),.string (y 1),.string (y 2),.string (y 3),.string (y 4),.string (y 5),.string yv]):=⟨by
     unfold ZoY
     rw[hnx.out.1,hnx.out.2.1,hnx.out.2.2.1,hnx.out.2.2.1,hnx.out.2.2.1,hnx.out.2.2.1,hnx.out.2.2.1,hnx.out.2.2.1,hnx.out.2.2.2,z0,z1,z2,z3,z4,z5,hyv]⟩
    replace hyv:=Z_ hyv
    clear z0 z1 z2 z3 z4 z5 hy hwa hpl hnx
    refine hL.mono ?_
    rintro e w3 ⟨rfl,hb3⟩
    have A1:=A0.step hb3
    have hbr3:Below wr.heap.size wr w3:=hbA.trans (hb3.mono hbA.size)
    have A2:Kp _:=⟨A1.setLogs y⟩
    have hbr4:Kp _:=⟨Zgm hbr3 wr.heap.size (Qb _) y⟩
    have d0:=A1.cl 0 (by omega)
    have d1:=A1.cl 1 (by omega)
    have d2:=A1.cl 2 (by omega)
    have d3:=A1.cl 3 (by omega)
    have d4:=A1.cl 4 (by omega)
    have d5:=A1.cl 5 (by omega)
    have g0:=A1.f 2 (by omega)
    have g1:=A1.f 3 (by omega)
    have g2:=A1.f 4 (by omega)
    have g3:=A1.f 5 (by omega)
    have g4:=A1.f 6 (by omega)
    have g5:=A1.f 7 (by omega)
    have hl3:=A1.lt
    clear A1 A0 hb3 hbA hbr3 hL
    go_wp2_with fail
    rw[show (((((w3.setCell ⟨wr.heap.size,2,none⟩ (.string (y 0))).setCell ⟨wr.heap.size,3,none⟩ (.string (y 1))).setCell ⟨wr.heap.size,4,none⟩ (.string (y 2))).setCell ⟨wr.heap.size,5,none⟩ (.string (y 3))).setCell ⟨wr.heap.size,6,none⟩ (.string (y 4))).setCell ⟨wr.heap.size,7,none⟩ (.string (y 5))=Zq3 w3 wr.heap.size y from rfl]
    have hV:=Zfk mb n t v c T _ (Zq3 w3 wr.heap.size y) (H.out.step hbr4.out) hc hv8 Vd
    rw[hyv.out]at hV
    clear d0 d1 d2 d3 d4 d5 g0 g1 g2 g3 g4 g5 hl3
    refine hV.mono ?_
    rintro e w5 ⟨rfl,hb5⟩
    have A3:=A2.out.step hb5
    have hbr5:Below wr.heap.size wr w5:=hbr4.out.trans (hb5.mono hbr4.out.size)
    have X5:=hX.out.step hbr5
    have hB5:Below w.heap.size w w5:=hB.out.trans (hbr5.mono (by omega))
    have hx5:=X5.lt
    have ha5:=A3.lt
    have d0:=A3.c0
    have d1:=A3.c1
    have d2:=A3.cl 0 (by omega)
    have d3:=A3.cl 1 (by omega)
    have d4:=A3.cl 2 (by omega)
    have d5:=A3.cl 3 (by omega)
    have d6:=A3.cl 4 (by omega)
    have d7:=A3.cl 5 (by omega)
    have d8:=A3.cv
    have g8:=A3.f 8 (by omega)
    have r0:=X5.c0
    have r1:=X5.c1
    have r2:=X5.cl 0 (by omega)
    have r3:=X5.cl 1 (by omega)
    have r4:=X5.cl 2 (by omega)
    have r5:=X5.cl 3 (by omega)
    have r6:=X5.cl 4 (by omega)
    have r7:=X5.cl 5 (by omega)
    have r8:=X5.cv
    have f0:=X5.f 0 (by omega)
    have f1:=X5.f 1 (by omega)
    have f2:=X5.f 2 (by omega)
    have f3:=X5.f 3 (by omega)
    have f4:=X5.f 4 (by omega)
    have f5:=X5.f 5 (by omega)
    have f6:=X5.f 6 (by omega)
    have f7:=X5.f 7 (by omega)
    have f8:=X5.f 8 (by omega)
    have hne2:wr.heap.size≠xb:=by omega
    have hgw:w.heap.size<=wr.heap.size:=by omega
    clear hV hbr5 X5 A3 A2 hb5 H hX hB hbr4
    go_wp2
    exact bodyPost_ret (v:=.agg #[.int .i64 2,.int .i64 k,.string (y 0),.string (y 1),.string (y 2),.string (y 3),.string (y 4),.string (y 5),.string yv]) (by simp[results,Tryz.results26,go_sem,r0,r1,r2,r3,r4,r5,r6,r7,r8]) rfl ⟨by rw[hres.out],((((((((((hB5.setCell hgw _).setCell hwx _).setCell hwx _).setCell hwx _).setCell hwx _).setCell hwx _).setCell hwx _).setCell hwx _).setCell hwx _).setCell hwx _)⟩
theorem Zln{c v t:ZB}{n:Int}{h:Nat->Int}(F:Zf2 c v t n)(H:Zr c h)(nb:∀q,¬Breaks c v t n h q)(nt:∀q,¬Trap c q):Through c v t n h:=by
 have C:=F.code H
 refine⟨λi h0 h1=>(C.ins h0 h1).hi,ZbX F.ok,H,λi h0 h1 k=>(C.ins h0 h1).vr k,λi h0 h1 k=>(C.ins h0 h1).lv k,λa b d ha hb hd h1 h2=>?_,nb,nt⟩
 exact Zd1 (by rw[<-Zbo];exact F.lat.ord) a b d ha hb hd h1 h2
theorem ZoD{p:Int}(hs:s.size<=maxLen)(h:ZbS s p 0):scanE s=0∧p=0∧∃h,Through (ZQ s) (ZZ s) (fTab s) (bv s 1) h:=by
 rcases h with ⟨a,_,b⟩|⟨a,h⟩
 ·exact absurd b.symm a
 ·refine⟨a,?_⟩
  rcases h with ⟨e,_⟩|⟨nt,h⟩
  ·exact absurd e (by decide)
  ·rcases h with ⟨e,_⟩|⟨h,H,h2⟩
   ·exact absurd e (by decide)
   ·rcases h2 with ⟨e,_⟩|⟨_,hp,nb⟩
    ·exact absurd e (by decide)
    ·exact⟨hp,h,Zln (ZmB hs a) H nb nt⟩
def ZfM(s:ZB)(T:Int->ZB)(f:Int)(r:Value)(x:Int):Prop:=
 (∃p,ZbS s p x∧x≠0∧r=ZjG)∨(ZbS s 0 0∧(f<0∨20000<f)∧x=10∧r=ZjG)∨(ZbS s 0 0∧0<=f∧f<=20000∧x=0∧r=ZoY (ZQ s) (ZZ s) T f.toNat)
def Zq4(s:ZB)(T:Int->ZB)(f:Int)(w:World)(e:Ending)(w':World):Prop:=
 ∃(r:Value) (x:Int),e=.returned (.tuple #[r,.int .i64 x])∧Kp (ZfM s T f r x)∧Below w.heap.size w w'
theorem Zgn(hs:s.size<=maxLen)(h:scanE s=0):(ZZ s).size<=8∧1<=bv s 1∧bv s 1<=6∧((ZZ s).size:Int)=bv (fR1 s) 0:=by
 rcases ZcP s with ⟨_,k⟩|⟨_,_,k⟩|⟨_,_,k3,k⟩|⟨_,_,_,_,k⟩|⟨k1,k2,k3,k4,k5⟩
 ·omega
 ·omega
 ·omega
 ·omega
 ·unfold fOk Zby vOk at k2
  simp only[Qr]at k2
  obtain⟨⟨f1,_⟩,⟨f2,_⟩,_⟩:=k2
  obtain⟨_,_,a,b⟩:=ZeY f1
  obtain⟨c1,c2,c3⟩:=Zn0 f2
  have hsz:((ZZ s).size:Int)=1*bv (fR1 s) 0:=ZiP (by have:=(Zag (fR1 s) 0).1;omega) c3
  exact⟨by omega,a,b,by omega⟩
theorem Zqw{T:Int->ZB}(F:Zf2 (ZQ s) (ZZ s) (fTab s) (bv s 1))(hs:s.size<=maxLen)(h:scanE s=0)(hT:∀l:Nat,l<6->(T l).size<=maxLen):Zsj (ZQ s) (ZZ s) (bv s 1) T:=
 ⟨F.hc,F.hK,(Zgn hs h).1,(Zgn hs h).2.2.1,hT⟩
theorem ZoE(s:ZB)(T:Int->ZB)(f:Int)(w:World)(hs:s.size<=maxLen)(hT:∀l:Nat,l<6->(T l).size<=maxLen):Calls prog 9 #[.string s,Zhu T,.int .i64 f] w (Zq4 s T f w):=by
 obtain⟨w0,hw0⟩:∃w0,w0=(w.alloc (.cells #[.string (T 0),.string (T 1),.string (T 2),.string (T 3),.string (T 4),.string (T 5)] 23)).alloc (.cells #[.int .i64 0,.int .i64 0,.string {data:=#[]},.string {data:=#[]},.string {data:=#[]},.string {data:=#[]},.string {data:=#[]},.string {data:=#[]},.string {data:=#[]}] 31):=⟨_,rfl⟩
 have X0:ZX w0 (w.heap.size+1) 0 0 (λ_=>{data:=#[]}) {data:=#[]}:=by
  rw[hw0]
  have:=ZX.new (w.alloc (.cells #[.string (T 0),.string (T 1),.string (T 2),.string (T 3),.string (T 4),.string (T 5)] 23)) 31 0 0
  simpa using this
 have T0:ZbA w0 w.heap.size (λj=>T j):=by
  rw[hw0]
  exact(ZbA.new w 23 (T 0) (T 1) (T 2) (T 3) (T 4) (T 5) (f:=λj=>T j) ⟨rfl,rfl,rfl,rfl,rfl,rfl⟩).step ((Qh _ _).alloc (Qb _) _)
 have hB0:Below w.heap.size w w0:=by rw[hw0];exact((Qh _ _).alloc (Qb _) _).alloc (by simp) _
 replace hw0:=Z_ hw0
 obtain⟨xb,hxb⟩:∃xb,xb=w.heap.size+1:=⟨_,rfl⟩
 have hwx:w.heap.size<=xb:=by omega
 rw[<-hxb]at X0
 replace hxb:=Z_ hxb
 replace X0:=Z_ X0
 replace T0:=Z_ T0
 by_cases h:scanE s=0
 ·have F:Kp (Zf2 (ZQ s) (ZZ s) (fTab s) (bv s 1)):=⟨ZmB hs h⟩
  have R:Kp (Zsj (ZQ s) (ZZ s) (bv s 1) T):=⟨Zqw F.out hs h hT⟩
  replace h:=Z_ h
  replace hT:=Z_ hT
  unfold Zhu
  go_enter func9,ntmps9
  go_wp2_with fail
  rw[<-hw0.out,<-hxb.out]
  refine(ZlL s _ hs h.out).mono ?_
  rintro e w1 ⟨rfl,hb1⟩
  have hbA:Below w0.heap.size w0 (w1.alloc (.cells #[.int .i64 (bv s 1),.string (fTab s),.string (ZZ s),.string (ZQ s)] 76)):=hb1.trans (((Qh _ _).alloc (Qb _) _).mono hb1.size)
  have O1:=Own.new4 w1 (.int .i64 (bv s 1)) (.string (fTab s)) (.string (ZZ s)) (.string (ZQ s)) 76
  have hl1:=hb1.size
  go_wp2_with fail
  obtain⟨wa,hwa⟩:∃wa,wa=w1.alloc (.cells #[.int .i64 (bv s 1),.string (fTab s),.string (ZZ s),.string (ZQ s)] 76):=⟨_,rfl⟩
  rw[<-hwa]at hbA O1 ⊢
  clear hwa
  refine(Zle (bv s 1) (fTab s) (ZZ s) (ZQ s) _ F).mono ?_
  rintro e w2 ⟨p,x,rfl,hA,hb2⟩
  have hC:ZbS s p x:=.inr ⟨h.out,hA.out⟩
  have hbr:Below w0.heap.size w0 w2:=hbA.trans (hb2.mono hbA.size)
  have X2:=X0.out.step hbr
  have T2:=T0.out.step hbr
  have O2:=O1.step hb2
  have hBX:Below w.heap.size w w2:=hB0.trans (hbr.mono hB0.size)
  have hxl:=X2.lt
  have hl2:=hBX.size
  have r0:=X2.c0
  have r1:=X2.c1
  have r2:=X2.cl 0 (by omega)
  have r3:=X2.cl 1 (by omega)
  have r4:=X2.cl 2 (by omega)
  have r5:=X2.cl 3 (by omega)
  have r6:=X2.cl 4 (by omega)
  have r7:=X2.cl 5 (by omega)
  have r8:=X2.cv
  have f0:=X2.f 0 (by omega)
  have f1:=X2.f 1 (by omega)
  have f2:=X2.f 2 (by omega)
  have f3:=X2.f 3 (by omega)
  have f4:=X2.f 4 (by omega)
  have f5:=X2.f 5 (by omega)
  have f6:=X2.f 6 (by omega)
  have f7:=X2.f 7 (by omega)
  have f8:=X2.f 8 (by omega)
  by_cases hx:x=0
  ·subst hx
   obtain⟨_,rfl,hgt,P⟩:=ZoD hs hC
   replace hC:=Z_ hC
   by_cases hf:0<=f∧f<=20000
   ·obtain⟨hf0,hf1⟩:=hf
    obtain⟨k,rfl⟩:∃k:Nat,f=k:=⟨f.toNat,by omega⟩
    have hk2:k<=20000:=by omega
    have hM:=λw5=>ZoC (bv s 1) (fTab s) (ZZ s) (ZQ s) T hgt k w5 R.out ⟨P⟩ hk2
    have hans:Kp (ZfM s T k (ZoY (ZQ s) (ZZ s) T k) 0):=⟨.inr (.inr ⟨hC.out,hf0,hf1,rfl,rfl⟩)⟩
    unfold Zhu at hM
    unfold ZoY at hM hans
    generalize endOf (ZQ s) T k=en at *
    generalize cntOf (ZQ s) T k=st at *
    generalize logOf (ZQ s) T k 0=y0 at *
    generalize logOf (ZQ s) T k 1=y1 at *
    generalize logOf (ZQ s) T k 2=y2 at *
    generalize logOf (ZQ s) T k 3=y3 at *
    generalize logOf (ZQ s) T k 4=y4 at *
    generalize logOf (ZQ s) T k 5=y5 at *
    generalize varsOf (ZQ s) (ZZ s) T k=yv at *
    have t0:=T2.c 0 (by omega)
    have t1:=T2.c 1 (by omega)
    have t2:=T2.c 2 (by omega)
    have t3:=T2.c 3 (by omega)
    have t4:=T2.c 4 (by omega)
    have t5:=T2.c 5 (by omega)
    have o0:=O2.c 0 _ rfl
    have o1:=O2.c 1 _ rfl
    have o2:=O2.c 2 _ rfl
    have o3:=O2.c 3 _ rfl
    replace hM:=Z_ hM
    have X2':Kp _:=⟨X2⟩
    have hBX':Kp _:=⟨hBX⟩
    clear X2 T2 O2 hbr hb2 hb1 hbA O1 hA r0 r1 r2 r3 r4 r5 r6 r7 r8 f0 f1 f2 f3 f4 f5 f6 f7 f8 hBX P X0 T0
    go_wp2_with fail
    refine(hM.out w2).mono ?_
    rintro e w3 ⟨rfl,hb3⟩
    have X3:=X2'.out.step hb3
    have hBX:Below w.heap.size w w3:=hBX'.out.trans (hb3.mono hBX'.out.size)
    have hxl3:=X3.lt
    have r0:=X3.c0
    have r1:=X3.c1
    have r2:=X3.cl 0 (by omega)
    have r3:=X3.cl 1 (by omega)
    have r4:=X3.cl 2 (by omega)
    have r5:=X3.cl 3 (by omega)
    have r6:=X3.cl 4 (by omega)
    have r7:=X3.cl 5 (by omega)
    have r8:=X3.cv
    have f0:=X3.f 0 (by omega)
    have f1:=X3.f 1 (by omega)
    have f2:=X3.f 2 (by omega)
    have f3:=X3.f 3 (by omega)
    have f4:=X3.f 4 (by omega)
    have f5:=X3.f 5 (by omega)
    have f6:=X3.f 6 (by omega)
    have f7:=X3.f 7 (by omega)
    have f8:=X3.f 8 (by omega)
    clear X3 hb3 hM t0 t1 t2 t3 t4 t5 o0 o1 o2 o3
    go_wp2
    exact bodyPost_ret (v:=.tuple #[.agg #[.int .i64 en,.int .i64 st,.string y0,.string y1,.string y2,.string y3,.string y4,.string y5,.string yv],.int .i64 0]) (by simp[results,Tryz.results9,go_sem,r0,r1,r2,r3,r4,r5,r6,r7,r8]) rfl ⟨_,_,rfl,hans,((((((((hBX.setCell hwx _).setCell hwx _).setCell hwx _).setCell hwx _).setCell hwx _).setCell hwx _).setCell hwx _).setCell hwx _).setCell hwx _⟩
   ·have hans:Kp (ZfM s T f ZjG 10):=⟨.inr (.inl ⟨hC.out,by omega,rfl,rfl⟩)⟩
    unfold ZjG at hans
    have X2':Kp _:=⟨X2⟩
    clear X2 T2 O2 hbr hb2 hb1 hbA O1 hA P X0 T0
    by_cases hf0:f<0
    all_goals
     have hfd:¬(0<=f∧f<=20000):=hf
     clear hf
     go_wp2
     exact bodyPost_ret (v:=.tuple #[.agg #[.int .i64 0,.int .i64 0,.string {data:=#[]},.string {data:=#[]},.string {data:=#[]},.string {data:=#[]},.string {data:=#[]},.string {data:=#[]},.string {data:=#[]}],.int .i64 10]) (by simp[results,Tryz.results9,go_sem,r0,r1,r2,r3,r4,r5,r6,r7,r8]) rfl ⟨_,_,rfl,hans,((((((((hBX.setCell hwx _).setCell hwx _).setCell hwx _).setCell hwx _).setCell hwx _).setCell hwx _).setCell hwx _).setCell hwx _).setCell hwx _⟩
  ·have hk:(x != 0)=true:=QO.2 hx
   have hans:Kp (ZfM s T f ZjG x):=⟨.inl ⟨p,hC,hx,rfl⟩⟩
   unfold ZjG at hans
   clear X2 T2 O2 hbr hb2 hb1 hbA O1 hA X0 T0 hC
   go_wp2
   exact bodyPost_ret (v:=.tuple #[.agg #[.int .i64 0,.int .i64 0,.string {data:=#[]},.string {data:=#[]},.string {data:=#[]},.string {data:=#[]},.string {data:=#[]},.string {data:=#[]},.string {data:=#[]}],.int .i64 x]) (by simp[results,Tryz.results9,go_sem,r0,r1,r2,r3,r4,r5,r6,r7,r8]) rfl ⟨_,_,rfl,hans,((((((((hBX.setCell hwx _).setCell hwx _).setCell hwx _).setCell hwx _).setCell hwx _).setCell hwx _).setCell hwx _).setCell hwx _).setCell hwx _⟩
 ·have hk:(scanE s != 0)=true:=QO.2 h
  have hans:Kp (ZfM s T f ZjG (scanE s)):=⟨.inl ⟨0,.inl ⟨h,rfl,rfl⟩,h,rfl⟩⟩
  unfold ZjG at hans
  have hO:=λw1=>ZnL s w1 hs h
  replace h:=Z_ h
  generalize scanE s=er at *
  replace hO:=Z_ hO
  unfold Zhu
  go_enter func9,ntmps9
  go_wp2_with fail
  rw[<-hw0.out,<-hxb.out]
  refine(hO.out _).mono ?_
  rintro e w1 ⟨rfl,hb1⟩
  have hbr:Below w0.heap.size w0 (w1.alloc (.cells #[.int .i64 0,.string {data:=#[]},.string {data:=#[]},.string {data:=#[]}] 76)):=hb1.trans (((Qh _ _).alloc (Qb _) _).mono hb1.size)
  have X1:=X0.out.step hb1
  have hBX:Below w.heap.size w w1:=hB0.trans (hb1.mono hB0.size)
  have hlw:=hBX.size
  have hxl:=X1.lt
  have r0:=X1.c0
  have r1:=X1.c1
  have r2:=X1.cl 0 (by omega)
  have r3:=X1.cl 1 (by omega)
  have r4:=X1.cl 2 (by omega)
  have r5:=X1.cl 3 (by omega)
  have r6:=X1.cl 4 (by omega)
  have r7:=X1.cl 5 (by omega)
  have r8:=X1.cv
  have f0:=X1.f 0 (by omega)
  have f1:=X1.f 1 (by omega)
  have f2:=X1.f 2 (by omega)
  have f3:=X1.f 3 (by omega)
  have f4:=X1.f 4 (by omega)
  have f5:=X1.f 5 (by omega)
  have f6:=X1.f 6 (by omega)
  have f7:=X1.f 7 (by omega)
  have f8:=X1.f 8 (by omega)
  clear X1 hbr hb1 X0 T0 hO
  go_wp2
  exact bodyPost_ret (v:=.tuple #[.agg #[.int .i64 0,.int .i64 0,.string {data:=#[]},.string {data:=#[]},.string {data:=#[]},.string {data:=#[]},.string {data:=#[]},.string {data:=#[]},.string {data:=#[]}],.int .i64 er]) (by simp[results,Tryz.results9,go_sem,hxl,r0,r1,r2,r3,r4,r5,r6,r7,r8]) rfl ⟨_,_,rfl,hans,(((((((((hBX.setCell hwx _).setCell hwx _).setCell hwx _).setCell hwx _).setCell hwx _).setCell hwx _).setCell hwx _).setCell hwx _).setCell hwx _).alloc (by simp;omega) _⟩
end Go.Proofs.YtcnbifdlkalimabGreat
