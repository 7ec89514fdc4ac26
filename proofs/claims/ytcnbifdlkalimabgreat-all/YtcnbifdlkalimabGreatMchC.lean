/- Lemmas; their conditions stand in each. -/
import Derived.Test.YtcnbifdlkalimabGreatMchB
import Derived.Test.YtcnbifdlkalimabGreatLabM
namespace Go.Proofs.YtcnbifdlkalimabGreat
open Go.RowKit Go.Proofs.Tryz
set_option linter.all false
set_option maxRecDepth 100000
variable{en st:Int}{g:Nat}{lg:Nat->ZB}{w:World}{s vs:ZB}
def Ey(n:Int)(t v c:ZB)(T:Int->ZB)(j:Nat):Value:=
 if j=0 then .int .i64 n else if j=1 then .string t else if j=2 then .string v else if j=3 then .string c
 else if j<10 then .string (T ((j:Int)-4)) else if j<34 then .int .i64 0 else .slice none 0 0
theorem YK(n:Int)(t v c:ZB)(T:Int->ZB):prog.built 155 [(0,.agg #[.int .i64 n,.string t,.string v,.string c]),(1,.agg #[.string (T 0),.string (T 1),.string (T 2),.string (T 3),.string (T 4),.string (T 5)])]=some (Bg 40 (Ey n t v c T)):=by kernel_rfl
theorem Zrc(n:Int)(t v c:ZB)(T:Int->ZB)(j:Nat):(Ey n t v c T j).oneCell'=true:=by
 unfold Ey;repeat (split;rfl)
 rfl
theorem YL{b:Nat}(h:Bk w b 40)(n:Int)(t v c:ZB)(T:Int->ZB):ZF (w.setCells b 0 (Bg 40 (Ey n t v c T)).toList) b n t v c T start:=by
 have e:∀j,j<40->(w.setCells b 0 (Bg 40 (Ey n t v c T)).toList).cell? ⟨b,j,none⟩=some (Ey n t v c T j):=λj a=>by
  have:=ZE w b 0 40 (Ey n t v c T) h.c j a
  rwa [QT]at this
 refine⟨by have:=(Z6 (AG.refl b 0 w) (Bg 40 (Ey n t v c T)).toList 0).size;exact Qq h.lt this,e 0 (by omega),e 1 (by omega),e 2 (by omega),e 3 (by omega),λj a=>?_,?_,λj a=>?_,?_,λj a=>?_,λj a=>?_,⟨λ_=>.slice none 0 0,λj a=>?_,λj a=>?_,λi j k a d=>.inl rfl⟩,λj a=>?_⟩
 ·rw[e (4+j) (by omega)];unfold Ey;rw[if_neg (by omega),if_neg (by omega),if_neg (by omega),if_neg (by omega),if_pos (by omega),show ((4+j:Nat):Int)-4=(j:Int) from by omega]
 ·exact e 10 (by omega)
 ·rw[e (11+j) (by omega)];unfold Ey;rw[if_neg (by omega),if_neg (by omega),if_neg (by omega),if_neg (by omega),if_neg (by omega),if_pos (by omega)];rfl
 ·exact e 19 (by omega)
 ·rw[e (20+j) (by omega)];unfold Ey;rw[if_neg (by omega),if_neg (by omega),if_neg (by omega),if_neg (by omega),if_neg (by omega),if_pos (by omega)];rfl
 ·rw[e (28+j) (by omega)];unfold Ey;rw[if_neg (by omega),if_neg (by omega),if_neg (by omega),if_neg (by omega),if_neg (by omega),if_pos (by omega)];show _=some (Value.int .i64 ((min 0 (T j).size:Nat):Int));rw[Nat.zero_min];rfl
 ·rw[e (34+j) (by omega)];unfold Ey;rw[if_neg (by omega),if_neg (by omega),if_neg (by omega),if_neg (by omega),if_neg (by omega),if_neg (by omega)]
 ·exact Uq _ _ _ _
 ·have:=h.f j a;rw[QT]at this;rw[QQ];exact this
def GD(w:World)(n:Int)(t v c:ZB)(T:Int->ZB):World:=(((w.alloc (.cells #[.int .i64 n,.string t,.string v,.string c] 76)).alloc (.cells #[.string (T 0),.string (T 1),.string (T 2),.string (T 3),.string (T 4),.string (T 5)] 23)).alloc (.cells #[.int .i64 0,.int .i64 0,.string {data:=#[]},.string {data:=#[]},.string {data:=#[]},.string {data:=#[]},.string {data:=#[]},.string {data:=#[]},.string {data:=#[]}] 31)).alloc (.cells #[.int .i64 0,.string {data:=#[]},.string {data:=#[]},.string {data:=#[]},.string {data:=#[]},.string {data:=#[]},.string {data:=#[]},.string {data:=#[]},.string {data:=#[]},.string {data:=#[]},.int .i64 0,.int .i64 0,.int .i64 0,.int .i64 0,.int .i64 0,.int .i64 0,.int .i64 0,.int .i64 0,.int .i64 0,.int .i64 0,.int .i64 0,.int .i64 0,.int .i64 0,.int .i64 0,.int .i64 0,.int .i64 0,.int .i64 0,.int .i64 0,.int .i64 0,.int .i64 0,.int .i64 0,.int .i64 0,.int .i64 0,.int .i64 0,.slice none 0 0,.slice none 0 0,.slice none 0 0,.slice none 0 0,.slice none 0 0,.slice none 0 0] 155)
theorem YM(w:World)(a:Array Value)(t:TypeId)(b k:Nat)(c:b=w.heap.size)(d:a.size=k):Bk (w.alloc (.cells a t)) b k:=by subst c;exact Bk.of_row (heap_alloc_last w _) d
structure ZX(w:World)(g:Nat)(en st:Int)(lg:Nat->ZB)(vs:ZB):Prop where
 lt:g<w.heap.size
 c0:w.cell? ⟨g,0,none⟩=some (.int .i64 en)
 c1:w.cell? ⟨g,1,none⟩=some (.int .i64 st)
 cl:∀j:Nat,j<6->w.cell? ⟨g,2+j,none⟩=some (.string (lg j))
 cv:w.cell? ⟨g,8,none⟩=some (.string vs)
 f:∀j:Nat,j<9->w.frozen? ⟨g,j,none⟩=false
theorem ZX.step{w1:World}(H:ZX w g en st lg vs)(b:Below w.heap.size w w1):ZX w1 g en st lg vs:=by have a:∀k:Nat,w1.cell? ⟨g,k,none⟩=w.cell? ⟨g,k,none⟩:=λk=>b.cell (p:=⟨g,k,none⟩) H.lt;exact⟨Qq H.lt b.size,(a _).trans H.c0,(a _).trans H.c1,λj c=>(a _).trans (H.cl j c),(a _).trans H.cv,λj c=>by rw[b.frozen (p:=⟨g,j,none⟩) H.lt];exact H.f j c⟩
theorem ZX.but{w1:World}{b:Nat}(H:ZX w g en st lg vs)(d:AG b w.heap.size w w1)(c:g≠b):ZX w1 g en st lg vs:=by have a:∀k:Nat,w1.cell? ⟨g,k,none⟩=w.cell? ⟨g,k,none⟩:=λk=>d.cell (p:=⟨g,k,none⟩) H.lt c;exact⟨Qq H.lt d.size,(a _).trans H.c0,(a _).trans H.c1,λj e=>(a _).trans (H.cl j e),(a _).trans H.cv,λj e=>by rw[d.frozen (p:=⟨g,j,none⟩) H.lt c];exact H.f j e⟩
theorem ZX.new(w:World)(t:TypeId)(en st:Int):ZX (w.alloc (.cells #[.int .i64 en,.int .i64 st,.string {data:=#[]},.string {data:=#[]},.string {data:=#[]},.string {data:=#[]},.string {data:=#[]},.string {data:=#[]},.string {data:=#[]}] t)) w.heap.size en st (λ_=>{data:=#[]}) {data:=#[]}:=by
 refine⟨by simp,by simp[go_sem],by simp[go_sem],λj a=>?_,by simp[go_sem],λj a=>?_⟩
 ·match j with
  | 0=>simp[go_sem]
  | 1=>simp[go_sem]
  | 2=>simp[go_sem]
  | 3=>simp[go_sem]
  | 4=>simp[go_sem]
  | 5=>simp[go_sem]
  | j+6=>omega
 ·simp[go_sem]
theorem ZX.setVars(H:ZX w g en st lg vs)(x:ZB):ZX (w.setCell ⟨g,8,none⟩ (.string x)) g en st lg x:=by have a:∀k:Nat,k≠8->(w.setCell ⟨g,8,none⟩ (.string x)).cell? ⟨g,k,none⟩=w.cell? ⟨g,k,none⟩:=λk c=>Z1 _ _ _ _ _ (by omega);exact⟨by simpa using H.lt,(a _ (by omega)).trans H.c0,(a _ (by omega)).trans H.c1,λj b=>(a _ (by omega)).trans (H.cl j b),World.cell?_setCell_same _ _ _ H.cv,λj b=>by rw[World.frozen?_setCell];exact H.f j b⟩
theorem ZX.setLog{k:Nat}(H:ZX w g en st lg vs)(d:k<6)(x:ZB):ZX (w.setCell ⟨g,2+k,none⟩ (.string x)) g en st (λj=>if j=k then x else lg j) vs:=by
 have a:∀i:Nat,i≠2+k->(w.setCell ⟨g,2+k,none⟩ (.string x)).cell? ⟨g,i,none⟩=w.cell? ⟨g,i,none⟩:=λi c=>Z1 _ _ _ _ _ (by omega);refine⟨by simpa using H.lt,(a _ (by omega)).trans H.c0,(a _ (by omega)).trans H.c1,λj b=>?_,(a _ (by omega)).trans H.cv,λj b=>by rw[World.frozen?_setCell];exact H.f j b⟩;by_cases e:j=k
 ·subst e;rw[Qk _ _ _ (H.cl j b),if_pos rfl]
 ·rw[a _ (by omega),if_neg e];exact H.cl j b
def Jx(w:World)(g:Nat)(y:Nat->ZB):World:=(((((w.setCell ⟨g,2,none⟩ (.string (y 0))).setCell ⟨g,3,none⟩ (.string (y 1))).setCell ⟨g,4,none⟩ (.string (y 2))).setCell ⟨g,5,none⟩ (.string (y 3))).setCell ⟨g,6,none⟩ (.string (y 4))).setCell ⟨g,7,none⟩ (.string (y 5))
theorem ZX.setAt{k p:Nat}(H:ZX w g en st lg vs)(a:k<6)(b:p=2+k)(x:ZB):ZX (w.setCell ⟨g,p,none⟩ (.string x)) g en st (λj=>if j=k then x else lg j) vs:=by subst b;exact H.setLog a x
theorem ZX.same{a:Nat->ZB}(H:ZX w g en st lg vs)(h:∀j,j<6->lg j=a j):ZX w g en st a vs:=
 ⟨H.lt,H.c0,H.c1,λj b=>by rw[<-h j b];exact H.cl j b,H.cv,H.f⟩
theorem ZX.setLogs(H:ZX w g en st lg vs)(y:Nat->ZB):ZX (Jx w g y) g en st y vs:=by
 have a:=H.setAt (k:=0) (p:=2) (by omega) rfl (y 0);have b:=a.setAt (k:=1) (p:=3) (by omega) rfl (y 1);have c:=b.setAt (k:=2) (p:=4) (by omega) rfl (y 2);have d:=c.setAt (k:=3) (p:=5) (by omega) rfl (y 3);have e:=d.setAt (k:=4) (p:=6) (by omega) rfl (y 4);have f:=e.setAt (k:=5) (p:=7) (by omega) rfl (y 5);unfold Jx;refine f.same λj q=>?_;by_cases o:j=5
 ·subst o;simp
 by_cases n:j=4
 ·subst n;simp
 by_cases m:j=3
 ·subst m;simp
 by_cases l:j=2
 ·subst l;simp
 by_cases i:j=1
 ·subst i;simp
 have h:j=0:=by omega
 subst h;simp
theorem RD{B:Nat}{x:World}(h:Below B x w)(g:Nat)(a:B<=g)(y:Nat->ZB):Below B x (Jx w g y):=
 (((((h.setCell a _).setCell a _).setCell a _).setCell a _).setCell a _).setCell a _
theorem OR{c:ZB}{T:Int->ZB}:∀(k:Nat) (m:BC),(Me c T k m).pl≠half c->numM c T (k+1) m=k+1
 | 0,m,h=>by have a:m.pl≠half c:=h;rw[MF a];rfl
 | k+1,m,h=>by
  by_cases e:m.pl=half c
  ·rw[IS e]at h;exact absurd e h
  ·rw[Ii e]at h;rw[MF e,OR k _ h]
set_option maxHeartbeats 6400000
theorem Zpi(n:Int)(t v c:ZB)(T:Int->ZB)(h:Nat->Int)(f:Nat)(w:World)(F:Kv c v n T)(P:Kp (Bu c v t n h))(hf:f<=20000) :
  Calls prog 26 #[.agg #[.int .i64 n,.string t,.string v,.string c],EC T,.int .i64 f] w λe w'=>e=.returned (Fz c v T f)∧Below w.heap.size w w':=by
 have hc:=F.hc;have hK:=F.hK;have ap:=F.hv;have hh:=(Zn c).1;have aA:(GD w n t v c T).heap.size=w.heap.size+4:=by unfold GD;simp
 have J:Bk (GD w n t v c T) (w.heap.size+1+1+1) 40:=YM _ _ _ _ _ (by simp) rfl;have ak:AF (GD w n t v c T) w.heap.size [.int .i64 n,.string t,.string v,.string c]:=(((AF.new4 w _ _ _ _ _).alloc _).alloc _).alloc _;have al:ZX (GD w n t v c T) (w.heap.size+1+1) 0 0 (λ_=>{data:=#[]}) {data:=#[]}:=by have:=(ZX.new (en:=0) (st:=0) ((w.alloc (.cells #[.int .i64 n,.string t,.string v,.string c] 76)).alloc (.cells #[.string (T 0),.string (T 1),.string (T 2),.string (T 3),.string (T 4),.string (T 5)] 23)) 31).step ((Qh _ _).alloc (Qb _) (.cells #[.int .i64 0,.string {data:=#[]},.string {data:=#[]},.string {data:=#[]},.string {data:=#[]},.string {data:=#[]},.string {data:=#[]},.string {data:=#[]},.string {data:=#[]},.string {data:=#[]},.int .i64 0,.int .i64 0,.int .i64 0,.int .i64 0,.int .i64 0,.int .i64 0,.int .i64 0,.int .i64 0,.int .i64 0,.int .i64 0,.int .i64 0,.int .i64 0,.int .i64 0,.int .i64 0,.int .i64 0,.int .i64 0,.int .i64 0,.int .i64 0,.int .i64 0,.int .i64 0,.int .i64 0,.int .i64 0,.int .i64 0,.int .i64 0,.slice none 0 0,.slice none 0 0,.slice none 0 0,.slice none 0 0,.slice none 0 0,.slice none 0 0] 155));unfold GD;simpa using this
 have ad:Below w.heap.size w (GD w n t v c T):=((((Qh _ _).alloc (Qb _) _).alloc (by simp) _).alloc (by simp;omega) _).alloc (by simp;omega) _;obtain⟨w1,K⟩:∃w1,w1=(GD w n t v c T).setCells (w.heap.size+1+1+1) 0 (Bg 40 (Ey n t v c T)).toList:=⟨_,rfl⟩
 have N:AG (w.heap.size+1+1+1) (GD w n t v c T).heap.size (GD w n t v c T) w1:=by rw[K];exact Z6 (AG.refl _ _ _) _ _
 have H1:ZF w1 (w.heap.size+1+1+1) n t v c T start:=by rw[K];exact YL J n t v c T
 have S:=al.but N (by omega);have R:=ak.but N (by omega);have O:Below w.heap.size w w1:=ad.trans ((N.mono ad.size).below (by omega));replace K:=Z_ K;have q0:=R.c 0 _ rfl;have q1:=R.c 1 _ rfl;have q2:=R.c 2 _ rfl;have q3:=R.c 3 _ rfl;replace H1:=Z_ H1;replace S:=Z_ S;replace O:=Z_ O;replace J:=Z_ J;have hb:=YK n t v c T;replace hb:=Z_ hb;clear ak R al ad N;replace F:=Z_ F;unfold EC;go_in;iterate 24 go_step
 refine IP 155 #[(0,.tmp 11),(1,.tmp 12)] rfl (Bg 40 (Ey n t v c T)) ?hf ?_;case hf=>exact(congrArg (Program.built prog 155) (by simp[Act.eval])).trans hb.o
 iterate 5 go_step
 refine Zp 155 (.tmp 7) (.tmp 13) rfl (w.heap.size+1+1+1) 0 40 (Ey n t v c T) rfl rfl (by kernel_rfl) J.o.c J.o.f (λj _=>Zrc _ _ _ _ _ j) ?_;rw[show (((w.alloc (.cells #[.int .i64 n,.string t,.string v,.string c] 76)).alloc (.cells #[.string (T 0),.string (T 1),.string (T 2),.string (T 3),.string (T 4),.string (T 5)] 23)).alloc (.cells #[.int .i64 0,.int .i64 0,.string {data:=#[]},.string {data:=#[]},.string {data:=#[]},.string {data:=#[]},.string {data:=#[]},.string {data:=#[]},.string {data:=#[]}] 31)).alloc (.cells #[.int .i64 0,.string {data:=#[]},.string {data:=#[]},.string {data:=#[]},.string {data:=#[]},.string {data:=#[]},.string {data:=#[]},.string {data:=#[]},.string {data:=#[]},.string {data:=#[]},.int .i64 0,.int .i64 0,.int .i64 0,.int .i64 0,.int .i64 0,.int .i64 0,.int .i64 0,.int .i64 0,.int .i64 0,.int .i64 0,.int .i64 0,.int .i64 0,.int .i64 0,.int .i64 0,.int .i64 0,.int .i64 0,.int .i64 0,.int .i64 0,.int .i64 0,.int .i64 0,.int .i64 0,.int .i64 0,.int .i64 0,.int .i64 0,.slice none 0 0,.slice none 0 0,.slice none 0 0,.slice none 0 0,.slice none 0 0,.slice none 0 0] 155)=GD w n t v c T from rfl,<-K.o];dsimp only [Act.put];clear J K aA hb;obtain⟨mb,ah⟩:∃mb,mb=w.heap.size+1+1+1:=⟨_,rfl⟩
 obtain⟨M,ai⟩:∃M,M=w.heap.size+1+1:=⟨_,rfl⟩
 rw[<-ah,<-ai];rw[<-ah]at H1;rw[<-ai]at S;have d:w.heap.size<=M:=by omega
 have aq:M<mb:=by omega
 clear ah ai;go_wp2_with fail;refine(ZY n t v c _ hc).mono ?_;rintro e w2 ⟨rfl,X⟩;have H2:Kp _:=⟨H1.o.step X⟩
 have am:Kp _:=⟨S.o.step X⟩
 have aj:Kp _:=⟨O.o.trans (X.mono O.o.size)⟩
 clear H1 S O X q0 q1 q2 q3;go_wp2_with fail;go_loopw [9] (λsv wr=>∃k:Nat,k<=f∧sv=.int .i64 k∧Kp (ZF wr mb n t v c T (Me c T k start))∧Kp (numM c T k start=k)∧Kp (ZX wr M 0 0 (λ_=>{data:=#[]}) {data:=#[]})∧Kp (Below w.heap.size w wr)) (λsv _=>f-(intOf sv).toNat);case atStart=>exact⟨0,by omega,rfl,H2,⟨rfl⟩,am,aj⟩
 case round=>
  clear H2 am aj;obtain⟨k,hk,rfl,H,hN,I,N⟩:=hrel;have Z:=H.o.pl;obtain⟨Sd,Vd,_⟩:=Od (T:=T) P.o k start (Ru P.o) RO;obtain⟨pl,u⟩:∃pl,(Me c T k start).pl=pl:=⟨_,rfl⟩
  rw[u]at Z;replace Sd:=Z_ Sd;replace Vd:=Z_ Vd;by_cases Y:pl=half c
  ·have a:Kp (Df c T f=1∧De c T f=k∧(∀l,BM c T f l=bs ((Me c T k start).lo l))∧Cz c v T f=bs (CM (Me c T k start).va v.size)):=⟨by
    obtain⟨r1,r2⟩:=SA (T:=T) (m:=start) (k:=k) (by rw[u];exact Y) f hk;unfold Df De BM Cz;rw[r1,r2,hN.o,u,if_pos Y];exact⟨rfl,rfl,λ_=>rfl,rfl⟩⟩
   subst Y;have aF:(half c != half c)=false:=by simp
   have aC:=I.o.lt;have ay:=H.o.lt;by_cases ax:k<f;all_goals
    clear hN u Sd;go_wp2_with fail;obtain⟨W,B⟩:∃W,W=wr.alloc (.cells #[.int .i64 1,.int .i64 k,.string {data:=#[]},.string {data:=#[]},.string {data:=#[]},.string {data:=#[]},.string {data:=#[]},.string {data:=#[]},.string {data:=#[]}] 31):=⟨_,rfl⟩
    rw[<-B];have A0:ZX W wr.heap.size 1 k (λ_=>{data:=#[]}) {data:=#[]}:=by rw[B];exact ZX.new wr _ 1 k
    have A:Below wr.heap.size wr W:=by rw[B];exact(Qh _ _).alloc (Qb _) _
    have Q:=Rn mb n t v c T _ W (H.o.step A);unfold EC at Q;dsimp only at Q;obtain⟨y,G⟩:∃y:Nat->ZB,∀j:Nat,bs ((Me c T k start).lo j)=y j:=⟨_,λ_=>rfl⟩
    have z0:bs ((Me c T k start).lo 0)=y 0:=G 0;have z1:bs ((Me c T k start).lo 1)=y 1:=G 1;have z2:bs ((Me c T k start).lo 2)=y 2:=G 2;have z3:bs ((Me c T k start).lo 3)=y 3:=G 3;have z4:bs ((Me c T k start).lo 4)=y 4:=G 4;have z5:bs ((Me c T k start).lo 5)=y 5:=G 5;rw[z0,z1,z2,z3,z4,z5]at Q;obtain⟨yv,C⟩:∃yv,bs (CM (Me c T k start).va v.size)=yv:=⟨_,rfl⟩
    have U:Kp (Fz c v T f=.agg #[.int .i64 1,.int .i64 k,.string (y 0),.string (y 1),.string (y 2),.string (y 3),.string (y 4),.string (y 5),.string yv]):=⟨by
     unfold Fz;rw[a.o.1,a.o.2.1,a.o.2.2.1,a.o.2.2.1,a.o.2.2.1,a.o.2.2.1,a.o.2.2.1,a.o.2.2.1,a.o.2.2.2,z0,z1,z2,z3,z4,z5,C]⟩
    replace C:=Z_ C;clear z0 z1 z2 z3 z4 z5 G B Z a;refine Q.mono ?_;rintro e L ⟨rfl,r⟩;have i:=A0.step r;have D:Below wr.heap.size wr L:=A.trans (r.mono A.size);have A2:Kp _:=⟨i.setLogs y⟩
    have q:Kp _:=⟨RD D wr.heap.size (Qb _) y⟩
    have d0:=i.cl 0 (by omega);have d1:=i.cl 1 (by omega);have d2:=i.cl 2 (by omega);have d3:=i.cl 3 (by omega);have d4:=i.cl 4 (by omega);have d5:=i.cl 5 (by omega);have g0:=i.f 2 (by omega);have g1:=i.f 3 (by omega);have g2:=i.f 4 (by omega);have g3:=i.f 5 (by omega);have g4:=i.f 6 (by omega);have g5:=i.f 7 (by omega);have ag:=i.lt;clear i A0 r A D Q;go_wp2_with fail;rw[show (((((L.setCell ⟨wr.heap.size,2,none⟩ (.string (y 0))).setCell ⟨wr.heap.size,3,none⟩ (.string (y 1))).setCell ⟨wr.heap.size,4,none⟩ (.string (y 2))).setCell ⟨wr.heap.size,5,none⟩ (.string (y 3))).setCell ⟨wr.heap.size,6,none⟩ (.string (y 4))).setCell ⟨wr.heap.size,7,none⟩ (.string (y 5))=Jx L wr.heap.size y from rfl];have hV:=Ro mb n t v c T _ (Jx L wr.heap.size y) (H.o.step q.o) hc ap Vd;rw[C.o]at hV;clear d0 d1 d2 d3 d4 d5 g0 g1 g2 g3 g4 g5 ag;refine hV.mono ?_;rintro e w5 ⟨rfl,E⟩;have x:=A2.o.step E;have z:Below wr.heap.size wr w5:=q.o.trans (E.mono q.o.size);have b:=I.o.step z;have ae:Below w.heap.size w w5:=N.o.trans (z.mono (by omega));have aB:=b.lt;have aw:=x.lt;have d0:=x.c0;have d1:=x.c1;have d2:=x.cl 0 (by omega);have d3:=x.cl 1 (by omega);have d4:=x.cl 2 (by omega);have d5:=x.cl 3 (by omega);have d6:=x.cl 4 (by omega);have d7:=x.cl 5 (by omega);have d8:=x.cv;have g8:=x.f 8 (by omega);have r0:=b.c0;have r1:=b.c1;have r2:=b.cl 0 (by omega);have r3:=b.cl 1 (by omega);have r4:=b.cl 2 (by omega);have r5:=b.cl 3 (by omega);have r6:=b.cl 4 (by omega);have r7:=b.cl 5 (by omega);have r8:=b.cv;have f0:=b.f 0 (by omega);have f1:=b.f 1 (by omega);have f2:=b.f 2 (by omega);have f3:=b.f 3 (by omega);have f4:=b.f 4 (by omega);have f5:=b.f 5 (by omega);have f6:=b.f 6 (by omega);have f7:=b.f 7 (by omega);have f8:=b.f 8 (by omega);have ao:wr.heap.size≠M:=by omega
    have af:w.heap.size<=wr.heap.size:=by omega
    clear hV z b x A2 E H I N q;go_wp2;exact bodyPost_ret (v:=.agg #[.int .i64 1,.int .i64 k,.string (y 0),.string (y 1),.string (y 2),.string (y 3),.string (y 4),.string (y 5),.string yv]) (by simp[results,Tryz.results26,go_sem,r0,r1,r2,r3,r4,r5,r6,r7,r8]) rfl ⟨by rw[U.o],((((((((((ae.setCell af _).setCell d _).setCell d _).setCell d _).setCell d _).setCell d _).setCell d _).setCell d _).setCell d _).setCell d _)⟩
  ·by_cases ax:k<f
   ·have aE:(k:Int)<(f:Int):=by omega
    have az:(pl != half c)=true:=QO.2 Y;have an:(Me c T k start).pl<half c:=by have:=Sd.o.r1;omega
    have ab:Kp (∀l,((Me c T k start).lo l).length<=20000):=⟨λl=>by have:=Pt c T l k start;have e:(start.lo l).length=0:=rfl;omega⟩
    have V:=YH mb n t v c T h _ wr H.o F.o P Sd Vd an ab;have a:Kp (Me c T (k+1) start=Zz c T (Me c T k start)∧numM c T (k+1) start=k+1):=⟨Sz (by rw[u];exact Y),OR k start (by rw[u];exact Y)⟩
    rw[<-a.o.1]at V;have aD:=I.o.lt;replace V:=Z_ V;clear an ab Y;go_wp2_with fail;refine V.o.mono ?_;rintro e L ⟨rfl,H3,r⟩;have av:Kp (ZX L M 0 0 (λ_=>{data:=#[]}) {data:=#[]}):=⟨by
     have aa:∀j:Nat,L.cell? ⟨M,j,none⟩=wr.cell? ⟨M,j,none⟩:=λj=>r.cell (p:=⟨M,j,none⟩) aq;exact⟨Qq I.o.lt r.size,(aa _).trans I.o.c0,(aa _).trans I.o.c1,λj hj=>(aa _).trans (I.o.cl j hj),(aa _).trans I.o.cv,λj hj=>by rw[r.frozen (p:=⟨M,j,none⟩) aq];exact I.o.f j hj⟩⟩
    have au:Kp (Below w.heap.size w L):=⟨N.o.trans (r.mono (by omega))⟩
    replace H3:=Z_ H3;clear r I N H Z V;go_wp2_with fail;go_roundw;case rel=>exact⟨k+1,by omega,by go_num,H3,⟨a.o.2⟩,av,au⟩
    case measure=>simp[intOf];omega
   ·have ar:k=f:=by omega
    subst ar;have az:(pl==half c)=false:=Qf.2 Y;have a:Kp (Df c T k=2∧De c T k=k∧(∀l,BM c T k l=bs ((Me c T k start).lo l))∧Cz c v T k=bs (CM (Me c T k start).va v.size)):=⟨by
     unfold Df De BM Cz;rw[hN.o,u,if_neg Y];exact⟨rfl,rfl,λ_=>rfl,rfl⟩⟩
    have aC:=I.o.lt;have ay:=H.o.lt;clear hN u Sd;go_wp2_with fail;obtain⟨W,B⟩:∃W,W=wr.alloc (.cells #[.int .i64 2,.int .i64 k,.string {data:=#[]},.string {data:=#[]},.string {data:=#[]},.string {data:=#[]},.string {data:=#[]},.string {data:=#[]},.string {data:=#[]}] 31):=⟨_,rfl⟩
    rw[<-B];have A0:ZX W wr.heap.size 2 k (λ_=>{data:=#[]}) {data:=#[]}:=by rw[B];exact ZX.new wr _ 2 k
    have A:Below wr.heap.size wr W:=by rw[B];exact(Qh _ _).alloc (Qb _) _
    have Q:=Rn mb n t v c T _ W (H.o.step A);unfold EC at Q;dsimp only at Q;obtain⟨y,G⟩:∃y:Nat->ZB,∀j:Nat,bs ((Me c T k start).lo j)=y j:=⟨_,λ_=>rfl⟩
    have z0:bs ((Me c T k start).lo 0)=y 0:=G 0;have z1:bs ((Me c T k start).lo 1)=y 1:=G 1;have z2:bs ((Me c T k start).lo 2)=y 2:=G 2;have z3:bs ((Me c T k start).lo 3)=y 3:=G 3;have z4:bs ((Me c T k start).lo 4)=y 4:=G 4;have z5:bs ((Me c T k start).lo 5)=y 5:=G 5;rw[z0,z1,z2,z3,z4,z5]at Q;obtain⟨yv,C⟩:∃yv,bs (CM (Me c T k start).va v.size)=yv:=⟨_,rfl⟩
    have U:Kp (Fz c v T k=.agg #[.int .i64 2,.int .i64 k,.string (y 0),.string (y 1),.string (y 2),.string (y 3),.string (y 4),.string (y 5),.string yv]):=⟨by
     unfold Fz;rw[a.o.1,a.o.2.1,a.o.2.2.1,a.o.2.2.1,a.o.2.2.1,a.o.2.2.1,a.o.2.2.1,a.o.2.2.1,a.o.2.2.2,z0,z1,z2,z3,z4,z5,C]⟩
    replace C:=Z_ C;clear z0 z1 z2 z3 z4 z5 G B Z a;refine Q.mono ?_;rintro e L ⟨rfl,r⟩;have i:=A0.step r;have D:Below wr.heap.size wr L:=A.trans (r.mono A.size);have A2:Kp _:=⟨i.setLogs y⟩
    have q:Kp _:=⟨RD D wr.heap.size (Qb _) y⟩
    have d0:=i.cl 0 (by omega);have d1:=i.cl 1 (by omega);have d2:=i.cl 2 (by omega);have d3:=i.cl 3 (by omega);have d4:=i.cl 4 (by omega);have d5:=i.cl 5 (by omega);have g0:=i.f 2 (by omega);have g1:=i.f 3 (by omega);have g2:=i.f 4 (by omega);have g3:=i.f 5 (by omega);have g4:=i.f 6 (by omega);have g5:=i.f 7 (by omega);have ag:=i.lt;clear i A0 r A D Q;go_wp2_with fail;rw[show (((((L.setCell ⟨wr.heap.size,2,none⟩ (.string (y 0))).setCell ⟨wr.heap.size,3,none⟩ (.string (y 1))).setCell ⟨wr.heap.size,4,none⟩ (.string (y 2))).setCell ⟨wr.heap.size,5,none⟩ (.string (y 3))).setCell ⟨wr.heap.size,6,none⟩ (.string (y 4))).setCell ⟨wr.heap.size,7,none⟩ (.string (y 5))=Jx L wr.heap.size y from rfl];have hV:=Ro mb n t v c T _ (Jx L wr.heap.size y) (H.o.step q.o) hc ap Vd;rw[C.o]at hV;clear d0 d1 d2 d3 d4 d5 g0 g1 g2 g3 g4 g5 ag;refine hV.mono ?_;rintro e w5 ⟨rfl,E⟩;have x:=A2.o.step E;have z:Below wr.heap.size wr w5:=q.o.trans (E.mono q.o.size);have b:=I.o.step z;have ae:Below w.heap.size w w5:=N.o.trans (z.mono (by omega));have aB:=b.lt;have aw:=x.lt;have d0:=x.c0;have d1:=x.c1;have d2:=x.cl 0 (by omega);have d3:=x.cl 1 (by omega);have d4:=x.cl 2 (by omega);have d5:=x.cl 3 (by omega);have d6:=x.cl 4 (by omega);have d7:=x.cl 5 (by omega);have d8:=x.cv;have g8:=x.f 8 (by omega);have r0:=b.c0;have r1:=b.c1;have r2:=b.cl 0 (by omega);have r3:=b.cl 1 (by omega);have r4:=b.cl 2 (by omega);have r5:=b.cl 3 (by omega);have r6:=b.cl 4 (by omega);have r7:=b.cl 5 (by omega);have r8:=b.cv;have f0:=b.f 0 (by omega);have f1:=b.f 1 (by omega);have f2:=b.f 2 (by omega);have f3:=b.f 3 (by omega);have f4:=b.f 4 (by omega);have f5:=b.f 5 (by omega);have f6:=b.f 6 (by omega);have f7:=b.f 7 (by omega);have f8:=b.f 8 (by omega);have ao:wr.heap.size≠M:=by omega
    have af:w.heap.size<=wr.heap.size:=by omega
    clear hV z b x A2 E H I N q;go_wp2;exact bodyPost_ret (v:=.agg #[.int .i64 2,.int .i64 k,.string (y 0),.string (y 1),.string (y 2),.string (y 3),.string (y 4),.string (y 5),.string yv]) (by simp[results,Tryz.results26,go_sem,r0,r1,r2,r3,r4,r5,r6,r7,r8]) rfl ⟨by rw[U.o],((((((((((ae.setCell af _).setCell d _).setCell d _).setCell d _).setCell d _).setCell d _).setCell d _).setCell d _).setCell d _).setCell d _)⟩
theorem W5{c v t:ZB}{n:Int}{h:Nat->Int}(F:FP c v t n)(H:Zj c h)(o:∀q,¬Bb c v t n h q)(p:∀q,¬CD c q):Bu c v t n h:=by have C:=F.code H;refine⟨λi f e=>(C.ins f e).hi,GO F.ok,H,λi f e k=>(C.ins f e).vr k,λi f e k=>(C.ins f e).lv k,λa b d l m hd e j=>?_,o,p⟩;exact NI (by rw[<-HZ];exact F.lat.ord) a b d l m hd e j
theorem Tg{p:Int}(f:s.size<=maxLen)(h:DY s p 0):AN s=0∧p=0∧∃h,Bu (Ao s) (At s) (Av s) (bv s 1) h:=by
 rcases h with ⟨a,_,b⟩|⟨a,h⟩
 ·exact absurd b.symm a
 ·refine⟨a,?_⟩;rcases h with ⟨e,_⟩|⟨j,h⟩
  ·exact absurd e (by decide)
  ·rcases h with ⟨e,_⟩|⟨h,H,c⟩
   ·exact absurd e (by decide)
   ·rcases c with ⟨e,_⟩|⟨_,d,i⟩
    ·exact absurd e (by decide)
    ·exact⟨d,h,W5 (Jd f a) H i j⟩
def Gw(s:ZB)(T:Int->ZB)(f:Int)(r:Value)(x:Int):Prop:=
 (∃p,DY s p x∧x≠0∧r=FX)∨(DY s 0 0∧(f<0∨20000<f)∧x=10∧r=FX)∨(DY s 0 0∧0<=f∧f<=20000∧x=0∧r=Fz (Ao s) (At s) T f.toNat)
def TZ(s:ZB)(T:Int->ZB)(f:Int)(w:World)(e:Ending)(w':World):Prop:=
 ∃(r:Value) (x:Int),e=.returned (.tuple #[r,.int .i64 x])∧Kp (Gw s T f r x)∧Below w.heap.size w w'
theorem RE(n:s.size<=maxLen)(h:AN s=0):(At s).size<=8∧1<=bv s 1∧bv s 1<=6∧((At s).size:Int)=bv (BT s) 0:=by
 rcases JL s with ⟨_,k⟩|⟨_,_,k⟩|⟨_,_,j,k⟩|⟨_,_,_,_,k⟩|⟨o,c,j,p,q⟩
 ·omega
 ·omega
 ·omega
 ·omega
 ·unfold DV EA Ff at c;simp only[Qr]at c;obtain⟨⟨e,_⟩,⟨f,_⟩,_⟩:=c;obtain⟨_,_,a,b⟩:=Gj e;obtain⟨l,m,d⟩:=LU f;have i:((At s).size:Int)=1*bv (BT s) 0:=JY (by have:=(Zx (BT s) 0).1;omega) d;exact⟨by omega,a,b,by omega⟩
theorem US{T:Int->ZB}(F:FP (Ao s) (At s) (Av s) (bv s 1))(a:s.size<=maxLen)(h:AN s=0)(b:∀l:Nat,l<6->(T l).size<=maxLen):Kv (Ao s) (At s) (bv s 1) T:=
 ⟨F.hc,F.hK,(RE a h).1,(RE a h).2.2.1,b⟩
theorem Zpj(s:ZB)(T:Int->ZB)(f:Int)(w:World)(hs:s.size<=maxLen)(hT:∀l:Nat,l<6->(T l).size<=maxLen):Calls prog 9 #[.string s,EC T,.int .i64 f] w (TZ s T f w):=by
 obtain⟨A,t⟩:∃A,A=(w.alloc (.cells #[.string (T 0),.string (T 1),.string (T 2),.string (T 3),.string (T 4),.string (T 5)] 23)).alloc (.cells #[.int .i64 0,.int .i64 0,.string {data:=#[]},.string {data:=#[]},.string {data:=#[]},.string {data:=#[]},.string {data:=#[]},.string {data:=#[]},.string {data:=#[]}] 31):=⟨_,rfl⟩
 have C:ZX A (w.heap.size+1) 0 0 (λ_=>{data:=#[]}) {data:=#[]}:=by rw[t];have:=ZX.new (w.alloc (.cells #[.string (T 0),.string (T 1),.string (T 2),.string (T 3),.string (T 4),.string (T 5)] 23)) 31 0 0;simpa using this
 have I:DB A w.heap.size (λj=>T j):=by rw[t];exact(DB.new w 23 (T 0) (T 1) (T 2) (T 3) (T 4) (T 5) (f:=λj=>T j) ⟨rfl,rfl,rfl,rfl,rfl,rfl⟩).step ((Qh _ _).alloc (Qb _) _)
 have D:Below w.heap.size w A:=by rw[t];exact((Qh _ _).alloc (Qb _) _).alloc (by simp) _
 replace t:=Z_ t;obtain⟨xb,z⟩:∃xb,xb=w.heap.size+1:=⟨_,rfl⟩
 have a:w.heap.size<=xb:=by omega
 rw[<-z]at C;replace z:=Z_ z;replace C:=Z_ C;replace I:=Z_ I;by_cases h:AN s=0
 ·have F:Kp (FP (Ao s) (At s) (Av s) (bv s 1)):=⟨Jd hs h⟩
  have R:Kp (Kv (Ao s) (At s) (bv s 1) T):=⟨US F.o hs h hT⟩
  replace h:=Z_ h;replace hT:=Z_ hT;unfold EC;go_in;go_wp2_with fail;rw[<-t.o,<-z.o];refine(N9 s _ hs h.o).mono ?_;rintro e G ⟨rfl,d⟩;have u:Below A.heap.size A (G.alloc (.cells #[.int .i64 (bv s 1),.string (Av s),.string (At s),.string (Ao s)] 76)):=d.trans (((Qh _ _).alloc (Qb _) _).mono d.size);have Y:=AF.new4 G (.int .i64 (bv s 1)) (.string (Av s)) (.string (At s)) (.string (Ao s)) 76;have aj:=d.size;go_wp2_with fail;obtain⟨wa,ab⟩:∃wa,wa=G.alloc (.cells #[.int .i64 (bv s 1),.string (Av s),.string (At s),.string (Ao s)] 76):=⟨_,rfl⟩
  rw[<-ab]at u Y ⊢;clear ab;refine(Rz (bv s 1) (Av s) (At s) (Ao s) _ F).mono ?_;rintro e w2 ⟨p,x,rfl,hA,y⟩;have J:DY s p x:=.inr ⟨h.o,hA.o⟩;have r:Below A.heap.size A w2:=u.trans (y.mono u.size);have i:=C.o.step r;have B:=I.o.step r;have H:=Y.step y;have m:Below w.heap.size w w2:=D.trans (r.mono D.size);have ad:=i.lt;have ak:=m.size;have L:=i.c0;have M:=i.c1;have N:=i.cl 0 (by omega);have O:=i.cl 1 (by omega);have Q:=i.cl 2 (by omega);have S:=i.cl 3 (by omega);have U:=i.cl 4 (by omega);have V:=i.cl 5 (by omega);have W:=i.cv;have f0:=i.f 0 (by omega);have f1:=i.f 1 (by omega);have f2:=i.f 2 (by omega);have f3:=i.f 3 (by omega);have f4:=i.f 4 (by omega);have f5:=i.f 5 (by omega);have f6:=i.f 6 (by omega);have f7:=i.f 7 (by omega);have f8:=i.f 8 (by omega);by_cases hx:x=0
  ·subst hx;obtain⟨_,rfl,af,P⟩:=Tg hs J;replace J:=Z_ J;by_cases hf:0<=f∧f<=20000
   ·obtain⟨aa,ae⟩:=hf;obtain⟨k,rfl⟩:∃k:Nat,f=k:=⟨f.toNat,by omega⟩
    have ag:k<=20000:=by omega
    have X:=λw5=>Zpi (bv s 1) (Av s) (At s) (Ao s) T af k w5 R.o ⟨P⟩ ag;have b:Kp (Gw s T k (Fz (Ao s) (At s) T k) 0):=⟨.inr (.inr ⟨J.o,aa,ae,rfl,rfl⟩)⟩
    unfold EC at X;unfold Fz at X b;generalize Df (Ao s) T k=en at *;generalize De (Ao s) T k=st at *;generalize BM (Ao s) T k 0=y0 at *;generalize BM (Ao s) T k 1=y1 at *;generalize BM (Ao s) T k 2=y2 at *;generalize BM (Ao s) T k 3=y3 at *;generalize BM (Ao s) T k 4=y4 at *;generalize BM (Ao s) T k 5=y5 at *;generalize Cz (Ao s) (At s) T k=yv at *;have t0:=B.c 0 (by omega);have t1:=B.c 1 (by omega);have t2:=B.c 2 (by omega);have t3:=B.c 3 (by omega);have t4:=B.c 4 (by omega);have t5:=B.c 5 (by omega);have o0:=H.c 0 _ rfl;have o1:=H.c 1 _ rfl;have o2:=H.c 2 _ rfl;have o3:=H.c 3 _ rfl;replace X:=Z_ X;have Z:Kp _:=⟨i⟩
    have E:Kp _:=⟨m⟩
    clear i B H r y d u Y hA L M N O Q S U V W f0 f1 f2 f3 f4 f5 f6 f7 f8 m P C I;go_wp2_with fail;refine(X.o w2).mono ?_;rintro e w3 ⟨rfl,K⟩;have q:=Z.o.step K;have m:Below w.heap.size w w3:=E.o.trans (K.mono E.o.size);have ah:=q.lt;have L:=q.c0;have M:=q.c1;have N:=q.cl 0 (by omega);have O:=q.cl 1 (by omega);have Q:=q.cl 2 (by omega);have S:=q.cl 3 (by omega);have U:=q.cl 4 (by omega);have V:=q.cl 5 (by omega);have W:=q.cv;have f0:=q.f 0 (by omega);have f1:=q.f 1 (by omega);have f2:=q.f 2 (by omega);have f3:=q.f 3 (by omega);have f4:=q.f 4 (by omega);have f5:=q.f 5 (by omega);have f6:=q.f 6 (by omega);have f7:=q.f 7 (by omega);have f8:=q.f 8 (by omega);clear q K X t0 t1 t2 t3 t4 t5 o0 o1 o2 o3;go_wp2;exact bodyPost_ret (v:=.tuple #[.agg #[.int .i64 en,.int .i64 st,.string y0,.string y1,.string y2,.string y3,.string y4,.string y5,.string yv],.int .i64 0]) (by simp[results,Tryz.results9,go_sem,L,M,N,O,Q,S,U,V,W]) rfl ⟨_,_,rfl,b,((((((((m.setCell a _).setCell a _).setCell a _).setCell a _).setCell a _).setCell a _).setCell a _).setCell a _).setCell a _⟩
   ·have b:Kp (Gw s T f FX 10):=⟨.inr (.inl ⟨J.o,by omega,rfl,rfl⟩)⟩
    unfold FX at b;have Z:Kp _:=⟨i⟩
    clear i B H r y d u Y hA P C I;by_cases aa:f<0;all_goals
     have ai:¬(0<=f∧f<=20000):=hf;clear hf;go_wp2;exact bodyPost_ret (v:=.tuple #[.agg #[.int .i64 0,.int .i64 0,.string {data:=#[]},.string {data:=#[]},.string {data:=#[]},.string {data:=#[]},.string {data:=#[]},.string {data:=#[]},.string {data:=#[]}],.int .i64 10]) (by simp[results,Tryz.results9,go_sem,L,M,N,O,Q,S,U,V,W]) rfl ⟨_,_,rfl,b,((((((((m.setCell a _).setCell a _).setCell a _).setCell a _).setCell a _).setCell a _).setCell a _).setCell a _).setCell a _⟩
  ·have hk:(x != 0)=true:=QO.2 hx;have b:Kp (Gw s T f FX x):=⟨.inl ⟨p,J,hx,rfl⟩⟩
   unfold FX at b;clear i B H r y d u Y hA C I J;go_wp2;exact bodyPost_ret (v:=.tuple #[.agg #[.int .i64 0,.int .i64 0,.string {data:=#[]},.string {data:=#[]},.string {data:=#[]},.string {data:=#[]},.string {data:=#[]},.string {data:=#[]},.string {data:=#[]}],.int .i64 x]) (by simp[results,Tryz.results9,go_sem,L,M,N,O,Q,S,U,V,W]) rfl ⟨_,_,rfl,b,((((((((m.setCell a _).setCell a _).setCell a _).setCell a _).setCell a _).setCell a _).setCell a _).setCell a _).setCell a _⟩
 ·have hk:(AN s != 0)=true:=QO.2 h;have b:Kp (Gw s T f FX (AN s)):=⟨.inl ⟨0,.inl ⟨h,rfl,rfl⟩,h,rfl⟩⟩
  unfold FX at b;have hO:=λG=>Oi s G hs h;replace h:=Z_ h;generalize AN s=er at *;replace hO:=Z_ hO;unfold EC;go_in;go_wp2_with fail;rw[<-t.o,<-z.o];refine(hO.o _).mono ?_;rintro e G ⟨rfl,d⟩;have r:Below A.heap.size A (G.alloc (.cells #[.int .i64 0,.string {data:=#[]},.string {data:=#[]},.string {data:=#[]}] 76)):=d.trans (((Qh _ _).alloc (Qb _) _).mono d.size)
  have n:=C.o.step d;have m:Below w.heap.size w G:=D.trans (d.mono D.size);have al:=m.size;have ad:=n.lt;have L:=n.c0;have M:=n.c1;have N:=n.cl 0 (by omega);have O:=n.cl 1 (by omega);have Q:=n.cl 2 (by omega);have S:=n.cl 3 (by omega);have U:=n.cl 4 (by omega);have V:=n.cl 5 (by omega);have W:=n.cv;have f0:=n.f 0 (by omega);have f1:=n.f 1 (by omega);have f2:=n.f 2 (by omega);have f3:=n.f 3 (by omega);have f4:=n.f 4 (by omega);have f5:=n.f 5 (by omega);have f6:=n.f 6 (by omega);have f7:=n.f 7 (by omega);have f8:=n.f 8 (by omega);clear n r d C I hO;go_wp2;exact bodyPost_ret (v:=.tuple #[.agg #[.int .i64 0,.int .i64 0,.string {data:=#[]},.string {data:=#[]},.string {data:=#[]},.string {data:=#[]},.string {data:=#[]},.string {data:=#[]},.string {data:=#[]}],.int .i64 er]) (by simp[results,Tryz.results9,go_sem,ad,L,M,N,O,Q,S,U,V,W]) rfl ⟨_,_,rfl,b,(((((((((m.setCell a _).setCell a _).setCell a _).setCell a _).setCell a _).setCell a _).setCell a _).setCell a _).setCell a _).alloc (by simp;omega) _⟩
end Go.Proofs.YtcnbifdlkalimabGreat
