/- Lemmas; their conditions stand in each. -/
import Derived.Test.YtcnbifdlkalimabGreatSrcC
import Derived.Test.YtcnbifdlkalimabGreatRefB
import Derived.Test.YtcnbifdlkalimabGreatRdrF
namespace Go.Proofs.YtcnbifdlkalimabGreat
open Go.RowKit Go.Proofs.Tryz
set_option linter.all false
set_option maxRecDepth 100000
theorem UI{ex:List Ex}(b:BA ex):∀e,e<ex.length->AT ex e<=e+1:=by
 have i:∀k e,e<k->e<ex.length->AT ex e<=e+1:=by
  intro k;induction k with
  | zero=>intro e h;omega
  | succ k j=>
   intro e o a;have g:ex[e]?=some ex[e]:=Qn a;by_cases f:ex[e].op=0∨ex[e].op=1∨ex[e].op=10
   ·have:AT ex e=1:=by unfold AT;rw[EM _ _ _ b g,if_pos f]
    omega
   ·rcases b e _ g with c|⟨c,d⟩
    ·exact absurd c f
    ·have m:=j _ (by omega) (Nat.lt_trans c a);have n:=j _ (by omega) (Nat.lt_trans d a);have:AT ex e=max (AT ex ex[e].l) (AT ex ex[e].r+1):=by unfold AT;rw[EM _ _ _ b g,if_neg f]
     omega
 exact λe a=>i _ e (Nat.lt_succ_self e) a
def PZ(rb sb B:Nat)(s tb:ZB)(tp:Value)(p:Rs)(S:Nat->Value)(sv:List (Value×Value))(k:Nat):Prop:=∀(e:Nat) (w:World),e<k->YB w rb sb B s p tb tp S sv->e<p.ex.length->
 Calls prog 21 #[.pointer (some ⟨sb,0,none⟩),.int .i64 e] w λen w'=>en=.returned (.int .i64 (AT p.ex e))∧Below w.heap.size w w'
set_option maxHeartbeats 12800000
theorem Yq(rb sb B:Nat)(s U:ZB)(tp:Value)(p:Rs)(S:Nat->Value)(sv:List (Value×Value))(q:BA p.ex)(hm:p.ex.length<=20000)(e:Nat)(G:Kp (PZ rb sb B s U tp p S sv e))(w:World)(H:YB w rb sb B s p U tp S sv)(x:Ex)(u:p.ex[e]?=some x) :
  Calls prog 21 #[.pointer (some ⟨sb,0,none⟩),.int .i64 e] w λk F=>k=.returned (.int .i64 (AT p.ex e))∧Below w.heap.size w F:=by
 have f:AT p.ex e=if x.op=0∨x.op=1∨x.op=10 then 1 else max (AT p.ex x.l) (AT p.ex x.r+1):=by unfold AT;rw[EM _ _ _ q u]
 obtain⟨g,c,L,hg,t⟩:=H.node u;have he:e<p.ex.length:=(Ql.1 u).1;have V:w.cell? ⟨sb,4,none⟩=some (.slice (some ⟨g,0,none⟩) p.ex.length c):=by rw[<-L];exact H.c 0 (by omega)
 have X:w.cell? ⟨g,e*4,none⟩=some (.int .i64 x.op):=t 0 _ rfl;have Y:=t 1 _ rfl;have Z:=t 2 _ rfl;have d3:=t 3 _ rfl;have ad:=H.lt;obtain⟨n,a⟩:∃n,w.alloc (.cells #[.int .i64 x.op,.int .i64 x.v,.int .i64 (x.l:Nat),.int .i64 (x.r:Nat)] 121)=n:=⟨_,rfl⟩
 have y:=Er w (.int .i64 x.op) (.int .i64 x.v) (.int .i64 (x.l:Nat)) (.int .i64 (x.r:Nat)) 121;rw[a]at y;have b:Below w.heap.size w n:=by rw[<-a];exact(Qh _ _).alloc (Qb _) _
 have ab:(e:Int)<(p.ex.length:Int):=by omega
 by_cases i:x.op=0∨x.op=1∨x.op=10
 ·rw[f,if_pos i];have N:Kp (Below w.heap.size w (w.alloc (.cells #[.int .i64 x.op,.int .i64 x.v,.int .i64 (x.l:Nat),.int .i64 (x.r:Nat)] 121))):=⟨by rw[a];exact b⟩
  generalize x.v=v at *;generalize x.l=l at *;generalize x.r=r at *;generalize P:x.op=I at *;generalize p.ex.length=m at *;clear H q u t L G f P a y b;have O:I=0∨I=1∨I=10:=i;clear i;rcases O with rfl|rfl|rfl
  ·go_in;go_wp2;go_ret;exact⟨rfl,N.o⟩
  ·go_in;go_wp2;go_ret;exact⟨rfl,N.o⟩
  ·go_in;go_wp2;go_ret;exact⟨rfl,N.o⟩
 ·rw[f,if_neg i];obtain⟨D,E⟩:=(q e x u).resolve_left i;have nl:=UI q x.l (by omega);have nr:=UI q x.r (by omega);have pl:=Lg p.ex x.l;have pr:=Lg p.ex x.r;have z:Kp (∀W,Below n.heap.size n W->Calls prog 21 #[.pointer (some ⟨sb,0,none⟩),.int .i64 (x.l:Nat)] W λk F=>k=.returned (.int .i64 (AT p.ex x.l))∧Below W.heap.size W F):=⟨λW M=>G.o x.l W D (H.step (b.trans (M.mono b.size))) (by omega)⟩
  have K:Kp (∀W,Below n.heap.size n W->Calls prog 21 #[.pointer (some ⟨sb,0,none⟩),.int .i64 (x.r:Nat)] W λk F=>k=.returned (.int .i64 (AT p.ex x.r))∧Below W.heap.size W F):=⟨λW M=>G.o x.r W E (H.step (b.trans (M.mono b.size))) (by omega)⟩
  have k0:(x.op==0)=false:=Qf.2 λh=>i (.inl h);have k1:(x.op==1)=false:=Qf.2 λh=>i (.inr (.inl h))
  have k2:(x.op==10)=false:=Qf.2 λh=>i (.inr (.inr h));have ae:AT p.ex x.l<=30000:=by omega
  have af:AT p.ex x.r<=30000:=by omega
  generalize AT p.ex x.l=A at *;generalize AT p.ex x.r=C at *;generalize x.op=I at *;generalize x.v=v at *;generalize x.l=l at *;generalize x.r=r at *;generalize p.ex.length=m at *;replace y:=Z_ y;replace b:=Z_ b;replace a:=Z_ a;clear H q u t L G f i D E nl nr;go_in;go_wp2_with fail;rw[a.o];refine(z.o _ (Qh _ _)).mono ?_;rintro k w1 ⟨rfl,j⟩;obtain⟨T,d⟩:∃T,w.heap.size=T:=⟨_,rfl⟩
  have J:=y.o.step j;rw[d]at J;simp only[d];have x3:=J.c 3 _ rfl;clear X Y Z d3 V z J;have d:Kp _:=⟨d⟩
  replace j:=Z_ j;go_wp2_with fail;refine(K.o _ j.o).mono ?_;rintro k w2 ⟨rfl,Q⟩;have R:Kp (Below w.heap.size w w2):=⟨b.o.trans ((j.o.trans (Q.mono j.o.size)).mono b.o.size)⟩
  clear Q j x3;by_cases aa:C+1<A
  ·go_wp2;go_ret;exact⟨ZG (by omega),R.o⟩
  ·go_wp2;go_ret;exact⟨ZG (by omega),R.o⟩
theorem SQ(rb sb B:Nat)(s a:ZB)(tp:Value)(p:Rs)(S:Nat->Value)(sv:List (Value×Value))(b:BA p.ex)(c:p.ex.length<=20000):∀k,PZ rb sb B s a tp p S sv k
 | 0=>λe w g=>by omega
 | k+1=>λe w g H d=>Yq rb sb B s a tp p S sv b c e ⟨λf w h=>SQ rb sb B s a tp p S sv b c k f w (by omega)⟩ w H _ (Qn d)
theorem Rh{T:ZB}{n:Int}(l:Cf T n)(w:World) :
  Calls prog 23 #[.string T,.int .i64 n] w λe s=>e=.returned (.int .i64 (By T n))∧s=w:=by
 obtain⟨v,z,-⟩:=id l;go_in;go_wp2;go_loop [5] (λc=>∃k:Nat,(k:Int)<=n∧c=.int .i64 k∧Kp (∀i:Nat,i<k->BJ T n i=false)) (λc=>n.toNat-(intOf c).toNat);case atStart=>exact⟨0,by omega,rfl,⟨λi j=>absurd j (by omega)⟩⟩
 case round=>
  obtain⟨k,t,rfl,a⟩:=hrel;by_cases h:(k:Int)<n
  ·go_wp2_with fail;go_loop [6,7] (λo c=>∃m:Nat,(m:Int)<=n∧c=.int .i64 m∧∃x:Bool,o=.bool x∧Kp (x=ZA (λb=>le T n k b) m)) (λ_ c=>n.toNat-(intOf c).toNat);case atStart=>exact⟨0,by omega,rfl,true,rfl,⟨rfl⟩⟩
   case round=>
    obtain⟨m,u,rfl,x,rfl,q⟩:=hrel;by_cases d:(m:Int)<n
    ·go_wp2_with fail;refine(ZZ l k m _ (by omega) h (by omega) d).mono ?_;rintro e A ⟨rfl,rfl⟩;obtain⟨y,g⟩:∃y,le T n k m=y:=⟨_,rfl⟩
     rw[g];have r:Kp ((x&&y)=ZA (λb=>le T n k b) (m+1)):=⟨by simp only[ZA];rw[<-q.o,g]⟩
     replace g:=Z_ g;cases x<;>cases y;all_goals
      go_wp2;go_round;case rel=>exact⟨m+1,by omega,by go_num,_,rfl,⟨by simpa using r.o⟩⟩
      case measure=>simp[intOf];omega
    ·have f:Kp (x=BJ T n k):=⟨by unfold BJ;rw[q.o,show n.toNat=m from by omega]⟩
     cases x
     ·go_wp2;go_round;case rel=>exact⟨k+1,by omega,by go_num,⟨JI (p:=BJ T n) a.o f.o.symm⟩⟩
      case measure=>simp[intOf];omega
     ·go_wp2;go_ret;exact⟨ZG (by unfold By;rw[IN (i:=k) (by omega) a.o f.o.symm];rfl),rfl⟩
  ·go_wp2;go_ret;exact⟨ZG (by unfold By;rw[JG (λi j=>a.o i (by omega))];rfl),rfl⟩
theorem W7(a b:Int)(w:World):Calls prog 56 #[.int .i64 a,.int .i64 b] w λe g=>e=.returned (.int .i64 (CA a b))∧g=w:=by
 unfold CA;by_cases c:a<0
 ·rw[if_pos (.inl c)];go_in;go_wp2;go_ret;exact⟨rfl,rfl⟩
 ·by_cases d:0<=b
  ·by_cases f:b<a
   ·rw[if_pos (.inr ⟨d,f⟩)];go_in;go_wp2;go_ret;exact⟨rfl,rfl⟩
   ·rw[if_neg (by omega)];go_in;go_wp2;go_ret;exact⟨rfl,rfl⟩
  ·rw[if_neg (by omega)];go_in;go_wp2;go_ret;exact⟨rfl,rfl⟩
theorem VF{T:ZB}{n a b:Int}(L:Cs T n)(d:Lv n a)(e:Lv n b):(Dt T n a b).getD (-1)=jn T n a b:=by
 unfold jn;cases h:Dt T n a b with
 | some x=>rfl
 | none=>
  exfalso;have g:=L.jin a b d e;have l:=L.jl a b d e;have m:=L.jr a b d e;have p:Bv T n a b ((jn T n a b).toNat:Nat)=true:=by rw[Qj g.1];exact MA.2 ⟨⟨l,m⟩,λc j o x y=>L.jm a b c d e ⟨j,o⟩ x y⟩
  obtain⟨x,q⟩:=SV (f:=Bv T n a b) (k:=n.toNat) (i:=(jn T n a b).toNat) (by have:=g.1;have:=g.2;omega) p;unfold Dt at h;rw[q]at h;cases h
def P3(rb sb B:Nat)(s tb:ZB)(tp:Value)(p:Rs)(S:Nat->Value)(sv:List (Value×Value))(k:Nat):Prop:=∀(e:Nat) (w:World),e<k->YB w rb sb B s p tb tp S sv->e<p.ex.length->
 Calls prog 53 #[.pointer (some ⟨sb,0,none⟩),.int .i64 e] w λen w'=>en=.returned (.int .i64 (Bl tb p.n p.vs p.ex e))∧Below w.heap.size w w'
theorem W8(rb sb B:Nat)(s b:ZB)(tp:Value)(p:Rs)(S:Nat->Value)(sv:List (Value×Value))(R:BA p.ex)(q:Dw p.n p.vs.length p.ex)(X:Ev p.n p.vs)(Y:Cf b p.n)(L:Cs b p.n)(e:Nat)(ih:Kp (P3 rb sb B s b tp p S sv e))(w:World)(H:YB w rb sb B s p b tp S sv)(x:Ex)(O:p.ex[e]?=some x) :
  Calls prog 53 #[.pointer (some ⟨sb,0,none⟩),.int .i64 e] w λK k=>K=.returned (.int .i64 (Bl b p.n p.vs p.ex e))∧Below w.heap.size w k:=by
 have u:Bl b p.n p.vs p.ex e=if x.op=0∨x.op=1∨x.op=10 then (if x.op=0 then By b p.n else FE p.vs x) else jn b p.n (Bl b p.n p.vs p.ex x.l) (Bl b p.n p.vs p.ex x.r):=by unfold Bl;rw[EM _ _ _ R O]
 obtain⟨g,c,hS,hg,T⟩:=H.node O;have he:e<p.ex.length:=(Ql.1 O).1;have c4:w.cell? ⟨sb,4,none⟩=some (.slice (some ⟨g,0,none⟩) p.ex.length c):=by rw[<-hS];exact H.c 0 (by omega)
 have Z:w.cell? ⟨g,e*4,none⟩=some (.int .i64 x.op):=T 0 _ rfl;have d1:=T 1 _ rfl;have d2:=T 2 _ rfl;have d3:=T 3 _ rfl;have aw:=H.lt;obtain⟨t,a⟩:∃t,w.alloc (.cells #[.int .i64 x.op,.int .i64 x.v,.int .i64 (x.l:Nat),.int .i64 (x.r:Nat)] 121)=t:=⟨_,rfl⟩
 have j:=Er w (.int .i64 x.op) (.int .i64 x.v) (.int .i64 (x.l:Nat)) (.int .i64 (x.r:Nat)) 121;rw[a]at j;have d:Below w.heap.size w t:=by rw[<-a];exact(Qh _ _).alloc (Qb _) _
 have ar:(e:Int)<(p.ex.length:Int):=by omega
 have P:=H.step d;have y0:=P.cn;have y1:=P.ct;have y3:=P.cv;have D:=q x (Qw O);by_cases E:x.op=0∨x.op=1∨x.op=10
 ·rw[u,if_pos E];have y:=λW=>Rh Y W;have al:=E
  rcases al with Q|Q|Q
  ·rw[if_pos Q];rw[Q]at Z a j;generalize By b p.n=z at *;generalize x.v=v at *;generalize x.l=l at *;generalize x.r=r at *;generalize p.ex.length=m at *;generalize p.n=n at *;replace d:=Z_ d;replace a:=Z_ a;replace y:=Z_ y;clear H R q X Y L O T hS ih u E D P y3;go_in;go_wp2_with fail;rw[a.o];clear Z d1 d2 d3 c4;go_region_held3 (λk=>k.cell? ⟨sb,0,none⟩=some (.int .i64 n)∧k.cell? ⟨sb,1,none⟩=some (.string b)) (go_keep) ((go_at_call 23;refine(y.o _).mono ?_;rintro K w5 ⟨rfl,ao⟩;subst ao));go_wp2;go_ret;exact⟨rfl,d.o.drew⟩
  ·have an:0<=x.v∧x.v<p.vs.length:=by
    rcases D with c|⟨_,c⟩|c|c
    ·omega
    ·exact c
    ·omega
    ·omega
   obtain⟨i,hi⟩:∃i:Nat,x.v=i:=⟨x.v.toNat,by omega⟩
   have N:i<p.vs.length:=by omega
   have G:=X.at N;have e1:FE p.vs x=p.vs.getD i 0:=by unfold FE;rw[if_pos Q,hi,QC]
   rw[if_neg (by omega),e1];have am:p.n<=6:=Y.2;have aa:bv (bs p.vs) i=p.vs.getD i 0:=Nt (by rw[Qs,Qn N];rfl) G.1 (by have:=G.2;omega);have ak:i<(bs p.vs).size:=by rw[Zd];exact N
   have ab:=ZJ (bs p.vs) i ak;rw[aa]at ab;have av:(i:Int)<((bs p.vs).size:Int):=by omega
   rw[Q,hi]at a j;rw[Q]at Z;rw[hi]at d1;generalize p.vs.getD i 0=z at *;generalize bs p.vs=V at *;generalize x.l=l at *;generalize x.r=r at *;generalize p.ex.length=m at *;have x1:=j.c 1 _ rfl;have ag:0<=z∧z<=255:=⟨G.1,by have:=G.2;omega⟩
   have aq:Kp (0<=z∧z<=255):=⟨ag⟩
   replace d:=Z_ d;replace a:=Z_ a;clear H R q X Y L O T hS ih u E D P y0 y1 y an hi N G e1 am aa ag j;go_in;go_wp2_with fail;rw[a.o];clear Z d1 d2 d3 c4;obtain⟨M,f⟩:∃M,w.heap.size=M:=⟨_,rfl⟩
   rw[f]at x1;simp only[f];have f:Kp _:=⟨f⟩
   go_region_held3 (λk=>k.cell? ⟨sb,3,none⟩=some (.string V)∧k.cell? ⟨M,1,none⟩=some (.int .i64 (i:Nat))) (go_keep) (fail);have ad:IntKind.i64.wrap z=z:=by have:=aq.o;rw[IntKind.wrap_i64];omega
   rw[ad];clear ad;go_wp2;go_ret;exact⟨rfl,d.o.drew⟩
  ·have e1:FE p.vs x=x.v:=by unfold FE;rw[if_neg (by omega)]
   rw[if_neg (by omega),e1];rw[Q]at a j Z;generalize x.v=v at *;generalize x.l=l at *;generalize x.r=r at *;generalize p.ex.length=m at *;replace d:=Z_ d;replace a:=Z_ a;have aj:Kp (Below w.heap.size w (w.alloc (.cells #[.int .i64 10,.int .i64 v,.int .i64 (l:Nat),.int .i64 (r:Nat)] 121))):=⟨by rw[a.o];exact d.o⟩
   clear H R q X Y L O T hS ih u E D P y0 y1 y3 y e1 j a d;go_in;go_wp2;go_ret;exact⟨rfl,aj.o⟩
 ·rw[u,if_neg E];obtain⟨ae,af⟩:=(R e x O).resolve_left E;obtain⟨l1,_,_⟩:=Nh L R q X x.l (by omega);obtain⟨r1,_,_⟩:=Nh L R q X x.r (by omega);have ah:Kp (∀W,Below t.heap.size t W->Calls prog 53 #[.pointer (some ⟨sb,0,none⟩),.int .i64 (x.l:Nat)] W λK k=>K=.returned (.int .i64 (Bl b p.n p.vs p.ex x.l))∧Below W.heap.size W k):=⟨λW hW=>ih.o x.l W ae (H.step (d.trans (hW.mono d.size))) (by omega)⟩
  have ai:Kp (∀W,Below t.heap.size t W->Calls prog 53 #[.pointer (some ⟨sb,0,none⟩),.int .i64 (x.r:Nat)] W λK k=>K=.returned (.int .i64 (Bl b p.n p.vs p.ex x.r))∧Below W.heap.size W k):=⟨λW hW=>ih.o x.r W af (H.step (d.trans (hW.mono d.size))) (by omega)⟩
  have hJ:=λW=>KL Y (Bl b p.n p.vs p.ex x.l) (Bl b p.n p.vs p.ex x.r) W l1.1 l1.2 r1.1 r1.2;have F:(Dt b p.n (Bl b p.n p.vs p.ex x.l) (Bl b p.n p.vs p.ex x.r)).getD (-1)=jn b p.n (Bl b p.n p.vs p.ex x.l) (Bl b p.n p.vs p.ex x.r):=VF L l1 r1
  rw[F]at hJ;have k0:(x.op==0)=false:=Qf.2 λh=>E (.inl h);have k1:(x.op==1)=false:=Qf.2 λh=>E (.inr (.inl h))
  have k2:(x.op==10)=false:=Qf.2 λh=>E (.inr (.inr h));generalize jn b p.n (Bl b p.n p.vs p.ex x.l) (Bl b p.n p.vs p.ex x.r)=J at *;generalize Bl b p.n p.vs p.ex x.l=A at *;generalize Bl b p.n p.vs p.ex x.r=C at *;have Hk:Kp _:=⟨P⟩
  have x2:=j.c 2 _ rfl;have x3:=j.c 3 _ rfl;generalize x.op=op at *;generalize x.v=v at *;generalize x.l=l at *;generalize x.r=r at *;generalize p.ex.length=m at *;obtain⟨n,hn⟩:∃n,p.n=n:=⟨_,rfl⟩
  rw[hn]at y0 hJ;replace hn:=Z_ hn;replace j:=Z_ j;replace d:=Z_ d;replace a:=Z_ a;replace hJ:=Z_ hJ;clear H R q X Y L O T hS ih u E D P y3 ae af l1 r1 F;go_in;go_wp2_with fail;rw[a.o];clear Z d1 d2 d3 c4;obtain⟨M,f⟩:∃M,w.heap.size=M:=⟨_,rfl⟩
  rw[f]at x2 x3 j;simp only[f];have au:Kp (w.heap.size=M):=⟨f⟩
  clear f;go_region_held3 (λk=>k.cell? ⟨sb,0,none⟩=some (.int .i64 n)∧k.cell? ⟨sb,1,none⟩=some (.string b)∧k.cell? ⟨M,2,none⟩=some (.int .i64 (l:Nat))∧k.cell? ⟨M,3,none⟩=some (.int .i64 (r:Nat))) (go_keep) (first
   | (go_at_call 52;refine(hJ.o _).mono ?_;rintro K w6 ⟨rfl,ap⟩;subst ap)
   | (go_at_call_of 53 l;refine(ah.o _ (by first|exact(Qh _ _).drew|assumption)).mono ?_;rintro K w5 ⟨rfl,U⟩;have I:Below t.heap.size t w5:=(by first|exact((Qh _ _).drew).trans U|exact Q9 (by assumption) (U.mono (Below.size (w:=t) (by assumption))));have o0:w5.cell? ⟨sb,0,none⟩=some (.int .i64 n):=(by rw[<-hn.o];exact(Hk.o.step I).cn);have o1:=(Hk.o.step I).ct;have o2:=(j.o.step I).c 2 _ rfl;have o3:=(j.o.step I).c 3 _ rfl;clear U)
   | (go_at_call_of 53 r;refine(ai.o _ (by first|exact(Qh _ _).drew|assumption)).mono ?_;rintro K w5 ⟨rfl,U⟩;have I:Below t.heap.size t w5:=(by first|exact((Qh _ _).drew).trans U|exact Q9 (by assumption) (U.mono (Below.size (w:=t) (by assumption))));have o0:w5.cell? ⟨sb,0,none⟩=some (.int .i64 n):=(by rw[<-hn.o];exact(Hk.o.step I).cn);have o1:=(Hk.o.step I).ct;have o2:=(j.o.step I).c 2 _ rfl;have o3:=(j.o.step I).c 3 _ rfl;clear U))
  all_goals
   have b9:Below t.heap.size t w6:=by assumption
   replace b9:=Z_ b9;go_wp2;go_ret;exact⟨rfl,d.o.trans (b9.o.mono d.o.size)⟩
theorem RF(rb sb B:Nat)(s b:ZB)(tp:Value)(p:Rs)(S:Nat->Value)(sv:List (Value×Value))(c:BA p.ex)(a:Dw p.n p.vs.length p.ex)(d:Ev p.n p.vs)(g:Cf b p.n)(L:Cs b p.n):∀k,P3 rb sb B s b tp p S sv k
 | 0=>λe w i=>by omega
 | k+1=>λe w i H h=>W8 rb sb B s b tp p S sv c a d g L e ⟨λf w j=>RF rb sb B s b tp p S sv c a d g L k f w (by omega)⟩ w H _ (Qn h)
def PY(rb sb B:Nat)(s tb:ZB)(tp:Value)(p:Rs)(S:Nat->Value)(sv:List (Value×Value))(ct:Int)(k:Nat):Prop:=∀(e:Nat) (w:World),e<k->YB w rb sb B s p tb tp S sv->e<p.ex.length->
 Calls prog 54 #[.pointer (some ⟨sb,0,none⟩),.int .i64 e,.int .i64 ct] w λen w'=>en=.returned (.bool (Bq tb p.n ct p.ex e))∧Below w.heap.size w w'
theorem W9(rb sb B:Nat)(s i:ZB)(tp:Value)(p:Rs)(S:Nat->Value)(sv:List (Value×Value))(P:BA p.ex)(q:Dw p.n p.vs.length p.ex)(V:Cf i p.n)(f:Int)(j:Lv p.n f)(e:Nat)(Q:Kp (PY rb sb B s i tp p S sv f e))(w:World)(H:YB w rb sb B s p i tp S sv)(x:Ex)(D:p.ex[e]?=some x) :
  Calls prog 54 #[.pointer (some ⟨sb,0,none⟩),.int .i64 e,.int .i64 f] w λF E=>F=.returned (.bool (Bq i p.n f p.ex e))∧Below w.heap.size w E:=by
 have k:Bq i p.n f p.ex e=if x.op=0∨x.op=1∨x.op=10 then (if x.op=10 then le i p.n f x.v else true) else (Bq i p.n f p.ex x.l&&Bq i p.n f p.ex x.r):=by unfold Bq;rw[EM _ _ _ P D]
 obtain⟨g,c,U,hg,G⟩:=H.node D;have he:e<p.ex.length:=(Ql.1 D).1;have c4:w.cell? ⟨sb,4,none⟩=some (.slice (some ⟨g,0,none⟩) p.ex.length c):=by rw[<-U];exact H.c 0 (by omega)
 have R:w.cell? ⟨g,e*4,none⟩=some (.int .i64 x.op):=G 0 _ rfl;have d1:=G 1 _ rfl;have d2:=G 2 _ rfl;have d3:=G 3 _ rfl;have ag:=H.lt;obtain⟨M,a⟩:∃M,w.alloc (.cells #[.int .i64 x.op,.int .i64 x.v,.int .i64 (x.l:Nat),.int .i64 (x.r:Nat)] 121)=M:=⟨_,rfl⟩
 have y:=Er w (.int .i64 x.op) (.int .i64 x.v) (.int .i64 (x.l:Nat)) (.int .i64 (x.r:Nat)) 121;rw[a]at y;have d:Below w.heap.size w M:=by rw[<-a];exact(Qh _ _).alloc (Qb _) _
 have ae:(e:Int)<(p.ex.length:Int):=by omega
 have N:=H.step d;have y0:=N.cn;have y1:=N.ct;have t:=q x (Qw D);by_cases u:x.op=0∨x.op=1∨x.op=10
 ·rw[k,if_pos u];have ab:=u;rcases ab with O|O|O
  ·rw[if_neg (by omega)];rw[O]at R a;generalize x.v=v at *;generalize x.l=l at *;generalize x.r=r at *;generalize p.ex.length=m at *;have K:Kp (Below w.heap.size w (w.alloc (.cells #[.int .i64 0,.int .i64 v,.int .i64 (l:Nat),.int .i64 (r:Nat)] 121))):=⟨by rw[a];exact d⟩
   clear H P q V D G U Q k u t N y0 y1 y a d j;go_in;go_wp2;go_ret;exact⟨rfl,K.o⟩
  ·rw[if_neg (by omega)];rw[O]at R a;generalize x.v=v at *;generalize x.l=l at *;generalize x.r=r at *;generalize p.ex.length=m at *;have K:Kp (Below w.heap.size w (w.alloc (.cells #[.int .i64 1,.int .i64 v,.int .i64 (l:Nat),.int .i64 (r:Nat)] 121))):=⟨by rw[a];exact d⟩
   clear H P q V D G U Q k u t N y0 y1 y a d j;go_in;go_wp2;go_ret;exact⟨rfl,K.o⟩
  ·rw[if_pos O];have L:0<=x.v∧x.v<p.n:=by
    rcases t with c|c|⟨_,c⟩|c
    ·omega
    ·omega
    ·exact c
    ·omega
   have hU:=λW=>ZZ V f x.v W j.1 j.2 L.1 L.2;rw[O]at R a y;generalize le i p.n f x.v=z at *;generalize x.v=v at *;generalize x.l=l at *;generalize x.r=r at *;generalize p.ex.length=m at *;generalize p.n=n at *;have x1:=y.c 1 _ rfl
   replace d:=Z_ d;replace a:=Z_ a;replace hU:=Z_ hU;clear H P q V D G U Q k u t N y j L;go_in;go_wp2_with fail;rw[a.o];clear R d1 d2 d3 c4;obtain⟨J,b⟩:∃J,w.heap.size=J:=⟨_,rfl⟩
   rw[b]at x1;simp only[b];have af:Kp (w.heap.size=J):=⟨b⟩
   clear b;go_region_held3 (λE=>E.cell? ⟨sb,0,none⟩=some (.int .i64 n)∧E.cell? ⟨sb,1,none⟩=some (.string i)∧E.cell? ⟨J,1,none⟩=some (.int .i64 v)) (go_keep) ((go_at_call 55;refine(hU.o _).mono ?_;rintro F w5 ⟨rfl,ad⟩;subst ad));go_wp2;go_ret;exact⟨rfl,d.o.drew⟩
 ·rw[k,if_neg u];obtain⟨X,Y⟩:=(P e x D).resolve_left u;have T:Kp (∀W,Below M.heap.size M W->Calls prog 54 #[.pointer (some ⟨sb,0,none⟩),.int .i64 (x.l:Nat),.int .i64 f] W λF E=>F=.returned (.bool (Bq i p.n f p.ex x.l))∧Below W.heap.size W E):=⟨λW hW=>Q.o x.l W X (H.step (d.trans (hW.mono d.size))) (by omega)⟩
  have aa:Kp (∀W,Below M.heap.size M W->Calls prog 54 #[.pointer (some ⟨sb,0,none⟩),.int .i64 (x.r:Nat),.int .i64 f] W λF E=>F=.returned (.bool (Bq i p.n f p.ex x.r))∧Below W.heap.size W E):=⟨λW hW=>Q.o x.r W Y (H.step (d.trans (hW.mono d.size))) (by omega)⟩
  have k0:(x.op==0)=false:=Qf.2 λh=>u (.inl h);have k1:(x.op==1)=false:=Qf.2 λh=>u (.inr (.inl h))
  have k2:(x.op==10)=false:=Qf.2 λh=>u (.inr (.inr h));generalize Bq i p.n f p.ex x.l=A at *;generalize Bq i p.n f p.ex x.r=C at *;generalize x.op=op at *;generalize x.v=v at *;generalize x.l=l at *;generalize x.r=r at *;generalize p.ex.length=m at *;replace y:=Z_ y;replace d:=Z_ d;replace a:=Z_ a;clear H P q V D G U Q k u t N X Y y0 y1 j;go_in;go_wp2_with fail;rw[a.o];refine(T.o _ (Qh _ _)).mono ?_;rintro F w1 ⟨rfl,I⟩;obtain⟨J,b⟩:∃J,w.heap.size=J:=⟨_,rfl⟩
  have Z:=y.o.step I;rw[b]at Z;simp only[b];have x3:=Z.c 3 _ rfl;clear R d1 d2 d3 c4 T Z;have b:Kp _:=⟨b⟩
  replace I:=Z_ I;go_wp2_with fail;refine(aa.o _ I.o).mono ?_;rintro F w2 ⟨rfl,b2⟩;have b3:Kp (Below w.heap.size w w2):=⟨d.o.trans ((I.o.trans (b2.mono I.o.size)).mono d.o.size)⟩
  clear b2 I x3;cases A<;>cases C;all_goals
   go_wp2;go_ret;exact⟨rfl,b3.o⟩
theorem NR(rb sb B:Nat)(s d:ZB)(tp:Value)(p:Rs)(S:Nat->Value)(sv:List (Value×Value))(g:BA p.ex)(a:Dw p.n p.vs.length p.ex)(h:Cf d p.n)(c:Int)(b:Lv p.n c):∀k,PY rb sb B s d tp p S sv c k
 | 0=>λe w j=>by omega
 | k+1=>λe w j H i=>W9 rb sb B s d tp p S sv g a h c b e ⟨λf w l=>NR rb sb B s d tp p S sv g a h c b k f w (by omega)⟩ w H _ (Qn i)
theorem SR(f:Nat->Int->Int->Int)(c:Int)(n:Nat):∀(l:List Nat) (m:Int),D4 f (l++[n]) c m=f n c (D4 f l c m)
 | [],m=>rfl
 | i::l,m=>by simp only[Uj,D4];exact SR f c n l _
theorem SS{w:World}{B:Nat}{e:TypeId}{z:Nat}{v:Value}{k:Nat}{f:List Value}(h:w.ownsRow B e z v k f):k<=maxLen:=by
 rcases h.2 with ⟨_,rfl⟩|⟨g,a,b,_,_,_,c,d,_⟩
 ·exact Q8 _
 ·exact Qg c d
def PW(rb sb B:Nat)(s tb:ZB)(tp:Value)(p:Rs)(S:Nat->Value)(sv:List (Value×Value))(k:Nat):Prop:=∀(l:List Nat) (lv:Value) (ct:Int) (w:World),(∀n,n∈l->n<k∧n<p.sm.length)->YB w rb sb B s p tb tp S sv->BD w B S lv l->Lv p.n ct->
 Calls prog 22 #[.pointer (some ⟨sb,0,none⟩),lv,.int .i64 ct] w λen w'=>en=.returned (.int .i64 (Cx tb p.n p.vs p.ex p.sm l ct (-1)))∧Below w.heap.size w w'
theorem Ri(rb sb B:Nat)(s P:ZB)(tp:Value)(p:Rs)(S:Nat->Value)(sv:List (Value×Value))(hE:BA p.ex)(aP:BY p.ex p.sm)(ar:Dw p.n p.vs.length p.ex)(hV:Ev p.n p.vs)(a1:∀x,x∈p.sm->SB p.n p.vs.length x)(ht:Cf P p.n)(L:Cs P p.n)(k:Nat)(l:List Nat)(ih:l≠[]->Kp (PW rb sb B s P tp p S sv k))(lv:Value)(ct:Int)(w:World)(hn:∀n,n∈l->n<k+1∧n<p.sm.length)(H:YB w rb sb B s p P tp S sv)(hI:BD w B S lv l)(an:Lv p.n ct) :
  Calls prog 22 #[.pointer (some ⟨sb,0,none⟩),lv,.int .i64 ct] w λC J=>C=.returned (.int .i64 (Cx P p.n p.vs p.ex p.sm l ct (-1)))∧Below w.heap.size w J:=by
 obtain⟨p1,c1,hv⟩:=Zc hI.1;have bf:(l.length:Int)<=9223372036854775807:=by have:=SS hI.1;unfold maxLen at this;omega
 replace H:=Z_ H;replace hI:=Z_ hI;replace hn:=Z_ hn;subst hv;go_in;go_wp2_with fail;go_loopw [7,8] (λmv d wr=>∃(i:Nat) (m:Int),mv=.int .i64 m∧d=.int .i64 i∧i<=l.length∧Kp (m=Cx P p.n p.vs p.ex p.sm (l.take i) ct (-1))∧Kp (Below w.heap.size w wr)) (λ_ d _=>l.length-(intOf d).toNat);case atStart=>exact⟨0,-1,rfl,rfl,Q8 _,⟨rfl⟩,⟨Qh _ _⟩⟩
 case round=>
  obtain⟨i,m,rfl,rfl,hi,hm,hb⟩:=hrel;by_cases aU:i<l.length
  ·have ax:l[i]?=some l[i]:=Qn aU;have ah:l[i]∈l:=Ua aU;have aY:l.take (i+1)=l.take i++[l[i]]:=by rw[List.take_add_one,ax];rfl
   obtain⟨n,a5⟩:∃n,l[i]=n:=⟨_,rfl⟩
   rw[a5]at ax ah aY;obtain⟨bg,a4⟩:=hn.o n ah;have hx:p.sm[n]?=some p.sm[n]:=Qn a4;obtain⟨x,a9⟩:∃x,p.sm[n]=x:=⟨_,rfl⟩
   rw[a9]at hx;have a8:=Qw hx;have ih:=ih (λe=>by rw[e]at ah;simp at ah);obtain⟨o1,o2,o3⟩:=aP n x hx;have Hr:=H.o.step hb.o;obtain⟨gl,cl,aV,bc,aS⟩:=(hI.o.step hb.o).at ax;obtain⟨rfl,rfl⟩:p1=some ⟨gl,0,none⟩∧c1=cl:=by injection aV with a b c;exact⟨a,c⟩
   obtain⟨g,cg,y,a0,hg,hy,aj,ak,Q⟩:=Hr.stat hx;have d0:wr.cell? ⟨g,n*7,none⟩=some (.int .u8 x.k):=Q 0 _ rfl;have d1:=Q 1 _ rfl;have d2:=Q 2 _ rfl;have d3:=Q 3 _ rfl;have d4:=Q 4 _ rfl;have d5:=Q 5 _ rfl;have d6:=Q 6 _ rfl;have c5:wr.cell? ⟨sb,5,none⟩=some (.slice (some ⟨g,0,none⟩) p.sm.length cg):=by rw[<-a0];exact Hr.c 1 (by omega)
   have be:(i:Int)<(l.length:Int):=by omega
   have a3:(n:Int)<(p.sm.length:Int):=by omega
   have ba:=Hr.lt;obtain⟨p4,q4,e4⟩:=Zc aj.1;obtain⟨p5,q5,e5⟩:=Zc ak.1;rw[e4]at d4 aj;rw[e5]at d5 ak;obtain⟨u,ap⟩:∃u,(wr.alloc (.cells #[.int .u8 x.k,.int .i64 (x.a:Nat),.int .i64 x.v,.int .i64 (x.e:Nat),.slice p4 x.bo.length q4,.slice p5 x.el.length q5,.bool x.two] 123)).drew=u:=⟨_,rfl⟩
   replace Hr:=Z_ Hr;replace aj:=Z_ aj;replace ak:=Z_ ak;replace ap:=Z_ ap;replace hm:Kp _:=hm;have G:Below wr.heap.size wr u:=by rw[<-ap.o];exact((Qh _ _).alloc (Qb _) _).drew
   have Hx:=Hr.o.step G;have K:=(Dd wr (.int .u8 x.k) (.int .i64 (x.a:Nat)) (.int .i64 x.v) (.int .i64 (x.e:Nat)) (.slice p4 x.bo.length q4) (.slice p5 x.el.length q5) (.bool x.two) 123).step ((Qh _ _).drew);rw[ap.o]at K;obtain⟨aq,ao⟩:∃z,Bl P p.n p.vs p.ex x.e=z:=⟨_,rfl⟩
   have ay:Lv p.n aq:=by rw[<-ao];exact(Nh L hE ar hV x.e o1).1
   obtain⟨Y,aL⟩:∃z,jn P p.n ct aq=z:=⟨_,rfl⟩
   have ag:Lv p.n Y:=by rw[<-aL];exact L.jin _ _ an ay
   obtain⟨D,hD⟩:∃z,Bq P p.n ct p.ex x.e=z:=⟨_,rfl⟩
   obtain⟨Dv,aO⟩:∃z,Bq P p.n Y p.ex x.e=z:=⟨_,rfl⟩
   obtain⟨m1,aW⟩:∃z,Cx P p.n p.vs p.ex p.sm x.bo Y (-1)=z:=⟨_,rfl⟩
   obtain⟨m2,aX⟩:∃z,Cx P p.n p.vs p.ex p.sm x.el Y (-1)=z:=⟨_,rfl⟩
   have az:Kp (∀W,Below u.heap.size u W->Calls prog 53 #[.pointer (some ⟨sb,0,none⟩),.int .i64 (x.e:Nat)] W λC J=>C=.returned (.int .i64 aq)∧Below W.heap.size W J):=⟨λW hW=>by rw[<-ao];exact RF rb sb B s P tp p S sv hE ar hV ht L (x.e+1) x.e W (by omega) (Hx.step hW) o1⟩
   have hJ:Kp (∀W,Calls prog 52 #[.string P,.int .i64 p.n,.int .i64 ct,.int .i64 aq] W λe J=>e=.returned (.int .i64 Y)∧J=W):=⟨λW=>by rw[<-aL,<-VF L an ay];exact KL ht ct aq W an.1 an.2 ay.1 ay.2⟩
   have aN:Kp (∀W,Below u.heap.size u W->Calls prog 54 #[.pointer (some ⟨sb,0,none⟩),.int .i64 (x.e:Nat),.int .i64 ct] W λC J=>C=.returned (.bool D)∧Below W.heap.size W J):=⟨λW hW=>by rw[<-hD];exact NR rb sb B s P tp p S sv hE ar ht ct an (x.e+1) x.e W (by omega) (Hx.step hW) o1⟩
   have aZ:Kp (∀W,Below u.heap.size u W->Calls prog 54 #[.pointer (some ⟨sb,0,none⟩),.int .i64 (x.e:Nat),.int .i64 Y] W λC J=>C=.returned (.bool Dv)∧Below W.heap.size W J):=⟨λW hW=>by rw[<-aO];exact NR rb sb B s P tp p S sv hE ar ht Y ag (x.e+1) x.e W (by omega) (Hx.step hW) o1⟩
   have aa:Kp (∀W,Below u.heap.size u W->Calls prog 22 #[.pointer (some ⟨sb,0,none⟩),.slice p4 x.bo.length q4,.int .i64 Y] W λC J=>C=.returned (.int .i64 m1)∧Below W.heap.size W J):=⟨λW hW=>by rw[<-aW];exact ih.o x.bo _ Y W (λj hj=>⟨by have:=o2 j hj;omega,by have:=o2 j hj;omega⟩) (Hx.step hW) ((aj.o.step G).step hW) ag⟩
   have ab:Kp (∀W,Below u.heap.size u W->Calls prog 22 #[.pointer (some ⟨sb,0,none⟩),.slice p5 x.el.length q5,.int .i64 Y] W λC J=>C=.returned (.int .i64 m2)∧Below W.heap.size W J):=⟨λW hW=>by rw[<-aX];exact ih.o x.el _ Y W (λj hj=>⟨by have:=o3 j hj;omega,by have:=o3 j hj;omega⟩) (Hx.step hW) ((ak.o.step G).step hW) ag⟩
   have t:Kp (∀(a b:Int) (W:World),Calls prog 56 #[.int .i64 a,.int .i64 b] W λe J=>e=.returned (.int .i64 (CA a b))∧J=W):=⟨λa b W=>W7 a b W⟩
   have I:Kp (∀ok,D5 P p.n p.vs p.ex x ct Y=ok->Cx P p.n p.vs p.ex p.sm (l.take (i+1)) ct (-1)=CA (CA (if ok=true then m else CA m x.a) m1) m2):=⟨λok M=>by
    rw[aY];show D4 (Mg P p.n p.vs p.ex p.sm) (l.take i++[n]) ct (-1)=_;rw[SR];have:D4 (Mg P p.n p.vs p.ex p.sm) (l.take i) ct (-1)=m:=hm.o.symm;rw[this,Zsg aP hx,ao,aL,M,aW,aX]⟩
   have al:=a1 x a8;have aH:Kp (x.k=61->D5 P p.n p.vs p.ex x ct Y=(D&&le P p.n Y (p.vs.getD x.v.toNat 0))):=⟨λh=>by unfold D5;rw[if_pos h,hD]⟩
   have aI:Kp (x.k=62->D5 P p.n p.vs p.ex x ct Y=(D&&le P p.n Y x.v)):=⟨λh=>by unfold D5;rw[if_neg (by omega),if_pos h,hD]⟩
   have aJ:Kp (x.k=63->D5 P p.n p.vs p.ex x ct Y=D):=⟨λh=>by unfold D5;rw[if_neg (by omega),if_neg (by omega),if_neg (by omega),hD]⟩
   have aK:Kp (x.k=64->D5 P p.n p.vs p.ex x ct Y=Dv):=⟨λh=>by unfold D5;rw[if_neg (by omega),if_neg (by omega),if_pos h,aO]⟩
   replace Hx:=Z_ Hx;replace K:=Z_ K;replace G:=Z_ G;replace al:=Z_ al;have n1:=World.new_ne wr _ c5;have n2:=World.new_ne wr _ aS;have n3:=World.new_ne wr _ d0;clear Q aV ax;go_wp2_with fail;go_region_held3 (λJ=>J.cell? ⟨sb,5,none⟩=some (.slice (some ⟨g,0,none⟩) p.sm.length cg)∧J.cell? ⟨gl,i,none⟩=some (.int .i64 (n:Nat))∧J.cell? ⟨g,n*7,none⟩=some (.int .u8 x.k)∧J.cell? ⟨g,n*7+1,none⟩=some (.int .i64 (x.a:Nat))∧J.cell? ⟨g,n*7+2,none⟩=some (.int .i64 x.v)∧J.cell? ⟨g,n*7+3,none⟩=some (.int .i64 (x.e:Nat))∧J.cell? ⟨g,n*7+4,none⟩=some (.slice p4 x.bo.length q4)∧J.cell? ⟨g,n*7+5,none⟩=some (.slice p5 x.el.length q5)∧J.cell? ⟨g,n*7+6,none⟩=some (.bool x.two)) (go_keep) (fail);rw[ap.o];clear d0 d1 d2 d3 d4 d5 d6 c5 aS n1 n2 n3;have y0:=Hx.o.cn;have y1:=Hx.o.ct;have z3:=K.o.c 3 _ rfl;obtain⟨gx,aT⟩:∃gx,Kp (wr.heap.size=gx):=⟨_,⟨rfl⟩⟩
   rw[aT.o]at K z3;simp only[aT.o];obtain⟨N,hN⟩:∃N,Kp (p.n=N):=⟨_,⟨rfl⟩⟩
   rw[hN.o]at y0;have aF:=hJ;rw[hN.o]at aF;go_wp2_with fail;go_region_held3 (λJ=>J.cell? ⟨sb,0,none⟩=some (.int .i64 N)∧J.cell? ⟨sb,1,none⟩=some (.string P)∧J.cell? ⟨gx,3,none⟩=some (.int .i64 (x.e:Nat))) (go_keep) (first
    | (go_at_call 52;refine(aF.o _).mono ?_;rintro C w6 ⟨rfl,a6⟩;subst a6)
    | (go_at_call 53;refine(az.o _ ((Qh _ _).drew)).mono ?_;rintro C w5 ⟨rfl,bb⟩;have bn:Below u.heap.size u w5:=(((Qh _ _).drew).trans bb);have o0:w5.cell? ⟨sb,0,none⟩=some (.int .i64 N):=(by rw[<-hN.o];exact(Hx.o.step bn).cn);have o1:=(Hx.o.step bn).ct;have o3:=(K.o.step bn).c 3 _ rfl;clear bb))
   have b6:Kp (Below u.heap.size u w6):=⟨by assumption⟩
   have t3:=(K.o.step b6.o).c 3 _ rfl;clear y0 y1 z3 hJ aF az;go_wp2_with fail;refine(aN.o _ b6.o).mono ?_;rintro C X ⟨rfl,R⟩;have F:Kp (Below u.heap.size u X):=⟨b6.o.trans (R.mono b6.o.size)⟩
   have s0:=(K.o.step F.o).c 0 _ rfl;clear b6 R t3 aN;rcases al.o with ⟨aB,av,aw⟩|⟨aC,av,aw⟩|aD|aE
   ·obtain⟨j,hj⟩:∃j:Nat,x.v=j:=⟨x.v.toNat,by omega⟩
    have au:j<p.vs.length:=by omega
    have M:=aH.o aB;have ai:=hV.at au;obtain⟨z,hz⟩:∃z,p.vs.getD j 0=z:=⟨_,rfl⟩
    rw[hz]at ai;rw[hj,QC,hz]at M;obtain⟨U,hU⟩:∃U,le P p.n Y z=U:=⟨_,rfl⟩
    rw[hU]at M;have aG:Kp (∀W,Calls prog 55 #[.string P,.int .i64 N,.int .i64 Y,.int .i64 z] W λe J=>e=.returned (.bool U)∧J=W):=⟨λW=>by rw[<-hU,<-hN.o];exact ZZ ht Y z W ag.1 ag.2 ai.1 ai.2⟩
    have n6:p.n<=6:=ht.2;have af:0<=z∧z<=255:=⟨ai.1,by have:=ai.2;omega⟩
    have aR:j<(bs p.vs).size:=by rw[Zd];exact au
    have aQ:bv (bs p.vs) j=z:=Nt (by rw[<-hz,Qs,Qn au];rfl) af.1 af.2;have aA:=ZJ (bs p.vs) j aR;rw[aQ]at aA;have a7:IntKind.i64.wrap z=z:=by rw[IntKind.wrap_i64];omega
    have a2:(j:Int)<((bs p.vs).size:Int):=by omega
    have y3:=(Hx.o.step F.o).cv;have y1:=(Hx.o.step F.o).ct;have y0:=(Hx.o.step F.o).cn;rw[hN.o]at y0;have s2:=(K.o.step F.o).c 2 _ rfl;rw[hj]at s2;rw[aB]at s0;generalize bs p.vs=V at *;replace M:=Z_ M;clear aQ hz hU n6 au ai af hj av aw aB;cases D
    ·have E:Kp _:=⟨I.o false (by rw[M.o];rfl)⟩
     clear y0 y1 y3 s2;go_wp2_with fail;refine wp_region_noPanic ?_;refine wp_region_held_drew (S:=λ_=>True) (by kernel_rfl) trivial (λad=>?_);refine AS (i:=0) (v:=?_) rfl (Or.inl ⟨by rfl,?_⟩) trivial ?_;rotate_left
     ·intro w ae;go_simp;(try with_reducible rfl)
     try simp only[Act.put,Qa,Qc,Qd]
     refine AS (i:=1) (v:=?_) rfl (Or.inl ⟨by rfl,?_⟩) trivial ?_;rotate_left
     ·intro w ae;go_simp;(try with_reducible rfl)
     try simp only[Act.put,Qa,Qc,Qd]
     refine AS (i:=2) (v:=undef) rfl (Or.inr ⟨by kernel_rfl,rfl⟩) trivial ?_;try simp only[Act.put,Qa,Qc,Qd]
     refine AS (i:=3) (v:=undef) rfl (Or.inr ⟨by kernel_rfl,rfl⟩) trivial ?_;try simp only[Act.put,Qa,Qc,Qd]
     refine AS (i:=4) (v:=undef) rfl (Or.inr ⟨by kernel_rfl,rfl⟩) trivial ?_;try simp only[Act.put,Qa,Qc,Qd]
     refine AS (i:=5) (v:=undef) rfl (Or.inr ⟨by kernel_rfl,rfl⟩) trivial ?_;try simp only[Act.put,Qa,Qc,Qd]
     refine AS (i:=6) (v:=undef) rfl (Or.inr ⟨by kernel_rfl,rfl⟩) trivial ?_;try simp only[Act.put,Qa,Qc,Qd]
     refine AS (i:=7) (v:=undef) rfl (Or.inr ⟨by kernel_rfl,rfl⟩) trivial ?_;try simp only[Act.put,Qa,Qc,Qd]
     refine AS (i:=8) (v:=undef) rfl (Or.inr ⟨by kernel_rfl,rfl⟩) trivial ?_;try simp only[Act.put,Qa,Qc,Qd]
     refine AS (i:=9) (v:=undef) rfl (Or.inr ⟨by kernel_rfl,rfl⟩) trivial ?_;try simp only[Act.put,Qa,Qc,Qd]
     refine AS (i:=10) (v:=undef) rfl (Or.inr ⟨by kernel_rfl,rfl⟩) trivial ?_;try simp only[Act.put,Qa,Qc,Qd]
     refine AS (i:=11) (v:=undef) rfl (Or.inr ⟨by kernel_rfl,rfl⟩) trivial ?_;try simp only[Act.put,Qa,Qc,Qd]
     refine AS (i:=12) (v:=undef) rfl (Or.inr ⟨by kernel_rfl,rfl⟩) trivial ?_;try simp only[Act.put,Qa,Qc,Qd]
     refine AS (i:=13) (v:=undef) rfl (Or.inr ⟨by kernel_rfl,rfl⟩) trivial ?_;try simp only[Act.put,Qa,Qc,Qd]
     refine AS (i:=14) (v:=undef) rfl (Or.inr ⟨by kernel_rfl,rfl⟩) trivial ?_;try simp only[Act.put,Qa,Qc,Qd]
     refine AS (i:=15) (v:=undef) rfl (Or.inr ⟨by kernel_rfl,rfl⟩) trivial ?_;try simp only[Act.put,Qa,Qc,Qd]
     refine AS (i:=16) (v:=undef) rfl (Or.inr ⟨by kernel_rfl,rfl⟩) trivial ?_;try simp only[Act.put,Qa,Qc,Qd]
     refine AS (i:=17) (v:=undef) rfl (Or.inr ⟨by kernel_rfl,rfl⟩) trivial ?_;try simp only[Act.put,Qa,Qc,Qd]
     refine AS (i:=18) (v:=undef) rfl (Or.inr ⟨by kernel_rfl,rfl⟩) trivial ?_;try simp only[Act.put,Qa,Qc,Qd]
     refine AS (i:=19) (v:=undef) rfl (Or.inr ⟨by kernel_rfl,rfl⟩) trivial ?_;try simp only[Act.put,Qa,Qc,Qd]
     refine AS (i:=20) (v:=?_) rfl (Or.inl ⟨by rfl,?_⟩) trivial ?_;rotate_left
     ·intro w ae;go_simp;(try with_reducible rfl)
     try simp only[Act.put,Qa,Qc,Qd]
     refine AS (i:=21) (v:=?_) rfl (Or.inl ⟨by rfl,?_⟩) trivial ?_;rotate_left
     ·intro w ae;go_simp;(try with_reducible rfl)
     try simp only[Act.put,Qa,Qc,Qd]
     refine wpAnyH_done (by kernel_rfl) ?_ _;refine NoPanic.normal ?_;have A:Kp (Below u.heap.size u X.drew):=⟨F.o.drew⟩
     clear F s0 ad;have s1:=(K.o.step A.o).c 1 _ rfl;have s4:=(K.o.step A.o).c 4 _ rfl;go_wp2_with fail;refine(t.o m (x.a:Nat) _).mono ?_;rintro C Z ⟨rfl,f⟩;have q:=f.symm;clear f;subst q;go_wp2_with fail;refine(aa.o _ A.o).mono ?_;rintro C X ⟨rfl,R⟩;have r:Kp (Below u.heap.size u X):=⟨A.o.trans (R.mono A.o.size)⟩
     have s5:=(K.o.step r.o).c 5 _ rfl;clear s1 s4 R A;go_wp2_with fail;refine(t.o _ _ _).mono ?_;rintro C Z ⟨rfl,f⟩;have q:=f.symm;clear f;subst q;go_wp2_with fail;refine(ab.o _ r.o).mono ?_;rintro C w8 ⟨rfl,T⟩;have O:Kp (Below u.heap.size u w8):=⟨r.o.trans (T.mono r.o.size)⟩
     clear s5 T r;go_wp2_with fail;refine(t.o _ _ _).mono ?_;rintro C Z ⟨rfl,f⟩;have q:=f.symm;clear f;subst q;go_wp2_with fail;go_roundw;case rel=>exact⟨i+1,_,rfl,by go_num,by omega,⟨by rw[E.o];rfl⟩,⟨hb.o.trans ((G.o.trans (O.o.mono G.o.size)).mono hb.o.size)⟩⟩
     case measure=>simp[intOf];omega
    ·have am:Kp (D5 P p.n p.vs p.ex x ct Y=U):=⟨by rw[M.o];rfl⟩
     go_wp2_with fail;go_region_held3 (λJ=>J.cell? ⟨sb,0,none⟩=some (.int .i64 N)∧J.cell? ⟨sb,1,none⟩=some (.string P)∧J.cell? ⟨sb,3,none⟩=some (.string V)∧J.cell? ⟨gx,2,none⟩=some (.int .i64 (j:Nat))) (go_keep) ((go_at_call 55;refine(aG.o _).mono ?_;rintro C w9 ⟨rfl,aM⟩;subst aM));clear y0 y1 y3 s2 aA a7 a2 aR;cases U
     ·have E:Kp _:=⟨I.o false am.o⟩
      have A:Kp (Below u.heap.size u X.drew):=⟨F.o.drew⟩
      clear F s0;have s1:=(K.o.step A.o).c 1 _ rfl;have s4:=(K.o.step A.o).c 4 _ rfl;go_wp2_with fail;refine(t.o m (x.a:Nat) _).mono ?_;rintro C Z ⟨rfl,f⟩;have q:=f.symm;clear f;subst q;go_wp2_with fail;refine(aa.o _ A.o).mono ?_;rintro C X ⟨rfl,R⟩;have r:Kp (Below u.heap.size u X):=⟨A.o.trans (R.mono A.o.size)⟩
      have s5:=(K.o.step r.o).c 5 _ rfl;clear s1 s4 R A;go_wp2_with fail;refine(t.o _ _ _).mono ?_;rintro C Z ⟨rfl,f⟩;have q:=f.symm;clear f;subst q;go_wp2_with fail;refine(ab.o _ r.o).mono ?_;rintro C w8 ⟨rfl,T⟩;have O:Kp (Below u.heap.size u w8):=⟨r.o.trans (T.mono r.o.size)⟩
      clear s5 T r;go_wp2_with fail;refine(t.o _ _ _).mono ?_;rintro C Z ⟨rfl,f⟩;have q:=f.symm;clear f;subst q;go_wp2_with fail;go_roundw;case rel=>exact⟨i+1,_,rfl,by go_num,by omega,⟨by rw[E.o];rfl⟩,⟨hb.o.trans ((G.o.trans (O.o.mono G.o.size)).mono hb.o.size)⟩⟩
      case measure=>simp[intOf];omega
     ·have E:Kp _:=⟨I.o true am.o⟩
      have A:Kp (Below u.heap.size u X.drew):=⟨F.o.drew⟩
      clear F s0;have s1:=(K.o.step A.o).c 1 _ rfl;have s4:=(K.o.step A.o).c 4 _ rfl;go_wp2_with fail;refine(aa.o _ A.o).mono ?_;rintro C X ⟨rfl,R⟩;have r:Kp (Below u.heap.size u X):=⟨A.o.trans (R.mono A.o.size)⟩
      have s5:=(K.o.step r.o).c 5 _ rfl;clear s1 s4 R A;go_wp2_with fail;refine(t.o _ _ _).mono ?_;rintro C Z ⟨rfl,f⟩;have q:=f.symm;clear f;subst q;go_wp2_with fail;refine(ab.o _ r.o).mono ?_;rintro C w8 ⟨rfl,T⟩;have O:Kp (Below u.heap.size u w8):=⟨r.o.trans (T.mono r.o.size)⟩
      clear s5 T r;go_wp2_with fail;refine(t.o _ _ _).mono ?_;rintro C Z ⟨rfl,f⟩;have q:=f.symm;clear f;subst q;go_wp2_with fail;go_roundw;case rel=>exact⟨i+1,_,rfl,by go_num,by omega,⟨by rw[E.o];rfl⟩,⟨hb.o.trans ((G.o.trans (O.o.mono G.o.size)).mono hb.o.size)⟩⟩
      case measure=>simp[intOf];omega
   ·have M:=aI.o aC;obtain⟨U,hU⟩:∃U,le P p.n Y x.v=U:=⟨_,rfl⟩
    rw[hU]at M;have aG:Kp (∀W,Calls prog 55 #[.string P,.int .i64 N,.int .i64 Y,.int .i64 x.v] W λe J=>e=.returned (.bool U)∧J=W):=⟨λW=>by rw[<-hU,<-hN.o];exact ZZ ht Y x.v W ag.1 ag.2 av aw⟩
    have y1:=(Hx.o.step F.o).ct;have y0:=(Hx.o.step F.o).cn;rw[hN.o]at y0;have s2:=(K.o.step F.o).c 2 _ rfl;rw[aC]at s0;replace M:=Z_ M;clear hU av aw aC;cases D
    ·have E:Kp _:=⟨I.o false (by rw[M.o];rfl)⟩
     clear y0 y1 s2;go_wp2_with fail;refine wp_region_noPanic ?_;refine wp_region_held_drew (S:=λ_=>True) (by kernel_rfl) trivial (λad=>?_);refine AS (i:=0) (v:=?_) rfl (Or.inl ⟨by rfl,?_⟩) trivial ?_;rotate_left
     ·intro w ae;go_simp;(try with_reducible rfl)
     try simp only[Act.put,Qa,Qc,Qd]
     refine AS (i:=1) (v:=?_) rfl (Or.inl ⟨by rfl,?_⟩) trivial ?_;rotate_left
     ·intro w ae;go_simp;(try with_reducible rfl)
     try simp only[Act.put,Qa,Qc,Qd]
     refine AS (i:=2) (v:=undef) rfl (Or.inr ⟨by kernel_rfl,rfl⟩) trivial ?_;try simp only[Act.put,Qa,Qc,Qd]
     refine AS (i:=3) (v:=undef) rfl (Or.inr ⟨by kernel_rfl,rfl⟩) trivial ?_;try simp only[Act.put,Qa,Qc,Qd]
     refine AS (i:=4) (v:=undef) rfl (Or.inr ⟨by kernel_rfl,rfl⟩) trivial ?_;try simp only[Act.put,Qa,Qc,Qd]
     refine AS (i:=5) (v:=undef) rfl (Or.inr ⟨by kernel_rfl,rfl⟩) trivial ?_;try simp only[Act.put,Qa,Qc,Qd]
     refine AS (i:=6) (v:=undef) rfl (Or.inr ⟨by kernel_rfl,rfl⟩) trivial ?_;try simp only[Act.put,Qa,Qc,Qd]
     refine AS (i:=7) (v:=undef) rfl (Or.inr ⟨by kernel_rfl,rfl⟩) trivial ?_;try simp only[Act.put,Qa,Qc,Qd]
     refine AS (i:=8) (v:=undef) rfl (Or.inr ⟨by kernel_rfl,rfl⟩) trivial ?_;try simp only[Act.put,Qa,Qc,Qd]
     refine AS (i:=9) (v:=undef) rfl (Or.inr ⟨by kernel_rfl,rfl⟩) trivial ?_;try simp only[Act.put,Qa,Qc,Qd]
     refine AS (i:=10) (v:=undef) rfl (Or.inr ⟨by kernel_rfl,rfl⟩) trivial ?_;try simp only[Act.put,Qa,Qc,Qd]
     refine AS (i:=11) (v:=undef) rfl (Or.inr ⟨by kernel_rfl,rfl⟩) trivial ?_;try simp only[Act.put,Qa,Qc,Qd]
     refine AS (i:=12) (v:=undef) rfl (Or.inr ⟨by kernel_rfl,rfl⟩) trivial ?_;try simp only[Act.put,Qa,Qc,Qd]
     refine AS (i:=13) (v:=undef) rfl (Or.inr ⟨by kernel_rfl,rfl⟩) trivial ?_;try simp only[Act.put,Qa,Qc,Qd]
     refine AS (i:=14) (v:=?_) rfl (Or.inl ⟨by rfl,?_⟩) trivial ?_;rotate_left
     ·intro w ae;go_simp;(try with_reducible rfl)
     try simp only[Act.put,Qa,Qc,Qd]
     refine AS (i:=15) (v:=?_) rfl (Or.inl ⟨by rfl,?_⟩) trivial ?_;rotate_left
     ·intro w ae;go_simp;(try with_reducible rfl)
     try simp only[Act.put,Qa,Qc,Qd]
     refine wpAnyH_done (by kernel_rfl) ?_ _;refine NoPanic.normal ?_;have A:Kp (Below u.heap.size u X.drew):=⟨F.o.drew⟩
     clear F s0 ad;have s1:=(K.o.step A.o).c 1 _ rfl;have s4:=(K.o.step A.o).c 4 _ rfl;go_wp2_with fail;refine(t.o m (x.a:Nat) _).mono ?_;rintro C Z ⟨rfl,f⟩;have q:=f.symm;clear f;subst q;go_wp2_with fail;refine(aa.o _ A.o).mono ?_;rintro C X ⟨rfl,R⟩;have r:Kp (Below u.heap.size u X):=⟨A.o.trans (R.mono A.o.size)⟩
     have s5:=(K.o.step r.o).c 5 _ rfl;clear s1 s4 R A;go_wp2_with fail;refine(t.o _ _ _).mono ?_;rintro C Z ⟨rfl,f⟩;have q:=f.symm;clear f;subst q;go_wp2_with fail;refine(ab.o _ r.o).mono ?_;rintro C w8 ⟨rfl,T⟩;have O:Kp (Below u.heap.size u w8):=⟨r.o.trans (T.mono r.o.size)⟩
     clear s5 T r;go_wp2_with fail;refine(t.o _ _ _).mono ?_;rintro C Z ⟨rfl,f⟩;have q:=f.symm;clear f;subst q;go_wp2_with fail;go_roundw;case rel=>exact⟨i+1,_,rfl,by go_num,by omega,⟨by rw[E.o];rfl⟩,⟨hb.o.trans ((G.o.trans (O.o.mono G.o.size)).mono hb.o.size)⟩⟩
     case measure=>simp[intOf];omega
    ·have am:Kp (D5 P p.n p.vs p.ex x ct Y=U):=⟨by rw[M.o];rfl⟩
     go_wp2_with fail;go_region_held3 (λJ=>J.cell? ⟨sb,0,none⟩=some (.int .i64 N)∧J.cell? ⟨sb,1,none⟩=some (.string P)∧J.cell? ⟨gx,2,none⟩=some (.int .i64 x.v)) (go_keep) ((go_at_call 55;refine(aG.o _).mono ?_;rintro C w9 ⟨rfl,aM⟩;subst aM));clear y0 y1 s2;cases U
     ·have E:Kp _:=⟨I.o false am.o⟩
      have A:Kp (Below u.heap.size u X.drew):=⟨F.o.drew⟩
      clear F s0;have s1:=(K.o.step A.o).c 1 _ rfl;have s4:=(K.o.step A.o).c 4 _ rfl;go_wp2_with fail;refine(t.o m (x.a:Nat) _).mono ?_;rintro C Z ⟨rfl,f⟩;have q:=f.symm;clear f;subst q;go_wp2_with fail;refine(aa.o _ A.o).mono ?_;rintro C X ⟨rfl,R⟩;have r:Kp (Below u.heap.size u X):=⟨A.o.trans (R.mono A.o.size)⟩
      have s5:=(K.o.step r.o).c 5 _ rfl;clear s1 s4 R A;go_wp2_with fail;refine(t.o _ _ _).mono ?_;rintro C Z ⟨rfl,f⟩;have q:=f.symm;clear f;subst q;go_wp2_with fail;refine(ab.o _ r.o).mono ?_;rintro C w8 ⟨rfl,T⟩;have O:Kp (Below u.heap.size u w8):=⟨r.o.trans (T.mono r.o.size)⟩
      clear s5 T r;go_wp2_with fail;refine(t.o _ _ _).mono ?_;rintro C Z ⟨rfl,f⟩;have q:=f.symm;clear f;subst q;go_wp2_with fail;go_roundw;case rel=>exact⟨i+1,_,rfl,by go_num,by omega,⟨by rw[E.o];rfl⟩,⟨hb.o.trans ((G.o.trans (O.o.mono G.o.size)).mono hb.o.size)⟩⟩
      case measure=>simp[intOf];omega
     ·have E:Kp _:=⟨I.o true am.o⟩
      have A:Kp (Below u.heap.size u X.drew):=⟨F.o.drew⟩
      clear F s0;have s1:=(K.o.step A.o).c 1 _ rfl;have s4:=(K.o.step A.o).c 4 _ rfl;go_wp2_with fail;refine(aa.o _ A.o).mono ?_;rintro C X ⟨rfl,R⟩;have r:Kp (Below u.heap.size u X):=⟨A.o.trans (R.mono A.o.size)⟩
      have s5:=(K.o.step r.o).c 5 _ rfl;clear s1 s4 R A;go_wp2_with fail;refine(t.o _ _ _).mono ?_;rintro C Z ⟨rfl,f⟩;have q:=f.symm;clear f;subst q;go_wp2_with fail;refine(ab.o _ r.o).mono ?_;rintro C w8 ⟨rfl,T⟩;have O:Kp (Below u.heap.size u w8):=⟨r.o.trans (T.mono r.o.size)⟩
      clear s5 T r;go_wp2_with fail;refine(t.o _ _ _).mono ?_;rintro C Z ⟨rfl,f⟩;have q:=f.symm;clear f;subst q;go_wp2_with fail;go_roundw;case rel=>exact⟨i+1,_,rfl,by go_num,by omega,⟨by rw[E.o];rfl⟩,⟨hb.o.trans ((G.o.trans (O.o.mono G.o.size)).mono hb.o.size)⟩⟩
      case measure=>simp[intOf];omega
   ·have M:Kp _:=⟨aJ.o aD⟩
    rw[aD]at s0;clear aD;have A:=F;clear F;cases D
    ·have E:Kp _:=⟨I.o false M.o⟩
     have s1:=(K.o.step A.o).c 1 _ rfl;have s4:=(K.o.step A.o).c 4 _ rfl;go_wp2_with fail;refine(t.o m (x.a:Nat) _).mono ?_;rintro C Z ⟨rfl,f⟩;have q:=f.symm;clear f;subst q;go_wp2_with fail;refine(aa.o _ A.o).mono ?_;rintro C X ⟨rfl,R⟩;have r:Kp (Below u.heap.size u X):=⟨A.o.trans (R.mono A.o.size)⟩
     have s5:=(K.o.step r.o).c 5 _ rfl;clear s1 s4 R A;go_wp2_with fail;refine(t.o _ _ _).mono ?_;rintro C Z ⟨rfl,f⟩;have q:=f.symm;clear f;subst q;go_wp2_with fail;refine(ab.o _ r.o).mono ?_;rintro C w8 ⟨rfl,T⟩;have O:Kp (Below u.heap.size u w8):=⟨r.o.trans (T.mono r.o.size)⟩
     clear s5 T r;go_wp2_with fail;refine(t.o _ _ _).mono ?_;rintro C Z ⟨rfl,f⟩;have q:=f.symm;clear f;subst q;go_wp2_with fail;go_roundw;case rel=>exact⟨i+1,_,rfl,by go_num,by omega,⟨by rw[E.o];rfl⟩,⟨hb.o.trans ((G.o.trans (O.o.mono G.o.size)).mono hb.o.size)⟩⟩
     case measure=>simp[intOf];omega
    ·have E:Kp _:=⟨I.o true M.o⟩
     have s1:=(K.o.step A.o).c 1 _ rfl;have s4:=(K.o.step A.o).c 4 _ rfl;go_wp2_with fail;refine(aa.o _ A.o).mono ?_;rintro C X ⟨rfl,R⟩;have r:Kp (Below u.heap.size u X):=⟨A.o.trans (R.mono A.o.size)⟩
     have s5:=(K.o.step r.o).c 5 _ rfl;clear s1 s4 R A;go_wp2_with fail;refine(t.o _ _ _).mono ?_;rintro C Z ⟨rfl,f⟩;have q:=f.symm;clear f;subst q;go_wp2_with fail;refine(ab.o _ r.o).mono ?_;rintro C w8 ⟨rfl,T⟩;have O:Kp (Below u.heap.size u w8):=⟨r.o.trans (T.mono r.o.size)⟩
     clear s5 T r;go_wp2_with fail;refine(t.o _ _ _).mono ?_;rintro C Z ⟨rfl,f⟩;have q:=f.symm;clear f;subst q;go_wp2_with fail;go_roundw;case rel=>exact⟨i+1,_,rfl,by go_num,by omega,⟨by rw[E.o];rfl⟩,⟨hb.o.trans ((G.o.trans (O.o.mono G.o.size)).mono hb.o.size)⟩⟩
     case measure=>simp[intOf];omega
   ·have M:Kp _:=⟨aK.o aE⟩
    have s3:=(K.o.step F.o).c 3 _ rfl;rw[aE]at s0;clear aE;go_wp2_with fail;refine(aZ.o _ F.o).mono ?_;rintro C wd ⟨rfl,bd⟩;have A:Kp (Below u.heap.size u wd):=⟨F.o.trans (bd.mono F.o.size)⟩
    clear bd F s0 s3;cases Dv
    ·have E:Kp _:=⟨I.o false M.o⟩
     have s1:=(K.o.step A.o).c 1 _ rfl;have s4:=(K.o.step A.o).c 4 _ rfl;go_wp2_with fail;refine(t.o m (x.a:Nat) _).mono ?_;rintro C Z ⟨rfl,f⟩;have q:=f.symm;clear f;subst q;go_wp2_with fail;refine(aa.o _ A.o).mono ?_;rintro C X ⟨rfl,R⟩;have r:Kp (Below u.heap.size u X):=⟨A.o.trans (R.mono A.o.size)⟩
     have s5:=(K.o.step r.o).c 5 _ rfl;clear s1 s4 R A;go_wp2_with fail;refine(t.o _ _ _).mono ?_;rintro C Z ⟨rfl,f⟩;have q:=f.symm;clear f;subst q;go_wp2_with fail;refine(ab.o _ r.o).mono ?_;rintro C w8 ⟨rfl,T⟩;have O:Kp (Below u.heap.size u w8):=⟨r.o.trans (T.mono r.o.size)⟩
     clear s5 T r;go_wp2_with fail;refine(t.o _ _ _).mono ?_;rintro C Z ⟨rfl,f⟩;have q:=f.symm;clear f;subst q;go_wp2_with fail;go_roundw;case rel=>exact⟨i+1,_,rfl,by go_num,by omega,⟨by rw[E.o];rfl⟩,⟨hb.o.trans ((G.o.trans (O.o.mono G.o.size)).mono hb.o.size)⟩⟩
     case measure=>simp[intOf];omega
    ·have E:Kp _:=⟨I.o true M.o⟩
     have s1:=(K.o.step A.o).c 1 _ rfl;have s4:=(K.o.step A.o).c 4 _ rfl;go_wp2_with fail;refine(aa.o _ A.o).mono ?_;rintro C X ⟨rfl,R⟩;have r:Kp (Below u.heap.size u X):=⟨A.o.trans (R.mono A.o.size)⟩
     have s5:=(K.o.step r.o).c 5 _ rfl;clear s1 s4 R A;go_wp2_with fail;refine(t.o _ _ _).mono ?_;rintro C Z ⟨rfl,f⟩;have q:=f.symm;clear f;subst q;go_wp2_with fail;refine(ab.o _ r.o).mono ?_;rintro C w8 ⟨rfl,T⟩;have O:Kp (Below u.heap.size u w8):=⟨r.o.trans (T.mono r.o.size)⟩
     clear s5 T r;go_wp2_with fail;refine(t.o _ _ _).mono ?_;rintro C Z ⟨rfl,f⟩;have q:=f.symm;clear f;subst q;go_wp2_with fail;go_roundw;case rel=>exact⟨i+1,_,rfl,by go_num,by omega,⟨by rw[E.o];rfl⟩,⟨hb.o.trans ((G.o.trans (O.o.mono G.o.size)).mono hb.o.size)⟩⟩
     case measure=>simp[intOf];omega
  ·have e0:Kp (m=Cx P p.n p.vs p.ex p.sm l ct (-1)):=⟨by rw[hm.o,Ux (by omega)]⟩
   have a3:¬(i:Int)<(l.length:Int):=by omega
   clear hm;go_wp2;go_ret;exact⟨ZG e0.o,hb.o⟩
theorem RG(rb sb B:Nat)(s e:ZB)(tp:Value)(p:Rs)(S:Nat->Value)(sv:List (Value×Value))(i:BA p.ex)(b:BY p.ex p.sm)(c:Dw p.n p.vs.length p.ex)(m:Ev p.n p.vs)(a:∀x,x∈p.sm->SB p.n p.vs.length x)(o:Cf e p.n)(L:Cs e p.n):∀k,PW rb sb B s e tp p S sv k
 | 0=>λl q g w f H j d=>Ri rb sb B s e tp p S sv i b c m a o L 0 l (λh=>by
   cases l with
   | nil=>exact absurd rfl h
   | cons n l=>have:=(f n (by simp)).1;omega) q g w (λn r=>by have:=f n r;omega) H j d
 | k+1=>λl q g w f H j d=>Ri rb sb B s e tp p S sv i b c m a o L k l (λ_=>⟨RG rb sb B s e tp p S sv i b c m a o L k⟩) q g w f H j d
end Go.Proofs.YtcnbifdlkalimabGreat
