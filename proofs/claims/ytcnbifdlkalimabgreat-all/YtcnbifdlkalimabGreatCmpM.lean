/- Lemmas; their conditions stand in each. -/
import Derived.Test.YtcnbifdlkalimabGreatFlwM
import Derived.Test.YtcnbifdlkalimabGreatRdrE
import Derived.Test.YtcnbifdlkalimabGreatRdrI
namespace Go.Proofs.YtcnbifdlkalimabGreat
open Go.RowKit Go.Proofs.Tryz
set_option linter.all false
variable{s:ZB}
def DG(s:ZB):Int:=BH (AB s) (nP s) (Ai s).ss []
def Ca(s:ZB):Int:=if AH s≠0 then AH s else if 8<(Ai s).hi then 8 else if DG s≠-1 then 9 else 0
def Cy(s:ZB):Int:=if AH s≠0 then Bf s else if 8<(Ai s).hi then 0 else if DG s≠-1 then DG s else 0
def CI(s:ZB):ZB:=if Ca s=0 then AM s else {data:=#[]}
theorem Ztj(s:ZB)(h:1<=nP s):Ev (nP s) (Aw s).vs:=by
 have d:∀k r (e b:List Int),Ev (nP s) b->Ev (nP s) (DC s (nP s) k r e b).2.2:=by
  intro k;induction k with
  | zero=>intro r e b a;exact a
  | succ k g=>
   intro r e b a;simp only[DC];split
   ·split
    ·exact a
    ·refine g _ _ _ λv f=>?_;rw[QI,QA]at f;rcases f with c|c
     ·exact a v c
     ·rw[c];exact Pv h
   ·exact a
 exact d _ _ _ _ (λv a=>by simp at a)
structure GB(s:ZB):Prop where
 sz:s.size<=300
 er:(BF s).er=0
 n1:1<=nP s
 n6:nP s<=6
 tab:Cf (AB s) (nP s)
 ord:Ee (AB s) (nP s)=true
 lat:Cs (AB s) (nP s)
 lev:BX (AB s)=nP s
 j:Jn s (Ai s) (Af s).1
 ss:(Ai s).ss=CL (Af s).1.vs (Af s).1.ex (Af s).1.sm (Af s).2 (-1) 0
 oe:BA (Af s).1.ex
 os:BY (Af s).1.ex (Af s).1.sm
 top:∀n,n∈(Af s).2->n<(Af s).1.sm.length
 pn:(Af s).1.n=nP s
 vs:Ev (nP s) (Af s).1.vs
theorem Vm(h:AH s=0):GB s:=by
 unfold AH at h;by_cases l:300<s.size
 ·rw[if_pos l]at h;omega
 rw[if_neg l]at h;have a:(BF s).er=0:=by
  by_cases a:(BF s).er=0
  ·exact a
  ·rw[if_pos a]at h;exact h
 rw[if_neg (by rw[a];simp)]at h;have c:Az (AB s)=0:=by
  by_cases c:Az (AB s)=0
  ·exact c
  ·rw[if_pos c]at h;exact h
 have f:=FK s;obtain⟨x,_,u,_,_,q,w,g,i,d,_⟩:=f.ok a;have j:(Ai s).r.er=0:=by rw[f.r];exact a
 have b:=Vw j c;have t:Ap (AB s)=nP s:=by rw[<-Jh c];exact b
 obtain⟨v,o,y⟩:=Gk c;have n:=(GK v).1;have m:=U4 c;rw[t]at n m o;obtain⟨J,k⟩:=Zsf s (UH s) a;have e:(Af s).1.vs=(Aw s).vs:=f.p.2.2;exact⟨by omega,a,q,w,n,by rw[HZ];exact o,m,b,J,by rw[k,e],g,i,d,f.p.1,by rw[e];exact Ztj s q⟩
theorem GB.kinds(H:GB s):∀x,x∈(Af s).1.sm->x.k=61∨x.k=62∨x.k=63∨x.k=64:=λx a=>by
 rcases H.j.sb x a with c|c|c|c
 ·exact .inl c.1
 ·exact .inr (.inl c.1)
 ·exact .inr (.inr (.inl c))
 ·exact .inr (.inr (.inr c))
theorem GB.exb(H:GB s):Dw (nP s) (Af s).1.vs.length (Af s).1.ex:=by have:=H.j.eb;rw[H.pn]at this;exact this
theorem GB.leak(H:GB s):DG s=Cx (AB s) (nP s) (Af s).1.vs (Af s).1.ex (Af s).1.sm (Af s).2 (By (AB s) (nP s)) (-1):=by have a:=H.j.srt;unfold DG;rw[H.ss]at a ⊢;exact Xf H.lat (by have:=H.n1;omega) H.oe H.os H.exb H.vs H.kinds a
theorem GB.high(H:GB s):8<(Ai s).hi↔∃e,e<(Af s).1.ex.length∧8<AT (Af s).1.ex e:=by
 constructor
 ·intro h;rcases H.j.hi with c|⟨e,a,c⟩
  ·omega
  ·exact⟨e,a,by omega⟩
 ·rintro⟨e,a,h⟩;have:=H.j.nd e a;omega
set_option maxRecDepth 100000
theorem GB.noted(H:GB s):(∀x,x∈(Ai s).ss->(x.k=1∨x.k=2->Lv (nP s) x.ta))∧(∀x,x∈(Ai s).ss->0<=x.pl):=by
 have q:∀k i e b x,x∈CK (Af s).1.vs (Af s).1.ex (Af s).1.sm k i e b->(x.k=1∨x.k=2->Lv (nP s) x.ta)∧0<=x.pl:=by
  intro k;induction k with
  | zero=>intro i e b x d;simp[CK]at d
  | succ k u=>
   intro i e b x d;have n:∀(l:List Nat) (e:Int) (b:Nat),x∈Ch (CK (Af s).1.vs (Af s).1.ex (Af s).1.sm k) l e b->(x.k=1∨x.k=2->Lv (nP s) x.ta)∧0<=x.pl:=by
    intro l;induction l with
    | nil=>intro e b h;simp[Ch]at h
    | cons j l f=>
     intro e b h;simp only[Ch,QI]at h;rcases h with h|h
     ·exact u _ _ _ _ h
     ·exact f _ _ h
   simp only[CK]at d;cases p:(Af s).1.sm[i]? with
   | none=>rw[p]at d;simp at d
   | some y=>
    rw[p]at d;simp only[Uc,QI]at d;rcases d with d|d|d
    ·subst d;have m:=H.j.sb y (Qw p);rw[H.pn]at m;refine⟨λo=>?_,by show (0:Int)<=(y.a:Nat);omega⟩;unfold Em at o ⊢;dsimp only at o ⊢;rcases m with ⟨c,r,t⟩|⟨c,r,t⟩|c|c
     ·rw[if_pos c];exact H.vs.at (by omega)
     ·rw[if_neg (by omega),if_pos c];exact⟨r,t⟩
     ·rw[if_neg (by omega),if_neg (by omega),if_pos c]at o;omega
     ·rw[if_neg (by omega),if_neg (by omega),if_neg (by omega)]at o;omega
    ·exact n _ _ _ d
    ·exact n _ _ _ d
 have g:∀x,x∈(Ai s).ss->(x.k=1∨x.k=2->Lv (nP s) x.ta)∧0<=x.pl:=by
  intro x d;rw[H.ss]at d;have n:∀(l:List Nat) (e:Int) (b:Nat),x∈Ch (fl (Af s).1.vs (Af s).1.ex (Af s).1.sm) l e b->(x.k=1∨x.k=2->Lv (nP s) x.ta)∧0<=x.pl:=by
   intro l;induction l with
   | nil=>intro e b h;simp[Ch]at h
   | cons j l f=>
    intro e b h;simp only[Ch,QI]at h;rcases h with h|h
    ·exact q _ _ _ _ _ h
    ·exact f _ _ h
  exact n _ _ _ d
 exact⟨λx d=>(g x d).1,λx d=>(g x d).2⟩
theorem ZsE(a:s.size<=300):(Ai s).ss.length<=10000:=by have:=(Oz a).1;unfold AA at this;omega
theorem Mn(w:World)(a b c d e f:Value)(t:TypeId):AF (w.alloc (.cells #[a,b,c,d,e,f] t)) w.heap.size [a,b,c,d,e,f]:=GI w a b c d e f t
set_option maxHeartbeats 6400000
theorem Rj(s:ZB)(w:World)(hs:s.size<=maxLen) :
  Calls prog 6 #[.string s] w λe w'=>e=.returned (.tuple #[.string (CI s),.int .i64 (Cy s),.int .i64 (Ca s)])∧Below w.heap.size w w':=by
 have O:=Ss s w hs;have k:=(Lb s).1;have I:=(Lb s).2;by_cases t:CQ s=0
 ·have E:AH s=0:=by rw[<-k];exact t
  have H:=Vm E;have u:=H.sz;have V:=IX u;have hF:=UN t;have hA:EG s=0:=by
   have e:=t;unfold CQ at e;unfold EG;rw[if_neg (by omega)]at e ⊢;by_cases c:(Ai s).r.er=0
   ·rw[if_neg (by rw[c];simp)]
   ·rw[if_pos c]at e;exact absurd e c
  have X:(Ai s).r.er=0:=by rw[(FK s).r];exact H.er
  have q:=Kh X;have J:(BU s).size<=100:=by rw[q,ME];have:=H.n6;have:=Us (show (nP s).toNat<=6 by omega) (show (nP s).toNat<=6 by omega);omega
  have K:BX (BU s)=nP s:=by rw[q];exact H.lev
  obtain⟨rF,M⟩:∃z,CI s=z:=⟨_,rfl⟩
  obtain⟨rA,L⟩:∃z,Cy s=z:=⟨_,rfl⟩
  obtain⟨rE,C⟩:∃z,Ca s=z:=⟨_,rfl⟩
  rw[M,L,C];replace O:=Z_ O;go_in;go_wp2_with fail;refine O.o.mono ?_;rintro e P ⟨D,rfl,B,Z⟩;obtain⟨S,rfl,r1,r2,r3⟩:=Z.o.1 t;obtain⟨p1,k1,e1⟩:=Zc r1;obtain⟨p2,k2,e2⟩:=Zc r2;obtain⟨p3,k3,e3⟩:=Zc r3;rw[e1,e2,e3,t,hA];rw[e1]at r1;rw[e2]at r2;rw[e3]at r3;rw[K,q];rw[K,q]at hF;rw[q]at J;obtain⟨N,p⟩:∃N,N=P.alloc (.cells #[.int .i64 (nP s),.string (AB s),.int .i64 (Ai s).hi,.slice p3 (Ai s).ss.length k3,.slice p1 (Ai s).vs.length k1,.slice p2 (Ai s).cd.length k2] 58):=⟨_,rfl⟩
  have R:Below P.heap.size P N:=by rw[p];exact(Qh _ _).alloc (Qb _) _
  have B2:Kp (Below w.heap.size w N):=⟨B.trans (R.mono B.size)⟩
  have x:=λ(W:World) (hW:Below N.heap.size N W)=>TI (nP s) (Ai s).hi (AB s) p1 p2 p3 k1 k2 k3 (Ai s).ss.length (Ai s).vs (Ai s).cd (w.heap.size+1) W (Zo (Zo r1 R) hW) (Zo (Zo r2 R) hW) J V.2 (by omega);rw[hF]at x;have y:=X8 H.tab H.ord H.lat (Ai s).ss (.slice p3 (Ai s).ss.length k3) (w.heap.size+1) N (Zo r3 R) (ZsE u) H.noted.1 H.noted.2
  obtain⟨f,hf⟩:∃f,BH (AB s) (nP s) (Ai s).ss []=f:=⟨_,rfl⟩
  have m:DG s=f:=hf;rw[hf]at y;have Q:=Mn P (.int .i64 (nP s)) (.string (AB s)) (.int .i64 (Ai s).hi) (.slice p3 (Ai s).ss.length k3) (.slice p1 (Ai s).vs.length k1) (.slice p2 (Ai s).cd.length k2) 58;rw[<-p]at Q;have d:Ca s=if 8<(Ai s).hi then 8 else if f≠-1 then 9 else 0:=by unfold Ca;rw[if_neg (by rw[E];simp),m]
  have g:Cy s=if 8<(Ai s).hi then 0 else if f≠-1 then f else 0:=by unfold Cy;rw[if_neg (by rw[E];simp),m]
  have l:CI s=if Ca s=0 then AM s else {data:=#[]}:=rfl;generalize (Ai s).vs.length=vl at *;generalize (Ai s).cd.length=cl at *;generalize (Ai s).ss.length=sl at *;generalize (Ai s).hi=hi at *;generalize ad:nP s=n at *;generalize AB s=T at *;replace x:=Z_ x;replace y:=Z_ y;replace p:=Z_ p;replace Q:=Z_ Q;replace l:=Z_ l;rw[L]at g;rw[C]at d;have i:Kp (rF=if rE=0 then AM s else {data:=#[]}):=⟨by rw[<-M,l.o,C]⟩
  generalize AM s=F at *;replace g:=Z_ g;replace d:=Z_ d;clear r1 r2 r3 e1 e2 e3 Z B R hF O t hA V k I E H u X q J K m hf l M L C ad;by_cases h8:8<hi
  ·have A:Kp (rE=8∧rA=0∧rF={data:=#[]}):=⟨by
    have a:=d.o;have b:=g.o;have c:=i.o;rw[if_pos h8]at a b;rw[a,if_neg (by omega)]at c;exact⟨a,b,c⟩⟩
   go_wp2_with fail;refine bodyPost_ret (v:=.tuple #[.string {data:=#[]},.int .i64 0,.int .i64 8]) (by simp[results,Tryz.results6,go_sem]) rfl ⟨by rw[A.o.1,A.o.2.1,A.o.2.2],?_⟩;have:=B2.o;rw[p.o]at this;exact this
  ·go_wp2_with fail;rw[<-p.o];refine y.o.mono ?_;rintro e w3 ⟨rfl,U⟩;have G:=Q.o.step U;have s0:=G.c 0 _ rfl;have s1:=G.c 1 _ rfl;have s2:=G.c 2 _ rfl;have s3:=G.c 3 _ rfl;have s4:=G.c 4 _ rfl;have s5:=G.c 5 _ rfl;obtain⟨gx,Y⟩:∃gx,Kp (P.heap.size=gx):=⟨_,⟨rfl⟩⟩
   rw[Y.o]at s0 s1 s2 s3 s4 s5;simp only[Y.o];have B3:Kp (Below w.heap.size w w3):=⟨B2.o.trans (U.mono B2.o.size)⟩
   replace U:=Z_ U;clear G Q y p;by_cases j:f=-1
   ·have A:Kp (rE=0∧rA=0∧rF=F):=⟨by
     have a:=d.o;have b:=g.o;have c:=i.o;rw[if_neg (by omega),if_neg (by rw[j];simp)]at a b;rw[a,if_pos rfl]at c;exact⟨a,b,c⟩⟩
    rw[if_pos j,show (f != -1)=false from by rw[j];rfl];clear j d g i h8;go_wp2_with fail;refine(x.o _ U.o).mono ?_;rintro e w4 ⟨rfl,b4⟩;replace b4:=Z_ b4;go_wp2_with fail;refine bodyPost_ret (v:=.tuple #[.string F,.int .i64 0,.int .i64 0]) (by simp[results,Tryz.results6,go_sem]) rfl ⟨by rw[A.o.1,A.o.2.1,A.o.2.2],B3.o.trans (b4.o.mono B3.o.size)⟩
   ·have A:Kp (rE=9∧rA=f∧rF={data:=#[]}):=⟨by
     have a:=d.o;have b:=g.o;have c:=i.o;rw[if_neg (by omega),if_pos j]at a b;rw[a,if_neg (by omega)]at c;exact⟨a,b,c⟩⟩
    rw[if_neg j,show (f != -1)=true from QO.2 j];clear j d g i h8 x;go_wp2_with fail;refine bodyPost_ret (v:=.tuple #[.string {data:=#[]},.int .i64 f,.int .i64 9]) (by simp[results,Tryz.results6,go_sem]) rfl ⟨by rw[A.o.1,A.o.2.1,A.o.2.2],B3.o⟩
 ·have d:Ca s=AH s:=if_pos (by rw[<-k];exact t);have g:Cy s=Bf s:=if_pos (by rw[<-k];exact t);have l:CI s={data:=#[]}:=if_neg (by rw[d,<-k];exact t);rw[d,g,l,<-k,<-I];have ae:(CQ s != 0)=true:=QO.2 t;have aa:Kp (Calls prog 17 #[.string s] w λe w'=>e=.returned (.tuple #[.agg #[.int .i64 0,.string {data:=#[]},.int .i64 0,.slice none 0 0,.slice none 0 0,.slice none 0 0],.int .i64 (EG s),.int .i64 (CQ s)])∧Below w.heap.size w w'):=⟨O.mono λe w' h=>by
   obtain⟨D,rfl,B,Z⟩:=h;rw[Z.o.2 t];exact⟨rfl,B⟩⟩
  clear O t k I d g l;generalize CQ s=er at *;generalize EG s=ea at *;go_in;go_wp2_with fail;refine aa.o.mono ?_;rintro e P ⟨rfl,B⟩;have ab:=B.size;replace B:=Z_ B;go_wp2_with fail;refine bodyPost_ret (v:=.tuple #[.string {data:=#[]},.int .i64 ea,.int .i64 er]) (by simp[results,Tryz.results6,go_sem]) rfl ⟨rfl,B.o.alloc ab _⟩
theorem KM{b:Func}{t u v x:Tmp}(h:b.results=#[.tmp t,.tmp u,.tmp v,.tmp x])(a:Array Value)(P:Program)(w:World) :
  (results b a).run P w=.ok (.tuple #[a.getD t undef,a.getD u undef,a.getD v undef,a.getD x undef]) w:=by
 simp[results,h]
def PO(s:ZB)(w:World)(e:Ending)(w':World):Prop:=∃v,e=.returned (.tuple #[v,.string (AM s),.int .i64 (Bf s),.int .i64 (AH s)])∧Below w.heap.size w w'∧
 (AH s=0->∃rb sb B tp S sv,v=.pointer (some ⟨sb,0,none⟩)∧YB w' rb sb B s (Af s).1 (AB s) tp S sv∧BD w' B S tp (Af s).2)
theorem Fe{w w':World}{e:Ending}{F:ZB}{A E:Int}(hF:AM s=F)(b:Bf s=A)(a:AH s=E)(g:E≠0)(v:Value)(f:e=.returned (.tuple #[v,.string F,.int .i64 A,.int .i64 E]))(d:Below w.heap.size w w'):PO s w e w':=⟨v,by rw[hF,b,a];exact f,d,λc=>absurd (a.symm.trans c) g⟩
theorem JE{w w':World}{e:Ending}{F:ZB}{A:Int}(hF:AM s=F)(c:Bf s=A)(d:AH s=0){rb sb B:Nat}{tp:Value}{S:Nat->Value}{sv:List (Value×Value)}(v:Value)(h:v=.pointer (some ⟨sb,0,none⟩))(a:YB w' rb sb B s (Af s).1 (AB s) tp S sv)(b:BD w' B S tp (Af s).2)(g:e=.returned (.tuple #[v,.string F,.int .i64 A,.int .i64 0]))(f:Below w.heap.size w w'):PO s w e w':=⟨v,by rw[hF,c,d];exact g,f,λ_=>⟨rb,sb,B,tp,S,sv,h,a,b⟩⟩
theorem Q2(s:ZB)(w:World)(hs:s.size<=maxLen):Calls prog 20 #[.string s] w (PO s w):=by
 by_cases h3:300<s.size
 ·have k:AM s=⟨#[]⟩:=if_pos (.inl h3);have H:Bf s=0:=if_pos h3;have j:AH s=1:=if_pos h3;have i:=λe w' v=>Fe (e:=e) (w:=w) (w':=w') k H j (by omega) v;replace i:=Z_ i;have aC:(300:Int)<(s.size:Int):=by omega
  unfold maxLen at hs;clear k H j;go_in;go_wp2_with fail;(try simp only[Exit.inBlock,Exit.then]);refine Qi (KM rfl _ _ _) rfl ?_;exact i.o _ _ _ rfl (Qh _ _)
 ·have an:s.size<=300:=by omega
  have X:=Yt s w an;have aC:¬(300:Int)<(s.size:Int):=by omega
  by_cases y:(BF s).er=0
  ·obtain⟨hn,_,ax,_,_,n1,n6,ad,ag,t,ar⟩:=(FK s).ok y;have aq:=(IX an).1;have aw:=(IX an).2;rw[ar]at aq;have Z:=(FK s).p;have av:(AB s).size<=maxLen:=by
    unfold AB maxLen;rw[Zd,MD];have:(nP s).toNat<=6:=by omega
    have:=Us this this;omega
   have ae:=λW=>IK (AB s) W av;have ab:=λrb sb B tp S sv=>Tf rb sb B s (AB s) tp (Af s).1 S sv ad ag ((Af s).1.sm.length+1)
   have aI:=Nk ad ag (Af s).2 0 t;obtain⟨C,hC⟩:∃C,bs (Bn (Af s).1.ex (Af s).1.sm (Af s).2 0)=C:=⟨_,rfl⟩
   have aa:Kp (∀rb sb B tp S sv W,YB W rb sb B s (Af s).1 (AB s) tp S sv->BD W B S tp (Af s).2->Calls prog 49 #[.pointer (some ⟨sb,0,none⟩),tp,.int .i64 0] W λen w'=>en=.returned (.string C)∧Below W.heap.size W w'):=⟨λrb sb B tp S sv W A I=>by
    rw[<-hC];exact Lj rb sb B s (AB s) tp (Af s).1 S sv _ ⟨ab rb sb B tp S sv⟩ (Af s).2 tp 0 W A I (λm hm=>⟨by have:=t m hm;omega,t m hm⟩) (by omega) (by omega)⟩
   have ao:C.size=(GE s).length:=by rw[<-hC,Zd];rfl
   have aD:C.size<=5000:=by rw[<-hC,Zd];omega
   obtain⟨l,al⟩:∃l,C.size/2=l:=⟨_,rfl⟩
   have K:=λW=>Hw C W (by omega);rw[al]at K;have r:(GE s).length/2=l:=by rw[<-ao];exact al
   have x:(if 300<s.size∨(BF s).er≠0∨Az (AB s)≠0∨200<(GE s).length/2 then bs [] else LW s)=AM s:=rfl;have H:Bf s=0:=by unfold Bf;rw[if_neg h3,if_neg (by rw[y];simp)]
   have J:AH s=if Az (AB s)≠0 then Az (AB s) else if 200<l then 13 else 0:=by unfold AH;rw[if_neg h3,if_neg (by rw[y];simp),r]
   rw[r]at x;obtain⟨le,am⟩:∃le,Az (AB s)=le:=⟨_,rfl⟩
   rw[am]at x J;have ae:Kp (∀W,Calls prog 48 #[.string (AB s)] W λe w'=>e=.returned (.tuple #[.int .i64 (BX (AB s)),.int .i64 le])∧w'=W):=⟨λW=>by rw[<-am];exact ae W⟩
   have d:¬le≠0->¬200<l->AM s=⟨#[83]⟩++bs [nP s%256]++AB s++bs [((bs (Af s).1.vs).size:Int)%256]++bs (Af s).1.vs++bs [(l:Int)%256]++C:=λa b=>by rw[<-x,if_neg (by intro c;rcases c with c|c|c|c<;>omega)];unfold LW;rw[Z.2.2,Zd,r,<-hC,show nP s%256=nP s from by omega,show bs [83,nP s]=(⟨#[83]⟩:ZB)++bs [nP s] from by rw[show ([83,nP s]:List Int)=[83]++[nP s] from rfl,Zg];rfl];rfl
   have ay:(bs (Af s).1.vs).size<=1000:=by rw[Zd,Z.2.2,<-ax];exact aw
   have aJ:(AB s).size<=36:=by
    unfold AB;rw[Zd,MD];have:(nP s).toNat<=6:=by omega
    have:=Us this this;omega
   have g:=Z.1;have f:Calls prog 27 #[.string s] w λe w'=>Below w.heap.size w w'∧∃rb sb B tp S sv,e=.returned (.tuple #[.pointer (some ⟨sb,0,none⟩),.int .i64 0,.int .i64 0])∧YB w' rb sb B s (Af s).1 (AB s) tp S sv∧BD w' B S tp (Af s).2:=X.mono λe w' h=>⟨h.1,by
    rcases h.2 with c|c
    ·exact absurd y c.1
    ·exact c.2⟩
   obtain⟨q,ak⟩:∃V,bs (Af s).1.vs=V:=⟨_,rfl⟩
   rw[ak]at d ay;obtain⟨M,au⟩:∃M,nP s=M:=⟨_,rfl⟩
   rw[au]at d g;obtain⟨O,ah⟩:∃V,bs [M%256]=V:=⟨_,rfl⟩
   obtain⟨V2,ai⟩:∃V,bs [(q.size:Int)%256]=V:=⟨_,rfl⟩
   obtain⟨V3,aj⟩:∃V,bs [(l:Int)%256]=V:=⟨_,rfl⟩
   have z1:O.size=1:=by rw[<-ah,Zd];rfl
   have z2:V2.size=1:=by rw[<-ai,Zd];rfl
   have z3:V3.size=1:=by rw[<-aj,Zd];rfl
   have Q:=λW=>Zk M W;have R:=λW=>Zk (q.size:Int) W
   have U:=λW=>Zk (l:Int) W;rw[ah]at Q d;rw[ai]at R d;rw[aj]at U d;have aN:(l:Int)<=5000:=by omega
   have aE:Kp (le≠0->AM s=⟨#[]⟩∧AH s=le):=⟨λa=>⟨by rw[<-x,if_pos (.inr (.inr (.inl a)))];rfl,by rw[J,if_pos a]⟩⟩
   have aF:Kp (¬le≠0->200<l->AM s=⟨#[]⟩∧AH s=13):=⟨λa c=>⟨by rw[<-x,if_pos (.inr (.inr (.inr c)))];rfl,by rw[J,if_neg a,if_pos c]⟩⟩
   have aG:Kp (¬le≠0->¬200<l->AM s=⟨#[83]⟩++O++AB s++V2++q++V3++C∧AH s=0):=⟨λa c=>⟨d a c,by rw[J,if_neg a,if_neg c]⟩⟩
   have u:Kp (bs (Af s).1.vs=q):=⟨ak⟩
   have af:=λe w' F rb sb B tp S sv v (k:AM s=F) (j:AH s=0)=>JE (s:=s) (w:=w) (e:=e) (w':=w') (rb:=rb) (sb:=sb) (B:=B) (tp:=tp) (S:=S) (sv:=sv) k H j v;replace af:=Z_ af;replace f:=Z_ f;replace K:=Z_ K;replace Q:=Z_ Q;replace R:=Z_ R;replace U:=Z_ U;replace H:=Z_ H;replace g:=Z_ g;generalize BX (AB s)=ln at *;generalize AB s=T at *;generalize Af s=rp at *;have z:Kp (1+O.size+T.size+V2.size+q.size+V3.size+C.size<=100000):=⟨by omega⟩
   clear X hn ax n1 n6 ad ag t ar aq aw Z av ab aI hC ao aD al r x J am d ay aJ ak au ah ai aj z1 z2 z3;go_in;go_wp2_with fail;refine f.o.mono ?_;rintro e w1 ⟨L,rb,sb,B,tp,S,sv,rfl,A1,I1⟩;obtain⟨p1,q1,aB⟩:=Zc I1.1;subst aB;have c1:=A1.ct;have c6:=A1.cp;replace A1:=Z_ A1;replace I1:=Z_ I1;replace L:=Z_ L;clear f;go_wp2_with fail;refine(ae.o _).mono ?_;rintro e w2 ⟨rfl,az⟩;have aK:=az.symm;clear az;subst aK;by_cases Y:le=0
   ·subst Y;have P:=aa.o rb sb B _ S sv w1 A1.o I1.o;replace P:=Z_ P;go_wp2_with fail;refine P.o.mono ?_;rintro e D ⟨rfl,b3⟩;have N:=A1.o.step b3;have I3:Kp _:=⟨I1.o.step b3⟩
    have b4:Kp _:=⟨L.o.trans (b3.mono L.o.size)⟩
    have d0:D.cell? ⟨sb,0,none⟩=some (.int .i64 M):=by rw[<-g.o];exact N.cn
    have d1:=N.ct;have d3:D.cell? ⟨sb,3,none⟩=some (.string q):=by rw[<-u.o];exact N.cv
    replace N:=Z_ N;clear b3 A1 I1 aa P c1 c6 L;go_wp2_with fail;refine(K.o _).mono ?_;rintro e w4 ⟨rfl,aA⟩;have aL:=aA.symm;clear aA;subst aL;by_cases ap:200<l
    ·obtain⟨k,j⟩:=aF.o (by simp) ap;have aH:(200:Int)<(l:Int):=by omega
     have i:=λe w' v=>Fe (e:=e) (w:=w) (w':=w') k H.o j (by omega) v;replace i:=Z_ i;clear k j;go_wp2_with fail;(try simp only[Exit.inBlock,Exit.then]);refine Qi (KM rfl _ _ _) rfl ?_;exact i.o _ _ _ rfl b4.o
    ·obtain⟨k,j⟩:=aG.o (by simp) ap;have aH:¬(200:Int)<(l:Int):=by omega
     have i:=λe w' tp v hv A I y hb=>af.o e w' _ rb sb B tp S sv v k j hv A I y hb;replace i:=Z_ i;clear k j;go_wp2_with fail;have aO:¬9223372036854775807<1+O.size:=by have:=z.o;omega
     have aP:¬9223372036854775807<1+O.size+T.size:=by have:=z.o;omega
     have aQ:¬9223372036854775807<1+O.size+T.size+V2.size:=by have:=z.o;omega
     have aR:¬9223372036854775807<1+O.size+T.size+V2.size+q.size:=by have:=z.o;omega
     have aS:¬9223372036854775807<1+O.size+T.size+V2.size+q.size+V3.size:=by have:=z.o;omega
     have aT:¬9223372036854775807<1+O.size+T.size+V2.size+q.size+V3.size+C.size:=by have:=z.o;omega
     go_region_held3 (λw'=>w'.cell? ⟨sb,0,none⟩=some (.int .i64 M)∧w'.cell? ⟨sb,1,none⟩=some (.string T)∧w'.cell? ⟨sb,3,none⟩=some (.string q)) (go_keep) (first
      | (go_at_call_of 51 M;refine(Q.o _).mono ?_;rintro en E ⟨rfl,G⟩;have bn:Below D.heap.size D E:=(by first|exact((Qh _ _).drew).trans G|exact Q9 (by assumption) (G.mono (Below.size (w:=D) (by assumption))));have n:=N.o.step bn;have o0:E.cell? ⟨sb,0,none⟩=some (.int .i64 M):=(by rw[<-g.o];exact n.cn);have o1:=n.ct;have o3:E.cell? ⟨sb,3,none⟩=some (.string q):=(by rw[<-u.o];exact n.cv);clear G n)
      | (go_at_call_of 51 q;refine(R.o _).mono ?_;rintro en E ⟨rfl,G⟩;have bn:Below D.heap.size D E:=(by first|exact((Qh _ _).drew).trans G|exact Q9 (by assumption) (G.mono (Below.size (w:=D) (by assumption))));have n:=N.o.step bn;have o0:E.cell? ⟨sb,0,none⟩=some (.int .i64 M):=(by rw[<-g.o];exact n.cn);have o1:=n.ct;have o3:E.cell? ⟨sb,3,none⟩=some (.string q):=(by rw[<-u.o];exact n.cv);clear G n)
      | (go_at_call_of 51 l;refine(U.o _).mono ?_;rintro en E ⟨rfl,G⟩;have bn:Below D.heap.size D E:=(by first|exact((Qh _ _).drew).trans G|exact Q9 (by assumption) (G.mono (Below.size (w:=D) (by assumption))));have n:=N.o.step bn;have o0:E.cell? ⟨sb,0,none⟩=some (.int .i64 M):=(by rw[<-g.o];exact n.cn);have o1:=n.ct;have o3:E.cell? ⟨sb,3,none⟩=some (.string q):=(by rw[<-u.o];exact n.cv);clear G n)
      | (go_at_call 50;refine(K.o _).mono ?_;rintro en w6 ⟨rfl,aM⟩;subst aM))
     all_goals
      have b9:Below D.heap.size D E:=by assumption
      go_wp2_with fail;(try simp only[Exit.inBlock,Exit.then]);refine Qi (KM rfl _ _ _) rfl ?_;exact i.o _ _ _ _ rfl (N.o.step b9) (I3.o.step b9) rfl (b4.o.trans (b9.mono b4.o.size))
   ·obtain⟨k,j⟩:=aE.o Y;have hk:(le != 0)=true:=QO.2 Y;have i:=λe w' v=>Fe (e:=e) (w:=w) (w':=w') k H.o j Y v;replace i:=Z_ i;clear k j;go_wp2_with fail;(try simp only[Exit.inBlock,Exit.then]);refine Qi (KM rfl _ _ _) rfl ?_;exact i.o _ _ _ rfl L.o
  ·have k:AM s=⟨#[]⟩:=if_pos (.inr (.inl y));have H:Bf s=(BF s).a:=by unfold Bf;rw[if_neg h3,if_pos y]
   have j:AH s=(BF s).er:=by unfold AH;rw[if_neg h3,if_pos y]
   have f:Calls prog 27 #[.string s] w λe w'=>Below w.heap.size w w'∧e=.returned (.tuple #[.pointer none,.int .i64 (BF s).a,.int .i64 (BF s).er]):=X.mono λe w' h=>⟨h.1,by
    rcases h.2 with c|c
    ·exact c.2
    ·exact absurd c.1 y⟩
   have i:=λe w' v=>Fe (e:=e) (w:=w) (w':=w') k H j y v;have hk:((BF s).er != 0)=true:=QO.2 y
   generalize (BF s).a=ea at *;generalize (BF s).er=ee at *;replace i:=Z_ i;replace f:=Z_ f;clear X k H j y;go_in;go_wp2_with fail;refine f.o.mono ?_;rintro e w1 ⟨L,rfl⟩;replace L:=Z_ L;go_wp2_with fail;(try simp only[Exit.inBlock,Exit.then]);refine Qi (KM rfl _ _ _) rfl ?_;exact i.o _ _ _ rfl L.o
theorem Zrs(T:ZB)(n:Int)(vs:List Int)(ex:List Ex)(sm:List Sm)(l:List Nat)(c:Int):-1<=Cx T n vs ex sm l c (-1):=by
 have b:Cx T n vs ex sm l c (-1)=DO (-1) (BZ (λi c=>Db T n vs ex sm (i+1) i c) l c):=
  Lh _ (λi a=>GU T n vs ex sm (i+1) i _ a) (λi m d=>MO T n vs ex sm (i+1) i _ m d) l (-1) (by omega)
 rw[b];exact J4 _ (by omega) (Jc (f:=λi c=>Db T n vs ex sm (i+1) i c) (λi c a=>GU T n vs ex sm (i+1) i c a) c l)
theorem Wk(s:ZB)(w:World)(hs:s.size<=maxLen) :
  Calls prog 7 #[.string s] w λe q=>e=.returned (.tuple #[.string (CI s),.int .i64 (Cy s),.int .i64 (Ca s)])∧Below w.heap.size w q:=by
 have hT:=Q2 s w hs;by_cases G:AH s=0
 ·have H:=Vm G;have u:=H.leak;have p:=H.high;obtain⟨K,R⟩:∃f,DG s=f:=⟨_,rfl⟩
  have aA:-1<=K:=by rw[<-R,u];exact Zrs _ _ _ _ _ _ _
  have g:Ca s=if 8<(Ai s).hi then 8 else if K≠-1 then 9 else 0:=by unfold Ca;rw[if_neg (by rw[G];simp),R]
  have l:Cy s=if 8<(Ai s).hi then 0 else if K≠-1 then K else 0:=by unfold Cy;rw[if_neg (by rw[G];simp),R]
  have k:CI s=if Ca s=0 then AM s else {data:=#[]}:=rfl;have ak:Bf s=0:=by unfold Bf;rw[if_neg (by have:=H.sz;omega),if_neg (by rw[H.er];simp)]
  obtain⟨rF,ad⟩:∃z,CI s=z:=⟨_,rfl⟩
  obtain⟨rA,ab⟩:∃z,Cy s=z:=⟨_,rfl⟩
  obtain⟨rE,U⟩:∃z,Ca s=z:=⟨_,rfl⟩
  rw[ad,ab,U];rw[ad,U]at k;rw[ab]at l;rw[U]at g;obtain⟨F,hF⟩:∃F,AM s=F:=⟨_,rfl⟩
  rw[hF]at k;have P:Kp (Calls prog 20 #[.string s] w λe q=>Below w.heap.size w q∧∃rb r B M S sv,e=.returned (.tuple #[.pointer (some ⟨r,0,none⟩),.string F,.int .i64 0,.int .i64 0])∧YB q rb r B s (Af s).1 (AB s) M S sv∧BD q B S M (Af s).2):=⟨hT.mono λe q h=>by
   obtain⟨v,a,b,c⟩:=h;obtain⟨rb,r,B,M,S,sv,hv,A,I⟩:=c G;exact⟨b,rb,r,B,M,S,sv,by rw[a,hF,ak,G,hv],A,I⟩⟩
  replace g:=Z_ g;replace l:=Z_ l;replace k:=Z_ k;replace p:=Z_ p;replace H:=Z_ H;clear hT G ak hF ad ab U;go_in;go_wp2_with fail;refine P.o.mono ?_;rintro e t ⟨E,rb,r,B,M,S,sv,rfl,A,I⟩;have ho:t.ownsRow B (pT 0) (pZ 0) (S 0) (Af s).1.ex.length (pV (Af s).1 sv 0):=A.o 0 (by omega);have aa:=SS ho;obtain⟨p0,c0,ag⟩:=Zc ho;obtain⟨m,hm⟩:∃m,(Af s).1.ex.length=m:=⟨_,rfl⟩
  have ay:(m:Int)<=9223372036854775807:=by rw[hm]at aa;unfold maxLen at aa;omega
  have D:=H.o.pn;have V:Dw (Af s).1.n (Af s).1.vs.length (Af s).1.ex:=by rw[D];exact H.o.exb
  have X:Ev (Af s).1.n (Af s).1.vs:=by rw[D];exact H.o.vs
  have ae:Cf (AB s) (Af s).1.n:=by rw[D];exact H.o.tab
  have C:Cs (AB s) (Af s).1.n:=by rw[D];exact H.o.lat
  have aj:(Af s).1.ex.length<=20000:=by have h1:Au s (Af s).1<=6000:=Qg (N6 s (Al s (s.size+2)) (Hy s (s.size+2)) (s.size+1) (Aw s) []) (TH s H.o.sz);unfold Au at h1;omega
  have af:Kp (∀(e:Nat) (W:World),e<m->Below t.heap.size t W->Calls prog 21 #[.pointer (some ⟨r,0,none⟩),.int .i64 e] W λen q=>en=.returned (.int .i64 (AT (Af s).1.ex e))∧Below W.heap.size W q):=⟨λe W he hW=>SQ rb r B s (AB s) M (Af s).1 S sv H.o.oe aj (e+1) e W (by omega) (A.step hW) (by rw[hm];exact he)⟩
  have am:Kp (∀W,Calls prog 23 #[.string (AB s),.int .i64 (Af s).1.n] W λe q=>e=.returned (.int .i64 (By (AB s) (Af s).1.n))∧q=W):=⟨λW=>Rh ae W⟩
  have ai:=(Lw C).1;have ah:Cx (AB s) (Af s).1.n (Af s).1.vs (Af s).1.ex (Af s).1.sm (Af s).2 (By (AB s) (Af s).1.n) (-1)=K:=by rw[D,<-u,R]
  have an:Kp (∀W,Below t.heap.size t W->Calls prog 22 #[.pointer (some ⟨r,0,none⟩),M,.int .i64 (By (AB s) (Af s).1.n)] W λen q=>en=.returned (.int .i64 K)∧Below W.heap.size W q):=⟨λW hW=>by
   rw[<-ah];exact RG rb r B s (AB s) M (Af s).1 S sv H.o.oe H.o.os V X (λx hx=>H.o.j.sb x hx) ae C (Af s).1.sm.length (Af s).2 M _ W (λn hn=>⟨H.o.top n hn,H.o.top n hn⟩) (A.step hW) (I.step hW) ai⟩
  obtain⟨pt,al,ar⟩:=Zc I.1;have y:Kp (8<(Ai s).hi↔∃e,e<m∧8<AT (Af s).1.ex e):=⟨by rw[<-hm];exact p.o⟩
  have g4:Kp (∀W,Below t.heap.size t W->W.cell? ⟨r,4,none⟩=some (.slice p0 m c0)∧W.cell? ⟨r,6,none⟩=some M∧W.cell? ⟨r,1,none⟩=some (.string (AB s))∧W.cell? ⟨r,0,none⟩=some (.int .i64 (Af s).1.n)):=⟨λW hW=>by
   have A2:=A.step hW;refine⟨?_,A2.cp,A2.ct,A2.cn⟩;have:=A2.c 0 (by omega);rw[ag,hm]at this;exact this⟩
  subst ar;generalize ap:AT (Af s).1.ex=nd at *;generalize ao:By (AB s) (Af s).1.n=bt at *;generalize AB s=T at *;generalize (Af s).1.n=N at *;generalize (Af s).2.length=tl at *;generalize (Ai s).hi=hi at *;replace E:=Z_ E;clear A I H hm aa ag ho D V X ae C aj ai ah p P u ap ao;go_wp2_with fail;go_loopw [9] (λd wr=>∃i:Nat,d=.int .i64 i∧i<=m∧Kp (∀e,e<i->nd e<=8)∧Kp (Below t.heap.size t wr)) (λd _=>m-(intOf d).toNat);case atStart=>exact⟨0,rfl,Q8 _,⟨λe he=>by omega⟩,⟨Qh _ _⟩⟩
  case round=>
   obtain⟨i,rfl,av,J,Z⟩:=hrel;obtain⟨q4,q6,q1,q0⟩:=g4.o wr Z.o;by_cases C:i<m
   ·have aw:(i:Int)<(m:Int):=by omega
    have O:=af.o i wr C Z.o;obtain⟨z,hz⟩:∃z,nd i=z:=⟨_,rfl⟩
    rw[hz]at O;replace O:=Z_ O;replace hz:=Z_ hz;go_wp2_with fail;refine O.o.mono ?_;rintro e w2 ⟨rfl,b2⟩;have b3:Kp (Below t.heap.size t w2):=⟨Z.o.trans (b2.mono Z.o.size)⟩
    clear b2 q4 q6 q1 q0;by_cases h8:8<z
    ·have L:Kp (rE=8∧rA=0∧rF={data:=#[]}):=⟨by
      have hh:8<hi:=y.o.2 ⟨i,C,by rw[hz.o];exact h8⟩;have a:=g.o;have b:=l.o;have c:=k.o;rw[if_pos hh]at a b;rw[a,if_neg (by omega)]at c;exact⟨a,b,c⟩⟩
     clear g l k y;go_wp2_with fail;refine bodyPost_ret (v:=.tuple #[.string {data:=#[]},.int .i64 0,.int .i64 8]) (by simp[results,Tryz.results7,go_sem]) rfl ⟨by rw[L.o.1,L.o.2.1,L.o.2.2],E.o.trans (b3.o.mono E.o.size)⟩
    ·have Y:Kp (∀e,e<i+1->nd e<=8):=⟨λe he=>by
      by_cases c:e=i
      ·rw[c,hz.o];omega
      ·exact J.o e (by omega)⟩
     go_wp2_with fail;go_roundw;case rel=>exact⟨i+1,by go_num,by omega,Y,b3⟩
     case measure=>simp[intOf];omega
   ·have az:¬(i:Int)<(m:Int):=by omega
    have hh:Kp (¬8<hi):=⟨λh=>by
     obtain⟨e,he,h2⟩:=y.o.1 h;have:=J.o e (by omega);omega⟩
    clear J y af;go_wp2_with fail;go_region_held3 (λq=>q.cell? ⟨r,6,none⟩=some (.slice pt tl al)∧q.cell? ⟨r,1,none⟩=some (.string T)∧q.cell? ⟨r,0,none⟩=some (.int .i64 N)) (go_keep) (first
     | (go_at_call 23;refine(am.o _).mono ?_;rintro en w6 ⟨rfl,au⟩;subst au)
     | (go_at_call 22;refine(an.o _ (Z.o.drew)).mono ?_;rintro en w5 ⟨rfl,bb⟩;have bn:Below t.heap.size t w5:=(Z.o.drew.trans (bb.mono Z.o.drew.size));have o0:=(g4.o _ bn).2.1;have o1:=(g4.o _ bn).2.2.1;have o2:=(g4.o _ bn).2.2.2;clear bb))
    have b9:Kp (Below t.heap.size t w5):=⟨by assumption⟩
    clear q4 q6 q1 q0;by_cases Q:K=-1
    ·have L:Kp (rE=0∧rA=0∧rF=F):=⟨by
      have a:=g.o;have b:=l.o;have c:=k.o;rw[if_neg (by have:=hh.o;omega),if_neg (by rw[Q];simp)]at a b;rw[a,if_pos rfl]at c;exact⟨a,b,c⟩⟩
     have aq:K<0:=by omega
     clear g l k Q;go_wp2_with fail;refine bodyPost_ret (v:=.tuple #[.string F,.int .i64 0,.int .i64 0]) (by simp[results,Tryz.results7,go_sem]) rfl ⟨by rw[L.o.1,L.o.2.1,L.o.2.2],E.o.trans (b9.o.mono E.o.size)⟩
    ·have L:Kp (rE=9∧rA=K∧rF={data:=#[]}):=⟨by
      have a:=g.o;have b:=l.o;have c:=k.o;rw[if_neg (by have:=hh.o;omega),if_pos Q]at a b;rw[a,if_neg (by omega)]at c;exact⟨a,b,c⟩⟩
     have aq:¬K<0:=by omega
     clear g l k Q;go_wp2_with fail;refine bodyPost_ret (v:=.tuple #[.string {data:=#[]},.int .i64 K,.int .i64 9]) (by simp[results,Tryz.results7,go_sem]) rfl ⟨by rw[L.o.1,L.o.2.1,L.o.2.2],E.o.trans (b9.o.mono E.o.size)⟩
 ·have g:Ca s=AH s:=if_pos G;have l:Cy s=Bf s:=if_pos G;have k:CI s={data:=#[]}:=if_neg (by rw[g];exact G);rw[g,l,k];have ax:(AH s != 0)=true:=QO.2 G;have P:Kp (Calls prog 20 #[.string s] w λe q=>∃v,e=.returned (.tuple #[v,.string (AM s),.int .i64 (Bf s),.int .i64 (AH s)])∧Below w.heap.size w q):=⟨hT.mono λe q h=>by obtain⟨v,a,b,_⟩:=h;exact⟨v,a,b⟩⟩
  clear hT G g l k;generalize AH s=er at *;generalize Bf s=ea at *;generalize AM s=F at *;go_in;go_wp2_with fail;refine P.o.mono ?_;rintro e t ⟨v,rfl,E⟩;replace E:=Z_ E;go_wp2_with fail;refine bodyPost_ret (v:=.tuple #[.string {data:=#[]},.int .i64 ea,.int .i64 er]) (by simp[results,Tryz.results7,go_sem]) rfl ⟨rfl,E.o⟩
end Go.Proofs.YtcnbifdlkalimabGreat
