/- Lemmas; their conditions stand in each. -/
import Derived.Test.YtcnbifdlkalimabGreatChkE
namespace Go.Proofs.YtcnbifdlkalimabGreat
open Go.RowKit Go.Proofs.Tryz
set_option linter.all false
set_option maxRecDepth 100000
def TJ(c:ZB)(b:Nat)(T:Int->ZB)(m:BC)(w:World)(e:Ending)(w':World):Prop:=
 e=.returned (.tuple #[.string (Du (Zz c T m).st (Zz c T m).sp),.int .i64 (Zz c T m).pl])∧ZO w' b T (Zz c T m)∧Below b w w'
theorem Ht{c:ZB}{b:Nat}{T:Int->ZB}{m M:BC}{w w':World}{s:ZB}{p:Int}(e:Zz c T m=M)(f:s=Du M.st M.sp)(d:p=M.pl)(H:ZO w' b T M)(a:Below b w w'):TJ c b T m w (.returned (.tuple #[.string s,.int .i64 p])) w':=by subst e;subst f;subst d;exact⟨rfl,H,a⟩
set_option maxHeartbeats 6400000
theorem Zok(b:Nat)(n:Int)(t v c:ZB)(T:Int->ZB)(h:Nat->Int)(m:BC)(w:World)(H:ZO w b T m)(F:Kv c v n T)(P:Kp (Bu c v t n h))(S:Kp (Cw c h m))(V:Kp (DR m))(K:m.pl<half c)(aB:Kp (∀l,(m.lo l).length<=20000)) :
  Calls prog 157 #[.agg #[.int .i64 n,.string t,.string v,.string c,.int .i64 (half c)],.pointer (some ⟨b,0,none⟩),.int .i64 m.pl,.string (Du m.st m.sp)] w (TJ c b T m w):=by
 have hc:=F.hc;have hK:=F.hK;have Q:=S.o.r0;have aE:=VD (T:=T) P.o S.o K;have ab:=P.o.ops m.pl Q K;obtain⟨x0,x9⟩:=Zx c (2*m.pl);obtain⟨y0,y9⟩:=Zx c (2*m.pl+1);obtain⟨a,O⟩:∃a:Nat,bv c (2*m.pl+1)=a:=⟨(bv c (2*m.pl+1)).toNat,by omega⟩
 obtain⟨x,I⟩:∃x,bv c (2*m.pl)=x:=⟨_,rfl⟩
 have a9:(a:Int)<=255:=by omega
 have Z:Ab c m.pl=Aj x:=by unfold Ab;rw[I]
 have aA:As c m.pl=Ar x:=by unfold As;rw[I]
 rw[Z,aA]at aE;have M:x=1∨x=2->a<8:=λk=>by have:=(P.o.vr m.pl Q K (by rw[I];exact k)).1;have:=F.hv;omega
 have L:x=10∨x=11->a<6:=λk=>by have q:=P.o.lv m.pl Q K (by rw[I];exact k);unfold Lv at q;have:=F.hn;omega
 have hA:=λw1=>GL n m.pl t v c w1 hc Q K;have hO:=λw1=>FL n m.pl t v c w1 hc Q K
 rw[O]at hA;rw[I]at hO ab x0 x9;obtain⟨s1,s2,s3,s4⟩:=aE;obtain⟨s,d⟩:∃s:Nat,m.sp=s:=⟨m.sp.toNat,by omega⟩
 have aq:=TF m.st m.sp;obtain⟨j,C⟩:∃j,Du m.st m.sp=j:=⟨_,rfl⟩
 rw[C]at aq ⊢;have aj:j.size=s:=by rw[aq,d];omega
 have G:Kp (1<=s->∀J:s-1<j.size,((j[s-1]'J).toNat:Int)=m.st (m.sp-1)):=⟨λh1 J=>by
  rw[ZJ j (s-1) J,<-C,show ((s-1:Nat):Int)=m.sp-1 from by omega];exact TX (by omega) (by omega) (V.o.st _)⟩
 have Y:Kp (2<=s->∀J:s-2<j.size,((j[s-2]'J).toNat:Int)=m.st (m.sp-2)):=⟨λh1 J=>by
  rw[ZJ j (s-2) J,<-C,show ((s-2:Nat):Int)=m.sp-2 from by omega];exact TX (by omega) (by omega) (V.o.st _)⟩
 obtain⟨pl,ao⟩:∃pl,m.pl=pl:=⟨_,rfl⟩
 have ba:pl<=200:=by omega
 have a8:0<=pl:=by omega
 rw[ao]at hA hO ⊢;have ai:(s:Int)<=8:=by omega
 have ah:Kp ((Aj x<=(s:Int))∧((s:Int)-Aj x+Ar x<=8)∧(x=1∨x=2->a<8)∧(x=10∨x=11->a<6)∧bv c (2*m.pl)=x∧bv c (2*m.pl+1)=a∧0<=x∧x<=11∧m.pl=pl∧m.sp=s):=⟨by omega,by omega,M,L,I,O,x0,ab,ao,d⟩
 replace hA:=Z_ hA;replace hO:=Z_ hO;have H':Kp _:=⟨H⟩
 have O0:=AF.new5 w (.int .i64 n) (.string t) (.string v) (.string c) (.int .i64 (half c)) 169;have aK:=H.lt;replace C:=Z_ C;replace F:=Z_ F;clear s1 s2 s3 s4 Z aA y0 y9 x0 x9 ab M L I O d ao hc hK Q aq H K;go_in;go_wp2_with fail;refine(hA.o _).mono ?_;rintro e w1 ⟨rfl,b1⟩;have O1:=O0.step b1;have al:Below w.heap.size w w1:=((Qh _ _).alloc (Qb _) _).trans (b1.mono (by simp));have u0:=O1.c 0 _ rfl;have u1:=O1.c 1 _ rfl;have u2:=O1.c 2 _ rfl;have u3:=O1.c 3 _ rfl;have u4:=O1.c 4 _ rfl;clear O0 b1;go_wp2_with fail;refine(hO.o _).mono ?_;rintro e w2 ⟨rfl,b2⟩;have O2:Kp _:=⟨O1.step b2⟩
 have aw:Kp (Below w.heap.size w w2):=⟨al.trans (b2.mono al.size)⟩
 have N:Kp _:=⟨H'.o.step aw.o⟩
 have an:=N.o.lt;clear O1 b2 al u0 u1 u2 u3 u4 H';obtain⟨s1,s4,M,L,I,O,x0,ab,B,d⟩:=ah.o;replace M:=Z_ M;replace L:=Z_ L;replace I:=Z_ I;replace O:=Z_ O;replace B:=Z_ B;replace d:=Z_ d;clear ah hA;have E:Kp (Below b w w2):=⟨aw.o.mono (Uf aK)⟩
 have aJ:x=0∨x=1∨x=2∨x=8∨x=9∨x=10∨x=11∨(3<=x∧x<=7):=by omega
 rcases aJ with rfl|rfl|rfl|rfl|rfl|rfl|rfl|ak
 ·have g:=λW=>JN a W (by omega) a9;have u:=Zd [(a:Int)]
  obtain⟨D,i⟩:∃D,bs [(a:Int)]=D:=⟨_,rfl⟩
  rw[i]at g u;have ag:D.size=1:=u;have ap:¬(9223372036854775807:Int)<(j.size:Int)+D.size:=by omega
  have aC:¬(9223372036854775807:Int)<((j.size+D.size:Nat):Int):=by omega
  replace g:=Z_ g;replace i:=Z_ i;clear u;go_wp2_with fail;refine(g.o _).mono ?_;rintro e w3 ⟨rfl,R⟩;go_wp2;go_ret2;exact Ht (Jj I.o) (by rw[O.o,<-i.o,<-C.o];exact(Ld (a:Int) (by rw[d.o];omega)).symm) (by rw[<-B.o]) ((N.o.step R).with rfl rfl rfl) (E.o.trans (R.mono (Uf an)))
 ·have ae:a<8:=M.o (.inl rfl);have aI:(a:Int)<8:=by omega
  have q0:=N.o.va a ae;obtain⟨U,X⟩:=V.o.va a;obtain⟨y,A⟩:∃y,m.va a=y:=⟨_,rfl⟩
  rw[A]at q0 U X;have g:=λW=>JN y W U X;have u:=Zd [y]
  obtain⟨D,i⟩:∃D,bs [y]=D:=⟨_,rfl⟩
  rw[i]at g u;have ag:D.size=1:=u;have ap:¬(9223372036854775807:Int)<(j.size:Int)+D.size:=by omega
  have aC:¬(9223372036854775807:Int)<((j.size+D.size:Nat):Int):=by omega
  replace g:=Z_ g;replace i:=Z_ i;replace A:=Z_ A;clear u;go_wp2_with fail;refine(g.o _).mono ?_;rintro e w3 ⟨rfl,R⟩;go_wp2;go_ret2;exact Ht (Jk I.o) (by rw[O.o,<-i.o,<-A.o,<-C.o];exact(Ld _ (by rw[d.o];omega)).symm) (by rw[<-B.o]) ((N.o.step R).with rfl rfl rfl) (E.o.trans (R.mono (Uf an)))
 ·have ae:a<8:=M.o (.inr rfl);have aI:(a:Int)<8:=by omega
  simp[Aj]at s1;obtain⟨q,hq⟩:∃q:Nat,s=q+1:=⟨s-1,by omega⟩
  have J:q<j.size:=by omega
  have q0:=N.o.va a ae;have f0:=N.o.f (12+a) (by omega);have hT:=G.o (by omega) (by omega);have aH:((j[q]'J).toNat:Int)=m.st (m.sp-1):=by rw[<-hT];congr 3;omega
  obtain⟨U,X⟩:=V.o.st (m.sp-1);obtain⟨y,A⟩:∃y,m.st (m.sp-1)=y:=⟨_,rfl⟩
  rw[A]at aH U X;have aN:(j.size:Int)-1=q:=by omega
  have aO:(q:Int)<j.size:=by omega
  have H3:=N.o.setVa ae y;have am:=E.o.setCell (p:=⟨b,12+a,none⟩) (Qb _) (.int .i64 y);replace H3:=Z_ H3;replace am:=Z_ am;replace A:=Z_ A;have hcut:Kp (j.extract 0 q=Du m.st (m.sp-1)):=⟨by rw[<-C.o,show q=(m.sp-1).toNat from by have:=d.o;omega];exact LL (by have:=d.o;omega)⟩
  have aU:j.size<=8:=by omega
  have aQ:wrap64 ((s:Int)-1)=q:=by unfold wrap64;omega
  clear hT G Y aj hq ai s1 s4;go_wp2_with fail;go_region;all_goals
   go_wp2;go_ret2;exact Ht (Jl I.o) (by rw[hcut.o]) (by rw[<-B.o]) (by rw[O.o,A.o];exact(H3.o.step (Qh _ _).drew).with rfl rfl rfl) am.o.drew
 ·go_wp2;go_ret2;exact Ht (Jm I.o) C.o.symm (by rw[O.o]) (N.o.with rfl rfl rfl) E.o
 ·simp[Aj]at s1;have J:s-1<j.size:=by omega
  have hT:=G.o (by omega) J;obtain⟨U,X⟩:=V.o.st (m.sp-1);obtain⟨y,A⟩:∃y,m.st (m.sp-1)=y:=⟨_,rfl⟩
  rw[A]at hT U X;have e1:((s:Int)-1).toNat=s-1:=by omega
  have aF:(j.size:Int)=s:=by omega
  replace A:=Z_ A;have hcut:Kp (j.extract 0 (s-1)=Du m.st (m.sp-1)):=⟨by rw[<-C.o,show s-1=(m.sp-1).toNat from by have:=d.o;omega];exact LL (by have:=d.o;omega)⟩
  by_cases hz:y=0
  ·have ar:(y==0)=true:=QL.2 hz;go_wp2;go_ret2;exact Ht (HE I.o) (by rw[hcut.o]) (by rw[if_pos (by rw[A.o];exact hz),O.o]) (N.o.with rfl rfl rfl) E.o
  ·have ar:(y==0)=false:=Qf.2 hz;go_wp2;go_ret2;exact Ht (HE I.o) (by rw[hcut.o]) (by rw[if_neg (by rw[A.o];exact hz),<-B.o]) (N.o.with rfl rfl rfl) E.o
 ·have ad:a<6:=L.o (.inl rfl);have hD:=ZoW b T m a w2 N.o ad (F.o.ht a ad);obtain⟨U,X⟩:=Zx (T a) (m.po a);obtain⟨y,A⟩:∃y,bv (T a) (m.po a)=y:=⟨_,rfl⟩
  rw[A]at hD U X;have g:=λW=>JN y W U X;have u:=Zd [y]
  obtain⟨D,i⟩:∃D,bs [y]=D:=⟨_,rfl⟩
  rw[i]at g u;have ag:D.size=1:=u;have ap:¬(9223372036854775807:Int)<(j.size:Int)+D.size:=by omega
  have aC:¬(9223372036854775807:Int)<((j.size+D.size:Nat):Int):=by omega
  replace g:=Z_ g;replace i:=Z_ i;replace A:=Z_ A;replace hD:=Z_ hD;clear u;go_wp2_with fail;refine hD.o.mono ?_;rintro e w3 ⟨rfl,H3,R⟩;go_wp2_with fail;refine(g.o _).mono ?_;rintro e w4 ⟨rfl,b4⟩;have aL:=H3.lt;go_wp2;go_ret2;exact Ht (Ja I.o) (by rw[O.o,A.o,<-i.o,<-C.o];exact(Ld _ (by rw[d.o];omega)).symm) (by rw[<-B.o]) (by rw[O.o];exact(H3.step b4).with rfl rfl rfl) ((E.o.trans R).trans (b4.mono (Uf aL)))
 ·have ad:a<6:=L.o (.inr rfl);simp[Aj]at s1;have J:s-1<j.size:=by omega
  have hT:=G.o (by omega) J;obtain⟨U,X⟩:=V.o.st (m.sp-1);obtain⟨y,A⟩:∃y,m.st (m.sp-1)=y:=⟨_,rfl⟩
  rw[A]at hT U X;have e1:((s:Int)-1).toNat=s-1:=by omega
  have aF:(j.size:Int)=s:=by omega
  replace A:=Z_ A;have hcut:Kp (j.extract 0 (s-1)=Du m.st (m.sp-1)):=⟨by rw[<-C.o,show s-1=(m.sp-1).toNat from by have:=d.o;omega];exact LL (by have:=d.o;omega)⟩
  have hD:=ZoX b T m a y w2 N.o ad U X (aB.o a);replace hD:=Z_ hD;go_wp2_with fail;refine hD.o.mono ?_;rintro e w3 ⟨rfl,H3,R⟩;go_wp2;go_ret2;exact Ht (Jb I.o) (by rw[hcut.o]) (by rw[<-B.o]) (by rw[O.o,A.o];exact H3.with rfl rfl rfl) (E.o.trans R)
 ·have Z:Aj x=2:=by unfold Aj;rw[if_neg (by omega),if_neg (by omega)]
  rw[Z]at s1;obtain⟨q,hq⟩:∃q:Nat,s=q+2:=⟨s-2,by omega⟩
  have J:q+1<j.size:=by omega
  have hj:q<j.size:=by omega
  have ay:=G.o (by omega) (by omega);have hT:((j[q+1]'J).toNat:Int)=m.st (m.sp-1):=by rw[<-ay];congr 3;omega
  have ax:=Y.o (by omega) (by omega);have hS:((j[q]'hj).toNat:Int)=m.st (m.sp-2):=by rw[<-ax];congr 3;omega
  clear ay ax;have au:=V.o.st (m.sp-1);have av:=V.o.st (m.sp-2);obtain⟨y,A⟩:∃y,m.st (m.sp-1)=y:=⟨_,rfl⟩
  obtain⟨z,hz⟩:∃z,m.st (m.sp-2)=z:=⟨_,rfl⟩
  rw[A]at hT au;rw[hz]at hS av;have hR:=λW=>Xh x z y W ak av au;have af:=Rv x z y
  obtain⟨r,hr⟩:∃r,AE x z y=r:=⟨_,rfl⟩
  rw[hr]at hR af;have g:=λW=>JN r W af.1 af.2;have u:=Zd [r]
  obtain⟨D,i⟩:∃D,bs [r]=D:=⟨_,rfl⟩
  rw[i]at g u;have ag:D.size=1:=u;have aN:(j.size:Int)-1=((q+1:Nat):Int):=by omega
  have aY:(j.size:Int)-2=(q:Int):=by omega
  have aO:((q+1:Nat):Int)<j.size:=by omega
  have aZ:(q:Int)<j.size:=by omega
  obtain⟨sc,aD⟩:∃sc,j.extract 0 q=sc:=⟨_,rfl⟩
  have aV:sc.size<=8:=by rw[<-aD,QX];omega
  have az:Kp (sc++D=Du (up m.st (m.sp-2) (AE x (m.st (m.sp-2)) (m.st (m.sp-1)))) (m.sp-1)):=⟨by
   rw[A,hz,hr,<-aD,<-i,<-C.o,show q=(m.sp-2).toNat from by have:=d.o;omega];exact ZqS _ (by have:=d.o;omega)⟩
  have u0:=O2.o.c 0 _ rfl;have u1:=O2.o.c 1 _ rfl;have u2:=O2.o.c 2 _ rfl;have u3:=O2.o.c 3 _ rfl;have u4:=O2.o.c 4 _ rfl;replace g:=Z_ g;replace i:=Z_ i;replace A:=Z_ A;replace hz:=Z_ hz;replace hr:=Z_ hr;replace hR:=Z_ hR;obtain⟨o1,o2⟩:=ak;have a5:(x==0)=false:=Qf.2 (by omega);have nx1:(x==1)=false:=Qf.2 (by omega);have nx2:(x==2)=false:=Qf.2 (by omega);have a6:(x==8)=false:=Qf.2 (by omega);have a7:(x==9)=false:=Qf.2 (by omega);have aW:(x==10)=false:=Qf.2 (by omega);have aX:(x==11)=false:=Qf.2 (by omega);have aU:j.size<=8:=by omega
  have aQ:wrap64 ((s:Int)-1)=((q+1:Nat):Int):=by unfold wrap64;omega
  have a1:wrap64 ((s:Int)-2)=q:=by unfold wrap64;omega
  have a0:q<=j.size:=by omega
  have a2:IntKind.i64.wrap ((s:Int)-1)=((q+1:Nat):Int):=by rw[IntKind.wrap_i64];omega
  have a3:IntKind.i64.wrap ((s:Int)-2)=q:=by rw[IntKind.wrap_i64];omega
  have ar:wrap64 z=z:=by unfold wrap64;omega
  have aT:IntKind.i64.wrap z=z:=by rw[IntKind.wrap_i64];omega
  have aR:wrap64 y=y:=by unfold wrap64;omega
  have aS:IntKind.i64.wrap y=y:=by rw[IntKind.wrap_i64];omega
  clear u af au av G Y aj hq ai s1 s4 Z;go_wp2_with fail;go_region_held3 (λw'=>w'.cell? ⟨w.heap.size,0,none⟩=some (.int .i64 n)∧w'.cell? ⟨w.heap.size,1,none⟩=some (.string t)∧w'.cell? ⟨w.heap.size,2,none⟩=some (.string v)∧w'.cell? ⟨w.heap.size,3,none⟩=some (.string c)∧w'.cell? ⟨w.heap.size,4,none⟩=some (.int .i64 (half c))) (go_keep) (first
   | (go_at_call 197;(try rw[ar]);(try rw[aT]);(try rw[aR]);(try rw[aS]);refine(hR.o _).mono ?_;rintro e w4 ⟨rfl,aP⟩;subst aP)
   | (go_at_call 149;refine(hO.o _).mono ?_;rintro e w3 ⟨rfl,R⟩;have aa:Below w2.heap.size w2 w3:=(Qh _ _).drew.trans R;have O3:=O2.o.step aa;have c0:=O3.c 0 _ rfl;have c1:=O3.c 1 _ rfl;have c2:=O3.c 2 _ rfl;have c3:=O3.c 3 _ rfl;have c4:=O3.c 4 _ rfl))
  all_goals
   have H4:Kp _:=⟨N.o.step aa⟩
   have aM:=H4.o.lt;have aG:Kp (Below b w w4):=⟨E.o.trans (aa.mono (Uf an))⟩
   clear c0 c1 c2 c3 c4 u0 u1 u2 u3 u4 O3 R aa O2 N E hR hO hT hS;have ap:¬9223372036854775807<sc.size+D.size:=by omega
   clear ag;have a4:IntKind.i64.wrap (pl+1)=pl+1:=by rw[IntKind.wrap_i64];omega
   go_wp2_with fail;go_region_held3 (λ_=>True) (trivial) ((go_at_call 51;refine(g.o _).mono ?_;rintro e w5 ⟨rfl,b5⟩;have b6:Below w4.heap.size w4 w5:=(Qh _ _).drew.trans b5));all_goals
    go_wp2;go_ret2;exact Ht (Gg (by rw[I.o];omega)) (by rw[I.o];exact az.o) (by rw[<-B.o]) ((H4.o.step b6).with rfl rfl rfl) (aG.o.trans (b6.mono (Uf aM)))
structure PH(c:ZB)(T:Int->ZB)(f k j:Nat):Prop where
 kf:k<=f+1
 jm:j=min k f
 num:numM c T j start=j
 last:k=f+1->(Me c T j start).pl≠half c
theorem Zol(s:ZB)(T:Int->ZB)(f:Int)(w:World)(hs:s.size<=maxLen)(hT:∀l:Nat,l<6->(T l).size<=maxLen):Calls prog 86 #[.string s,EC T,.int .i64 f] w (TZ s T f w):=by
 obtain⟨w0,E⟩:∃w0,w0=((w.alloc (.cells #[.string (T 0),.string (T 1),.string (T 2),.string (T 3),.string (T 4),.string (T 5)] 34)).alloc (.cells #[.int .i64 0,.int .i64 0,.string {data:=#[]},.string {data:=#[]},.string {data:=#[]},.string {data:=#[]},.string {data:=#[]},.string {data:=#[]},.string {data:=#[]}] 36)).alloc (.cells #[.int .i64 0,.int .i64 0,.string {data:=#[]},.string {data:=#[]},.string {data:=#[]},.string {data:=#[]},.string {data:=#[]},.string {data:=#[]},.string {data:=#[]}] 36):=⟨_,rfl⟩
 have X0:ZX w0 (w.heap.size+1) 0 0 (λ_=>{data:=#[]}) {data:=#[]}:=by rw[E];have:=(ZX.new (w.alloc (.cells #[.string (T 0),.string (T 1),.string (T 2),.string (T 3),.string (T 4),.string (T 5)] 34)) 36 0 0).step ((Qh _ _).alloc (Qb _) (.cells #[.int .i64 0,.int .i64 0,.string {data:=#[]},.string {data:=#[]},.string {data:=#[]},.string {data:=#[]},.string {data:=#[]},.string {data:=#[]},.string {data:=#[]}] 36));simpa using this
 have N0:ZX w0 (w.heap.size+1+1) 0 0 (λ_=>{data:=#[]}) {data:=#[]}:=by rw[E];have:=ZX.new ((w.alloc (.cells #[.string (T 0),.string (T 1),.string (T 2),.string (T 3),.string (T 4),.string (T 5)] 34)).alloc (.cells #[.int .i64 0,.int .i64 0,.string {data:=#[]},.string {data:=#[]},.string {data:=#[]},.string {data:=#[]},.string {data:=#[]},.string {data:=#[]},.string {data:=#[]}] 36)) 36 0 0;simpa using this
 have T0:DB w0 w.heap.size (λj=>T j):=by rw[E];exact((DB.new w 34 (T 0) (T 1) (T 2) (T 3) (T 4) (T 5) (f:=λj=>T j) ⟨rfl,rfl,rfl,rfl,rfl,rfl⟩).step ((Qh _ _).alloc (Qb _) _)).step ((Qh _ _).alloc (Qb _) _)
 have M:Below w.heap.size w w0:=by rw[E];exact(((Qh _ _).alloc (Qb _) _).alloc (by simp) _).alloc (by simp;omega) _
 replace E:=Z_ E;replace X0:=Z_ X0;replace N0:=Z_ N0;replace T0:=Z_ T0;replace M:=Z_ M;replace hT:=Z_ hT;have a:w.heap.size<=w.heap.size+1:=by omega
 unfold EC;go_in;go_wp2_with fail;rw[<-E.o];clear E;refine(RB s _ hs).mono ?_;rintro e w1 ⟨p,x,rfl,hC,b1⟩;have b:=X0.o.step b1;have A:=N0.o.step b1;have L:=T0.o.step b1;have u:=M.o.trans (b1.mono M.o.size);have au:=b.lt;have aB:=A.lt;clear X0 N0 T0 M b1;by_cases hx:x=0
 ·subst hx;obtain⟨aa,rfl,ap,P⟩:=Tg hs hC.o;by_cases hf:0<=f∧f<=20000
  ·obtain⟨ai,ao⟩:=hf;obtain⟨B,rfl⟩:∃k:Nat,f=k:=⟨f.toNat,by omega⟩
   have aw:B<=20000:=by omega
   have F:=Jd hs aa;have R:Kp (Kv (Ao s) (At s) (bv s 1) T):=⟨US F hs aa hT.o⟩
   have ag:=R.o.hv;have hh:=(Zn (Ao s)).1;have N:=λW=>NV s W hs aa;have g:Kp (Gw s T B (Fz (Ao s) (At s) T B) 0):=⟨.inr (.inr ⟨hC.o,ai,ao,rfl,rfl⟩)⟩
   replace P:=Z_ P;obtain⟨c,Q⟩:∃c,Ao s=c:=⟨_,rfl⟩
   obtain⟨v,U⟩:∃v,At s=v:=⟨_,rfl⟩
   obtain⟨t,ak⟩:∃t,Av s=t:=⟨_,rfl⟩
   obtain⟨n,J⟩:∃n,bv s 1=n:=⟨_,rfl⟩
   rw[Q,U,ak,J]at N P;rw[Q,U,J]at R;rw[Q,U]at g;rw[U]at ag;rw[Q]at hh;replace N:=Z_ N;have t0:=L.c 0 (by omega);have t1:=L.c 1 (by omega);have t2:=L.c 2 (by omega);have t3:=L.c 3 (by omega);have t4:=L.c 4 (by omega);have t5:=L.c 5 (by omega);replace b:=Z_ b;replace L:=Z_ L;replace u:=Z_ u;clear Q U ak J aa F A hC hs;go_wp2_with fail;refine(N.o _).mono ?_;rintro e C ⟨rfl,b2⟩;have T2:=L.o.step b2;clear t0 t1 t2 t3 t4 t5;have t0:=T2.c 0 (by omega);have t1:=T2.c 1 (by omega);have t2:=T2.c 2 (by omega);have t3:=T2.c 3 (by omega);have t4:=T2.c 4 (by omega);have t5:=T2.c 5 (by omega);have aC:=T2.lt;obtain⟨w3,I⟩:∃w3,w3=(C.alloc (.cells #[.int .i64 n,.string t,.string v,.string c,.int .i64 (half c)] 169)).alloc (.cells #[.string (T 0),.string (T 1),.string (T 2),.string (T 3),.string (T 4),.string (T 5),.string {data:=#[]},.string {data:=#[]},.string {data:=#[]},.string {data:=#[]},.string {data:=#[]},.string {data:=#[]},.int .i64 0,.int .i64 0,.int .i64 0,.int .i64 0,.int .i64 0,.int .i64 0,.int .i64 0,.int .i64 0] 87):=⟨_,rfl⟩
   have O3:AF w3 C.heap.size [.int .i64 n,.string t,.string v,.string c,.int .i64 (half c)]:=by rw[I];exact(AF.new5 C _ _ _ _ _ _).alloc _
   have H3:ZO w3 (C.heap.size+1) T start:=by rw[I];have:=ZO.new (C.alloc (.cells #[.int .i64 n,.string t,.string v,.string c,.int .i64 (half c)] 169)) 87 T;simpa using this
   have b3:Below w1.heap.size w1 w3:=by rw[I];exact(b2.alloc b2.size _).alloc (by simp;exact Nat.le_succ_of_le b2.size) _
   have X3:=b.o.step b3;have Z:=u.o.trans (b3.mono u.o.size);have aE:w.heap.size+1<C.heap.size:=Qq au b2.size;replace I:=Z_ I;replace O3:=Z_ O3;replace H3:=Z_ H3;replace X3:=Z_ X3;replace Z:=Z_ Z;clear b2 b3 b L u T2 N;go_wp2_with fail;rw[<-I.o];clear I t0 t1 t2 t3 t4 t5;go_loopw [14,15,16] (λsv av nv wr=>∃k j:Nat,nv=.int .i64 k∧sv=.string (Du (Me c T j start).st (Me c T j start).sp)∧av=.int .i64 (Me c T j start).pl∧Kp (PH c T B k j)∧Kp (ZO wr (C.heap.size+1) T (Me c T j start))∧Kp (ZX wr (w.heap.size+1) 0 0 (λ_=>{data:=#[]}) {data:=#[]})∧Kp (AF wr C.heap.size [.int .i64 n,.string t,.string v,.string c,.int .i64 (half c)])∧Kp (Below w.heap.size w wr)) (λ_ _ nv _=>B+1-(intOf nv).toNat);case atStart=>exact⟨0,0,rfl,rfl,rfl,⟨⟨by omega,by omega,rfl,λe=>by omega⟩⟩,H3,X3,O3,Z⟩
   case round=>
    clear H3 X3 O3 Z;obtain⟨k,j,rfl,rfl,rfl,D,H,X,O,Y⟩:=hrel;have dk:=D.o.kf;have dj:=D.o.jm;obtain⟨Sd,Vd,_⟩:=Od (T:=T) P.o j start (Ru P.o) RO;replace Sd:=Z_ Sd;replace Vd:=Z_ Vd;have o0:=O.o.c 0 _ rfl;have o1:=O.o.c 1 _ rfl;have o2:=O.o.c 2 _ rfl;have o3:=O.o.c 3 _ rfl;have o4:=O.o.c 4 _ rfl;obtain⟨pl,z⟩:∃pl,(Me c T j start).pl=pl:=⟨_,rfl⟩
    obtain⟨sk,K⟩:∃sk,Du (Me c T j start).st (Me c T j start).sp=sk:=⟨_,rfl⟩
    rw[z,K];have aD:(v.size:Int)<=8:=by omega
    by_cases ay:k<=B
    ·have ej:j=k:=by omega
     have aq:(k:Int)<=B:=by omega
     by_cases he:pl=half c
     ·have h:Fz c v T B=ED 1 k (λq=>bs ((Me c T j start).lo q)) (bs (CM (Me c T j start).va v.size)):=by obtain⟨r1,r2⟩:=SA (T:=T) (m:=start) (k:=j) (by rw[z];exact he) B (by omega);unfold Fz ED Df De BM Cz;rw[r1,r2,D.o.num,z,if_pos he,ej];rfl
      have an:(pl==half c)=true:=QL.2 he;clear z K Sd ej dj dk D;have r:=λW (hW:ZO W (C.heap.size+1) T (Me c T j start))=>Ry (C.heap.size+1) T (Me c T j start) 1 k v.size W hW Vd ag;obtain⟨y,hy⟩:∃y:Nat->ZB,(λq:Nat=>bs ((Me c T j start).lo q))=y:=⟨_,rfl⟩
      obtain⟨yv,V⟩:∃yv,bs (CM (Me c T j start).va v.size)=yv:=⟨_,rfl⟩
      rw[hy,V]at r h;unfold ED at r h;replace r:=Z_ r;rw[h]at g;clear h hy V;go_wp2_with fail;refine(r.o _ H.o).mono ?_;rintro e w5 ⟨rfl,G⟩;have d:=X.o.step G;have u:=Y.o.trans (G.mono Y.o.size);have al:=d.lt;have r0:=d.c0;have r1:=d.c1;have r2:=d.cl 0 (by omega);have r3:=d.cl 1 (by omega);have r4:=d.cl 2 (by omega);have r5:=d.cl 3 (by omega);have r6:=d.cl 4 (by omega);have r7:=d.cl 5 (by omega);have r8:=d.cv;have f0:=d.f 0 (by omega);have f1:=d.f 1 (by omega);have f2:=d.f 2 (by omega);have f3:=d.f 3 (by omega);have f4:=d.f 4 (by omega);have f5:=d.f 5 (by omega);have f6:=d.f 6 (by omega);have f7:=d.f 7 (by omega);have f8:=d.f 8 (by omega);clear d G H X Y O r o0 o1 o2 o3 o4;go_wp2;exact bodyPost_ret (v:=.tuple #[.agg #[.int .i64 1,.int .i64 k,.string (y 0),.string (y 1),.string (y 2),.string (y 3),.string (y 4),.string (y 5),.string yv],.int .i64 0]) (by simp[results,Tryz.results86,go_sem,r0,r1,r2,r3,r4,r5,r6,r7,r8]) rfl ⟨_,_,rfl,g,((((((((u.setCell a _).setCell a _).setCell a _).setCell a _).setCell a _).setCell a _).setCell a _).setCell a _).setCell a _⟩
     ·have an:(pl==half c)=false:=Qf.2 he;by_cases aA:k<B
      ·have az:(k:Int)<B:=by omega
       have af:(Me c T j start).pl<half c:=by have:=Sd.o.r1;omega
       have ad:Kp (∀l,((Me c T j start).lo l).length<=20000):=⟨λl=>by have:=Pt c T l j start;have e:(start.lo l).length=0:=rfl;omega⟩
       have S:=Zok (C.heap.size+1) n t v c T ap (Me c T j start) wr H.o R.o P Sd Vd af ad;have ar:Kp (Me c T (j+1) start=Zz c T (Me c T j start)):=⟨Sz (by rw[z];exact he)⟩
       have D2:Kp (PH c T B (k+1) (j+1)):=⟨⟨by omega,by omega,OR j start (by rw[z];exact he),λe=>by omega⟩⟩
       rw[z,K]at S;replace S:=Z_ S;have aj:C.heap.size<C.heap.size+1:=by omega
       clear z K af ad ej dj dk D he;go_wp2_with fail;refine S.o.mono ?_;rintro e w5 ⟨rfl,H5,G⟩;rw[<-ar.o]at H5 ⊢;have d:Kp (ZX w5 (w.heap.size+1) 0 0 (λ_=>{data:=#[]}) {data:=#[]}):=⟨by
        have ab:∀q:Nat,w5.cell? ⟨w.heap.size+1,q,none⟩=wr.cell? ⟨w.heap.size+1,q,none⟩:=λq=>G.cell (p:=⟨w.heap.size+1,q,none⟩) (by show w.heap.size+1<C.heap.size+1;omega);exact⟨Qq X.o.lt G.size,(ab _).trans X.o.c0,(ab _).trans X.o.c1,λj hj=>(ab _).trans (X.o.cl j hj),(ab _).trans X.o.cv,λj hj=>by rw[G.frozen (p:=⟨w.heap.size+1,j,none⟩) (by show w.heap.size+1<C.heap.size+1;omega)];exact X.o.f j hj⟩⟩
       have O5:Kp (AF w5 C.heap.size [.int .i64 n,.string t,.string v,.string c,.int .i64 (half c)]):=⟨Qq O.o.lt G.size,λi x hx=>by rw[G.cell (p:=⟨C.heap.size,i,none⟩) aj];exact O.o.c i x hx,λi x hx=>by rw[G.frozen (p:=⟨C.heap.size,i,none⟩) aj];exact O.o.f i x hx⟩
       have am:Kp (Below w.heap.size w w5):=⟨Y.o.trans (G.mono (by omega))⟩
       replace H5:=Z_ H5;clear G H X O Y S o0 o1 o2 o3 o4;go_wp2_with fail;go_roundw;case rel=>exact⟨k+1,j+1,by go_num,rfl,rfl,D2,H5,d,O5,am⟩
       case measure=>simp[intOf];omega
      ·have ah:k=B:=by omega
       have D2:Kp (PH c T B (k+1) j):=⟨⟨by omega,by omega,D.o.num,λ_=>by rw[z];exact he⟩⟩
       go_wp2_with fail;go_roundw;case rel=>exact⟨k+1,j,by go_num,by rw[K],by rw[z],D2,H,X,O,Y⟩
       case measure=>simp[intOf];omega
    ·have ah:k=B+1:=by omega
     have ej:j=B:=by omega
     have aq:¬(k:Int)<=B:=by omega
     have h:Fz c v T B=ED 2 B (λq=>bs ((Me c T j start).lo q)) (bs (CM (Me c T j start).va v.size)):=by have J:=D.o.last ah;have ae:=D.o.num;rw[ej]at J ae ⊢;unfold Fz ED Df De BM Cz;rw[ae,if_neg J];rfl
     clear z K Sd ej dj dk D;have r:=λW (hW:ZO W (C.heap.size+1) T (Me c T j start))=>Ry (C.heap.size+1) T (Me c T j start) 2 B v.size W hW Vd ag;obtain⟨y,hy⟩:∃y:Nat->ZB,(λq:Nat=>bs ((Me c T j start).lo q))=y:=⟨_,rfl⟩
     obtain⟨yv,V⟩:∃yv,bs (CM (Me c T j start).va v.size)=yv:=⟨_,rfl⟩
     rw[hy,V]at r h;unfold ED at r h;replace r:=Z_ r;rw[h]at g;clear h hy V;go_wp2_with fail;refine(r.o _ H.o).mono ?_;rintro e w5 ⟨rfl,G⟩;have d:=X.o.step G;have u:=Y.o.trans (G.mono Y.o.size);have al:=d.lt;have r0:=d.c0;have r1:=d.c1;have r2:=d.cl 0 (by omega);have r3:=d.cl 1 (by omega);have r4:=d.cl 2 (by omega);have r5:=d.cl 3 (by omega);have r6:=d.cl 4 (by omega);have r7:=d.cl 5 (by omega);have r8:=d.cv;have f0:=d.f 0 (by omega);have f1:=d.f 1 (by omega);have f2:=d.f 2 (by omega);have f3:=d.f 3 (by omega);have f4:=d.f 4 (by omega);have f5:=d.f 5 (by omega);have f6:=d.f 6 (by omega);have f7:=d.f 7 (by omega);have f8:=d.f 8 (by omega);clear d G H X Y O r o0 o1 o2 o3 o4;go_wp2;exact bodyPost_ret (v:=.tuple #[.agg #[.int .i64 2,.int .i64 B,.string (y 0),.string (y 1),.string (y 2),.string (y 3),.string (y 4),.string (y 5),.string yv],.int .i64 0]) (by simp[results,Tryz.results86,go_sem,r0,r1,r2,r3,r4,r5,r6,r7,r8]) rfl ⟨_,_,rfl,g,((((((((u.setCell a _).setCell a _).setCell a _).setCell a _).setCell a _).setCell a _).setCell a _).setCell a _).setCell a _⟩
  ·have g:Kp (Gw s T f FX 10):=⟨.inr (.inl ⟨hC.o,by omega,rfl,rfl⟩)⟩
   unfold FX at g;have r0:=b.c0;have r1:=b.c1;have r2:=b.cl 0 (by omega);have r3:=b.cl 1 (by omega);have r4:=b.cl 2 (by omega);have r5:=b.cl 3 (by omega);have r6:=b.cl 4 (by omega);have r7:=b.cl 5 (by omega);have r8:=b.cv;have f0:=b.f 0 (by omega);have f1:=b.f 1 (by omega);have f2:=b.f 2 (by omega);have f3:=b.f 3 (by omega);have f4:=b.f 4 (by omega);have f5:=b.f 5 (by omega);have f6:=b.f 6 (by omega);have f7:=b.f 7 (by omega);have f8:=b.f 8 (by omega);have n0:=A.c0;have n1:=A.c1;have n2:=A.cl 0 (by omega);have n3:=A.cl 1 (by omega);have n4:=A.cl 2 (by omega);have n5:=A.cl 3 (by omega);have n6:=A.cl 4 (by omega);have n7:=A.cl 5 (by omega);have n8:=A.cv;clear b A L P;by_cases ai:f<0;all_goals
    have ax:¬(0<=f∧f<=20000):=hf;clear hf;go_wp2;exact bodyPost_ret (v:=.tuple #[.agg #[.int .i64 0,.int .i64 0,.string {data:=#[]},.string {data:=#[]},.string {data:=#[]},.string {data:=#[]},.string {data:=#[]},.string {data:=#[]},.string {data:=#[]}],.int .i64 10]) (by simp[results,Tryz.results86,go_sem,r0,r1,r2,r3,r4,r5,r6,r7,r8]) rfl ⟨_,_,rfl,g,((((((((u.setCell a _).setCell a _).setCell a _).setCell a _).setCell a _).setCell a _).setCell a _).setCell a _).setCell a _⟩
 ·have hk:(x != 0)=true:=QO.2 hx;have g:Kp (Gw s T f FX x):=⟨.inl ⟨p,hC.o,hx,rfl⟩⟩
  unfold FX at g;have r0:=b.c0;have r1:=b.c1;have r2:=b.cl 0 (by omega);have r3:=b.cl 1 (by omega);have r4:=b.cl 2 (by omega);have r5:=b.cl 3 (by omega);have r6:=b.cl 4 (by omega);have r7:=b.cl 5 (by omega);have r8:=b.cv;have f0:=b.f 0 (by omega);have f1:=b.f 1 (by omega);have f2:=b.f 2 (by omega);have f3:=b.f 3 (by omega);have f4:=b.f 4 (by omega);have f5:=b.f 5 (by omega);have f6:=b.f 6 (by omega);have f7:=b.f 7 (by omega);have f8:=b.f 8 (by omega);have n0:=A.c0;have n1:=A.c1;have n2:=A.cl 0 (by omega);have n3:=A.cl 1 (by omega);have n4:=A.cl 2 (by omega);have n5:=A.cl 3 (by omega);have n6:=A.cl 4 (by omega);have n7:=A.cl 5 (by omega);have n8:=A.cv;clear b A L hC;go_wp2;exact bodyPost_ret (v:=.tuple #[.agg #[.int .i64 0,.int .i64 0,.string {data:=#[]},.string {data:=#[]},.string {data:=#[]},.string {data:=#[]},.string {data:=#[]},.string {data:=#[]},.string {data:=#[]}],.int .i64 x]) (by simp[results,Tryz.results86,go_sem,r0,r1,r2,r3,r4,r5,r6,r7,r8]) rfl ⟨_,_,rfl,g,((((((((u.setCell a _).setCell a _).setCell a _).setCell a _).setCell a _).setCell a _).setCell a _).setCell a _).setCell a _⟩
theorem Zqk{s:ZB}{T:Int->ZB}{f:Int}{r r':Value}{x t:Int}(w:s.size<=maxLen)(h:Gw s T f r x)(q:Gw s T f r' t):r=r'∧x=t:=by
 have one:∀{p e o e'},DY s p e->DY s o e'->p=o∧e=e':=λa b=>RQ (λh=>GO (Jd w h).ok) a b;rcases h with ⟨p,k,l,n⟩|⟨k,y,l,n⟩|⟨k,u,v,l,n⟩
 ·rcases q with ⟨o,c,d,g⟩|⟨c,m,d,g⟩|⟨c,i,j,d,g⟩
  ·exact⟨n.trans g.symm,(one k c).2⟩
  ·exact absurd (one k c).2 l
  ·exact absurd (one k c).2 l
 ·rcases q with ⟨o,c,d,g⟩|⟨c,m,d,g⟩|⟨c,i,j,d,g⟩
  ·exact absurd (one c k).2 d
  ·exact⟨n.trans g.symm,l.trans d.symm⟩
  ·omega
 ·rcases q with ⟨o,c,d,g⟩|⟨c,m,d,g⟩|⟨c,i,j,d,g⟩
  ·exact absurd (one c k).2 d
  ·omega
  ·exact⟨n.trans g.symm,l.trans d.symm⟩
theorem runs_walk(s:ZB)(T:Int->ZB)(f:Int)(w:World)(I:s.size<=maxLen)(K:∀l:Nat,l<6->(T l).size<=maxLen) :
  Calls prog 36 #[.string s,EC T,.int .i64 f] w λe w'=>e=.returned (.bool true)∧Below w.heap.size w w':=by
 obtain⟨D,a⟩:∃D,D=w.alloc (.cells #[.string (T 0),.string (T 1),.string (T 2),.string (T 3),.string (T 4),.string (T 5)] 23):=⟨_,rfl⟩
 have B:DB D w.heap.size (λj=>T j):=by rw[a];exact DB.new w 23 (T 0) (T 1) (T 2) (T 3) (T 4) (T 5) (f:=λj=>T j) ⟨rfl,rfl,rfl,rfl,rfl,rfl⟩
 have g:Below w.heap.size w D:=by rw[a];exact(Qh _ _).alloc (Qb _) _
 have u:=λW=>Zpj s T f W I K;have t:=λW=>Zol s T f W I K
 unfold EC at u t;replace u:=Z_ u;replace t:=Z_ t;replace a:=Z_ a;replace B:=Z_ B;replace g:=Z_ g;unfold EC;go_in;go_wp2_with fail;rw[<-a.o];clear a;refine(u.o _).mono ?_;rintro e J ⟨r,x,rfl,G,E⟩;obtain⟨m,A,y,v,P⟩:=ZoZ G.o;subst P;unfold ED;obtain⟨wc,b⟩:∃wc,wc=J.alloc (.cells #[.int .i64 m,.int .i64 A,.string (y 0),.string (y 1),.string (y 2),.string (y 3),.string (y 4),.string (y 5),.string v] 31):=⟨_,rfl⟩
 have C:ZX wc J.heap.size m A y v:=by rw[b];exact ZX.boxD J _ m A y v
 have i:=B.o.step E;have t0:=i.c 0 (by omega);have t1:=i.c 1 (by omega);have t2:=i.c 2 (by omega);have t3:=i.c 3 (by omega);have t4:=i.c 4 (by omega);have t5:=i.c 5 (by omega);have O:=i.lt;have k:=g.o.trans (E.mono g.o.size);have h:Below w.heap.size w wc:=by rw[b];exact k.alloc k.size _
 replace b:=Z_ b;replace C:=Z_ C;replace h:=Z_ h;clear B g i E k;go_wp2_with fail;rw[<-b.o];clear b t0 t1 t2 t3 t4 t5;refine(t.o _).mono ?_;rintro e w2 ⟨r',x',rfl,n,F⟩;obtain⟨M,N⟩:=Zqk I G.o n.o;subst M;subst N;unfold ED;have d:=C.o.step F;have p:=h.o.trans (F.mono h.o.size);have Q:=d.lt;have S:=d.c0;have U:=d.c1;have V:=d.cl 0 (by omega);have X:=d.cl 1 (by omega);have Y:=d.cl 2 (by omega);have Z:=d.cl 3 (by omega);have p6:=d.cl 4 (by omega);have p7:=d.cl 5 (by omega);have p8:=d.cv;have z:=λW=>YP m A y v W;unfold ED at z;replace z:=Z_ z;have q:=p.alloc p.size (.cells #[.int .i64 m,.int .i64 A,.string (y 0),.string (y 1),.string (y 2),.string (y 3),.string (y 4),.string (y 5),.string v] 36)
 have R:(x==x)=true:=by simp
 clear C d h F u t G n;go_wp2_with fail;refine(z.o _).mono ?_;rintro e w3 ⟨rfl,L⟩;have H:=q.trans (L.mono q.size);clear S U V X Y Z p6 p7 p8 z;go_wp2_with fail;refine(IT _ _).mono ?_;rintro e w5 ⟨rfl,rfl⟩;go_wp2;go_ret;exact⟨Za (by simp),H⟩
end Go.Proofs.YtcnbifdlkalimabGreat
