/- Lemmas; their conditions stand in each. -/
import Derived.Test.YtcnbifdlkalimabGreatTrnE
namespace Go.Proofs.YtcnbifdlkalimabGreat
open Go.RowKit Go.Proofs.Tryz
set_option linter.all false
set_option maxRecDepth 100000
variable{q:Tq}{s:ZB}
def Dz(b:Nat)(s:ZB)(S:Nat->Value)(w:World)(y:Tq)(e:Ending)(w':World):Prop:=
 e=.returned (.tuple #[])∧∃S',Zw w' b s y S'∧Zq b b S S' w w'
theorem Zq.fresh{b g:Nat}{S c d:Nat->Value}{w w1 e:World}(h:Zq b b S c w w1)(k:Zq b g c d w1 e)(m:w.heap.size<=g):Zq b b S d w e:=by have a:=h.up (g:=g) |>.trans k;exact⟨a.os,a.tape,a.output,a.size,λi l f _ j=>a.block i l f (by omega) j,a.rows⟩
theorem Cj.new{w:World}{b:Nat}{S:Nat->Value}(H:Zw w b s q S)(x:Sq){c:World}(a:c=w.alloc (.cells #[.int .i64 x.k,.int .i64 x.pl,.int .i64 x.ou,.int .i64 x.ta,.bool (x.rd 0),.bool (x.rd 1),.bool (x.rd 2),.bool (x.rd 3),.bool (x.rd 4),.bool (x.rd 5),.bool (x.tp 0),.bool (x.tp 1),.bool (x.tp 2),.bool (x.tp 3),.bool (x.tp 4),.bool (x.tp 5)] 109)) :
  Cj c b s S w.heap.size (q,x)∧Zq b b S S w c:=by
 have d:Below w.heap.size w c:=by rw[a];exact(Qh _ _).alloc (Qb _) _
 refine⟨⟨H.step d,⟨by rw[a];simp,λe=>by have:=H.lt;omega,λj f e=>by have:=((H.o j f).lt _ e).2;omega⟩,by rw[a];exact Ep w x _⟩,Zq.below d⟩
theorem CF{r:Rd}{n:Nat}(h:Bm s r<=Bm s q.r)(a:AA s q<=n):AA s {q with r:=r}<=n:=Qg (D7 h) a
set_option maxHeartbeats 6400000
theorem WX(b:Nat)(s:ZB)(X:s.size<=300)(q:Tq)(x:Sq)(S:Nat->Value)(w:World)(H:Zw w b s q S)(G:Gd s q)(hp:AA s q<=6500) :
  Calls prog 166 #[.pointer (some ⟨b,0,none⟩),D6 x] w (Dz b s S w (Fw s q x)):=by
 obtain⟨F,p⟩:∃F,F=w.alloc (.cells #[.int .i64 1,.int .i64 x.pl,.int .i64 x.ou,.int .i64 x.ta,.bool (x.rd 0),.bool (x.rd 1),.bool (x.rd 2),.bool (x.rd 3),.bool (x.rd 4),.bool (x.rd 5),.bool (x.tp 0),.bool (x.tp 1),.bool (x.tp 2),.bool (x.tp 3),.bool (x.tp 4),.bool (x.tp 5)] 109):=⟨_,rfl⟩
 obtain⟨D,T0⟩:=Cj.new H {x with k:=1} p;obtain⟨g,V⟩:∃g,g=w.heap.size:=⟨_,rfl⟩
 rw[<-V]at D;have t:w.heap.size<=g:=by omega
 have T1:Zq b g S S F F:=Zq.refl _ _ _ _;have U:=P8 b s q S _ D.H (G.sml (by omega)) (G.ok X);obtain⟨h,B⟩:∃h,varI s q.r q.ls=h:=⟨_,rfl⟩
 obtain⟨d,l⟩:∃d,AD s q.r q.ls=d:=⟨_,rfl⟩
 have Q:Gd s {q with r:=d}:=by rw[<-l];exact G.r (Ik G.le)
 have p1:Bm s d<=Bm s q.r:=by rw[<-l];exact KX _ _ _
 have hQ:Fw s q x=Ax (Ad {(Cb s ({q with r:=tk s d 61},{x with k:=1,ta:=BN q h})).1 with r:=tk s (Cb s ({q with r:=tk s d 61},{x with k:=1,ta:=BN q h})).1.r 59} 2 h) (Cb s ({q with r:=tk s d 61},{x with k:=1,ta:=BN q h})).2:=by unfold Fw;rw[B,l]
 rw[hQ];rw[B,l]at U;obtain⟨m,u⟩:∃m,BN q h=m:=⟨_,rfl⟩
 rw[u];have G2:Gd s {q with r:=tk s d 61}:=G.r (Z4 Q.le (by omega));have p2:AA s {q with r:=tk s d 61}<=6500:=CF (Qg (ZT s d 61) p1) hp;obtain⟨y,C⟩:∃y,Cb s ({q with r:=tk s d 61},{x with k:=1,ta:=m})=y:=⟨_,rfl⟩
 rw[C];have R:Gd s y.1:=by rw[<-C];exact Iy G2
 have p3:AA s y.1<=6502:=by rw[<-C];exact Qg (It s _) (by show AA s {q with r:=tk s d 61}+2<=6502;omega)
 have G4:Gd s {y.1 with r:=tk s y.1.r 59}:=R.r (Z4 R.le (by omega));have p4:AA s {y.1 with r:=tk s y.1.r 59}<=6502:=CF (ZT s y.1.r 59) p3;have hL:Kp (∀a,Zi F a b d->Calls prog 217 #[.pointer (some ⟨b,0,none⟩),.int .i64 h] a λe n=>e=.returned (.int .i64 m)∧n=a):=⟨λa T=>by
  rw[<-u];exact Rp b s {q with r:=d} S h a (D.rd T).H (Q.sml (Qg (CF p1 hp) (by omega))) (λy C=>by have:=G.vb y C;omega)⟩
 have hX:Kp (∀a,Cj a b s S g ({q with r:=tk s d 61},{x with k:=1,ta:=m})->Calls prog 211 #[.pointer (some ⟨b,0,none⟩),.pointer (some ⟨g,0,none⟩)] a (Gs b s S g a y)):=⟨λa E=>by
  rw[<-C];exact KF b g s X (s.size+1) _ S a E G2 (by have:=Z5 s (tk s d 61);show Ah s (tk s d 61)<_;omega) (by show AA s {q with r:=tk s d 61}<=7000;omega)⟩
 have ab:Kp (∀a j (z:Tq),Zw a b s z j->z.r=d->Calls prog 92 #[.pointer (some ⟨b,0,none⟩),.int .u8 61] a λe n=>e=.returned (.tuple #[])∧Zi a n b (tk s d 61)):=⟨λa j z A e=>by have:=A.rdAt;rw[e]at this;exact Gi b s d 61 a this (Q.ok X)⟩
 have ad:Kp (∀a j,Cj a b s j g y->Calls prog 92 #[.pointer (some ⟨b,0,none⟩),.int .u8 59] a λe n=>e=.returned (.tuple #[])∧Zi a n b (tk s y.1.r 59)):=⟨λa j E=>Gi b s y.1.r 59 a E.H.rdAt (R.ok X)⟩
 have hE:Kp (∀a j,Zw a b s {y.1 with r:=tk s y.1.r 59} j->Calls prog 212 #[.pointer (some ⟨b,0,none⟩),.int .i64 2,.int .i64 h] a λe n=>e=.returned (.tuple #[])∧∃L,Zw n b s (Ad {y.1 with r:=tk s y.1.r 59} 2 h) L∧Zq b b j L a n):=⟨λa j A=>GM b s _ j 2 h a A (G4.sml (Qg p4 (by omega))) (by omega)⟩
 have hA:Kp (∀a j,Zw a b s (Ad {y.1 with r:=tk s y.1.r 59} 2 h) j->Calls prog 213 #[.pointer (some ⟨b,0,none⟩),D6 y.2] a λe n=>e=.returned (.int .i64 (Ad {y.1 with r:=tk s y.1.r 59} 2 h).ss.length)∧∃L,Zw n b s (Ax (Ad {y.1 with r:=tk s y.1.r 59} 2 h) y.2) L∧Zq b b j L a n):=⟨λa j A=>M6 b s _ j y.2 a A ((G4.emit 2 h).sml (by rw[EX];exact Qg (Ub p4 2) (by omega)))⟩
 have hN:Kp (∀a,Cj a b s S g ({q with r:=d},{x with k:=1})->Cj (a.setCell ⟨g,3,none⟩ (.int .i64 m)) b s S g ({q with r:=d},{x with k:=1,ta:=m})∧Zq b g S S a (a.setCell ⟨g,3,none⟩ (.int .i64 m))):=⟨λa E=>E.note (i:=3) (y:={x with k:=1,ta:=m}) (v:=.int .i64 m) rfl (by omega)⟩
 replace U:=Z_ U;replace D:=Z_ D;replace T1:=Z_ T1;replace T0:=Z_ T0;replace p:=Z_ p;replace V:=Z_ V;replace t:=Z_ t;clear H G hp Q p1 G2 p2 R p3 G4 p4 B l u C hQ;unfold D6;go_in;go_wp2_with (refine ws16 rfl rfl rfl rfl rfl rfl (by simp[Value.oneCell']) ?_;simp only[Act.put,List.setIfInBounds_toArray,List.set_cons_zero,List.set_cons_succ])
 rw[<-p.o,<-V.o];refine U.o.mono ?_;rintro e a ⟨rfl,K⟩;have I:=D.o.rd K;have c3:=I.W.c 3 _ rfl;have f3:=I.W.f 3 _ rfl;have J:=hN.o a I;have T3:Kp (Zq b g S S F (a.setCell ⟨g,3,none⟩ (.int .i64 m))):=⟨(T1.o.trans (Zq.rd K)).trans J.2⟩
 replace J:Kp _:=⟨J.1⟩
 replace K:=Z_ K;replace I:=Z_ I;go_wp2_with fail;refine(hL.o a K.o).mono ?_;rintro e w2 ⟨rfl,hw⟩;subst hw;go_wp2_with fail;refine(ab.o _ _ _ J.o.H rfl).mono ?_;rintro e w2 ⟨rfl,R2⟩;have Z:=J.o.rd R2;have T4:Kp _:=⟨T3.o.trans (Zq.rd R2)⟩
 replace Z:=Z_ Z;clear R2 c3 f3;go_wp2_with fail;refine(hX.o _ Z.o).mono ?_;rintro e w3 ⟨rfl,S3,N,T5⟩;have T6:Kp _:=⟨T4.o.trans T5⟩
 replace N:=Z_ N;clear T5;go_wp2_with fail;refine(ad.o _ _ N.o).mono ?_;rintro e w4 ⟨rfl,R4⟩;have O:=N.o.rd R4;have T7:Kp _:=⟨T6.o.trans (Zq.rd R4)⟩
 replace O:=Z_ O;clear R4;go_wp2_with fail;refine(hE.o _ _ O.o.H).mono ?_;rintro e w5 ⟨rfl,S5,A5,T8⟩;have P:=O.o.tr A5 T8;have T9:Kp _:=⟨T7.o.trans T8.up⟩
 replace P:=Z_ P;clear T8 A5;go_wp2_with (refine wl16 rfl rfl rfl (own0 P.o.W) ?_;simp only[Act.put,Qa,Qc,Qd])
 refine(hA.o _ _ P.o.H).mono ?_;rintro e w6 ⟨rfl,S6,Y,M⟩;replace Y:=Z_ Y;have aa:Kp (Zq b b S S6 w w6):=⟨(T0.o.fresh T9.o t.o).trans M⟩
 clear M;go_wp2_with fail;first|go_end0|refine Qi (Qp rfl _ _ _) rfl ?_
 exact⟨rfl,S6,Y.o,aa.o⟩
theorem UR(s:ZB):∀(k:Nat) (x:Tq×Sq),(AI s k x).2.ta=x.2.ta
 | 0,x=>rfl
 | k+1,x=>by
  have a:∀x:Tq×Sq,(Bj s (AI s k) x).2.ta=x.2.ta:=by
   intro x;unfold Bj;split
   ·rfl
   ·split
    ·rfl
    ·split
     ·exact UR s k ({x.1 with r:=nx (Aa s x.1.r)},x.2)
     ·rfl
  have b:∀(j:Nat) (x:Tq×Sq),(BB s (Bj s (AI s k)) j x).2.ta=x.2.ta:=by
   intro j;induction j with
   | zero=>intro x;rfl
   | succ j c=>
    intro x;simp only[BB];split
    ·rfl
    ·rw[c];exact a ({x.1 with r:=nx (Aa s x.1.r)},x.2)
  simp only[AI];rw[b,a]
theorem Ztc(s:ZB)(x:Tq×Sq):(Cb s x).2.ta=x.2.ta:=UR s _ x
theorem YI(b:Nat)(s:ZB)(V:s.size<=300)(q:Tq)(x:Sq)(S:Nat->Value)(w:World)(H:Zw w b s q S)(G:Gd s q)(hp:AA s q<=6500) :
  Calls prog 163 #[.pointer (some ⟨b,0,none⟩),D6 x] w (Dz b s S w (FW s q x)):=by
 obtain⟨I,p⟩:∃I,I=w.alloc (.cells #[.int .i64 2,.int .i64 x.pl,.int .i64 x.ou,.int .i64 x.ta,.bool (x.rd 0),.bool (x.rd 1),.bool (x.rd 2),.bool (x.rd 3),.bool (x.rd 4),.bool (x.rd 5),.bool (x.tp 0),.bool (x.tp 1),.bool (x.tp 2),.bool (x.tp 3),.bool (x.tp 4),.bool (x.tp 5)] 109):=⟨_,rfl⟩
 obtain⟨D,T0⟩:=Cj.new H {x with k:=2} p;obtain⟨g,U⟩:∃g,g=w.heap.size:=⟨_,rfl⟩
 rw[<-U]at D;have B:w.heap.size<=g:=by omega
 have T1:Zq b g S S I I:=Zq.refl _ _ _ _;have R:=Gi b s q.r 62 _ D.H.rdAt (G.ok V);obtain⟨u,l⟩:∃u,tk s q.r 62=u:=⟨_,rfl⟩
 obtain⟨h,m⟩:∃h,An s u 0 (q.n-1)=h:=⟨_,rfl⟩
 have Z:Gd s {q with r:=u}:=by rw[<-l];exact G.r (Z4 G.le (by omega))
 have p0:Bm s u<=Bm s q.r:=by rw[<-l];exact ZT _ _ _
 have p1:Bm s h<=Bm s q.r:=by rw[<-m];exact Qg (Z7 _ _ _ _) p0
 obtain⟨d,C⟩:∃d,AW s u 0 (q.n-1)=d:=⟨_,rfl⟩
 have hQ:FW s q x=Ax (Ad {(Cb s ({q with r:=h},{x with k:=2,ta:=d})).1 with r:=tk s (Cb s ({q with r:=h},{x with k:=2,ta:=d})).1.r 59} 11 d) (Cb s ({q with r:=h},{x with k:=2,ta:=d})).2:=by unfold FW;rw[l,m,C]
 rw[hQ];rw[l]at R;have G2:Gd s {q with r:=h}:=by rw[<-m];exact G.r (DX (by omega) Z.le)
 have p2:AA s {q with r:=h}<=6500:=CF p1 hp;obtain⟨y,F⟩:∃y,Cb s ({q with r:=h},{x with k:=2,ta:=d})=y:=⟨_,rfl⟩
 rw[F];have Q:Gd s y.1:=by rw[<-F];exact Iy G2
 have p3:AA s y.1<=6502:=by rw[<-F];exact Qg (It s _) (by show AA s {q with r:=h}+2<=6502;omega)
 have G4:Gd s {y.1 with r:=tk s y.1.r 59}:=Q.r (Z4 Q.le (by omega));have p4:AA s {y.1 with r:=tk s y.1.r 59}<=6502:=CF (ZT s y.1.r 59) p3;have hL:Kp (∀a,Zi I a b u->Calls prog 90 #[.pointer (some ⟨b,0,none⟩)] a λe t=>e=.returned (.int .i64 d)∧Zi a t b h):=⟨λa T=>by
  rw[<-C,<-m];exact Mt b s {q with r:=u} S a (D.rd T).H (Z.ok V) ⟨G.n0,G.n6⟩⟩
 have hX:Kp (∀a,Cj a b s S g ({q with r:=h},{x with k:=2,ta:=d})->Calls prog 211 #[.pointer (some ⟨b,0,none⟩),.pointer (some ⟨g,0,none⟩)] a (Gs b s S g a y)):=⟨λa E=>by
  rw[<-F];exact KF b g s V (s.size+1) _ S a E G2 (by have:=Z5 s (h);show Ah s (h)<_;omega) (by show AA s {q with r:=h}<=7000;omega)⟩
 have ab:Kp (∀a j,Cj a b s j g y->Calls prog 92 #[.pointer (some ⟨b,0,none⟩),.int .u8 59] a λe t=>e=.returned (.tuple #[])∧Zi a t b (tk s y.1.r 59)):=⟨λa j E=>Gi b s y.1.r 59 a E.H.rdAt (Q.ok V)⟩
 have hE:Kp (∀a j,Zw a b s {y.1 with r:=tk s y.1.r 59} j->Calls prog 212 #[.pointer (some ⟨b,0,none⟩),.int .i64 11,.int .i64 d] a λe t=>e=.returned (.tuple #[])∧∃L,Zw t b s (Ad {y.1 with r:=tk s y.1.r 59} 11 d) L∧Zq b b j L a t):=⟨λa j A=>GM b s _ j 11 d a A (G4.sml (Qg p4 (by omega))) (by omega)⟩
 have hA:Kp (∀a j,Zw a b s (Ad {y.1 with r:=tk s y.1.r 59} 11 d) j->Calls prog 213 #[.pointer (some ⟨b,0,none⟩),D6 y.2] a λe t=>e=.returned (.int .i64 (Ad {y.1 with r:=tk s y.1.r 59} 11 d).ss.length)∧∃L,Zw t b s (Ax (Ad {y.1 with r:=tk s y.1.r 59} 11 d) y.2) L∧Zq b b j L a t):=⟨λa j A=>M6 b s _ j y.2 a A ((G4.emit 11 d).sml (by rw[EX];exact Qg (Ub p4 2) (by omega)))⟩
 have hN:Kp (∀a,Cj a b s S g ({q with r:=h},{x with k:=2})->Cj (a.setCell ⟨g,3,none⟩ (.int .i64 d)) b s S g ({q with r:=h},{x with k:=2,ta:=d})∧Zq b g S S a (a.setCell ⟨g,3,none⟩ (.int .i64 d))):=⟨λa E=>E.note (i:=3) (y:={x with k:=2,ta:=d}) (v:=.int .i64 d) rfl (by omega)⟩
 replace R:=Z_ R;replace D:=Z_ D;replace T1:=Z_ T1;replace T0:=Z_ T0;replace p:=Z_ p;replace U:=Z_ U;replace B:=Z_ B;have ad:Kp (y.2.ta=d):=⟨by rw[<-F];exact Ztc s _⟩
 clear H G hp Z p0 p1 G2 p2 Q p3 G4 p4 l m C F hQ;unfold D6;go_in;go_wp2_with (refine ws16 rfl rfl rfl rfl rfl rfl (by simp[Value.oneCell']) ?_;simp only[Act.put,List.setIfInBounds_toArray,List.set_cons_zero,List.set_cons_succ])
 rw[<-p.o,<-U.o];refine R.o.mono ?_;rintro e w0 ⟨rfl,K⟩;have z:=D.o.rd K;replace K:=Z_ K;replace z:=Z_ z;go_wp2_with fail;refine(hL.o w0 K.o).mono ?_;rintro e a ⟨rfl,R1⟩;have N:=z.o.rd R1;have c3:=N.W.c 3 _ rfl;have f3:=N.W.f 3 _ rfl;have Y:=hN.o a N;have T4:Kp (Zq b g S S I (a.setCell ⟨g,3,none⟩ (.int .i64 d))):=⟨(T1.o.trans ((Zq.rd K.o).trans (Zq.rd R1))).trans Y.2⟩
 have E4:Kp _:=⟨Y.1⟩
 clear Y R1 N;go_wp2_with fail;refine(hX.o _ E4.o).mono ?_;rintro e w3 ⟨rfl,S3,O,T5⟩;have T6:Kp _:=⟨T4.o.trans T5⟩
 replace O:=Z_ O;clear T5;go_wp2_with fail;refine(ab.o _ _ O.o).mono ?_;rintro e w4 ⟨rfl,R4⟩;have J:=O.o.rd R4;have T7:Kp _:=⟨T6.o.trans (Zq.rd R4)⟩
 have e3:w4.cell? ⟨g,3,none⟩=some (.int .i64 d):=by rw[<-ad.o];exact J.W.c 3 _ rfl
 replace J:=Z_ J;clear R4 c3 f3;go_wp2_with fail;refine(hE.o _ _ J.o.H).mono ?_;rintro e w5 ⟨rfl,S5,A5,T8⟩;have P:=J.o.tr A5 T8;have T9:Kp _:=⟨T7.o.trans T8.up⟩
 replace P:=Z_ P;clear T8 A5;go_wp2_with (refine wl16 rfl rfl rfl (own0 P.o.W) ?_;simp only[Act.put,Qa,Qc,Qd])
 refine(hA.o _ _ P.o.H).mono ?_;rintro e w6 ⟨rfl,S6,X,M⟩;replace X:=Z_ X;have aa:Kp (Zq b b S S6 w w6):=⟨(T0.o.fresh T9.o B.o).trans M⟩
 clear M;go_wp2_with fail;first|go_end0|refine Qi (Qp rfl _ _ _) rfl ?_
 exact⟨rfl,S6,X.o,aa.o⟩
def Hh(b:Nat)(s:ZB)(k:Nat):Prop:=∀(ou:Int) (q:Tq) (S:Nat->Value) (w:World),Zw w b s q S->Gd s q->Ah s q.r+2<=k->q.r.er=0->AA s q<=6000->
 Calls prog 95 #[.pointer (some ⟨b,0,none⟩),.int .i64 ou] w (Dz b s S w (Am s k ou q))
theorem UX{k:Nat}{ou:Int}(i:Ah s q.r+2<=k)(b:q.r.er=0):AJ s (Am s k ou {q with r:=Aa s q.r}).r<AJ s q.r∧Ah s (Am s k ou {q with r:=Aa s q.r}).r<=Ah s q.r:=by
 have f:=Zu s q.r;have e:AJ s q.r=Ah s q.r+1:=by unfold AJ;rw[if_pos b]
 by_cases d:Ae s q.r=0
 ·obtain⟨j,rfl⟩:∃j,k=j+1:=⟨k-1,by omega⟩
  have hd:=(Lp (s:=s) (k:=j) (ou:=ou) (q:={q with r:=Aa s q.r}) (by show CU (Ae s (Aa s q.r))=false;rw[Zs,d];rfl)).1;rw[hd];have a:(Bi (Aa s (Aa s q.r)) 11).er≠0:=Dr (by omega);have g:AJ s (Bi (Aa s (Aa s q.r)) 11)=0:=by unfold AJ;rw[IY a,if_neg a]
  have h:Ah s (Bi (Aa s (Aa s q.r)) 11)=0:=IY a;constructor
  ·show AJ s (Bi (Aa s (Aa s q.r)) 11)<_;omega
  ·show Ah s (Bi (Aa s (Aa s q.r)) 11)<=_;omega
 ·have c:=PG s k ou {q with r:=Aa s q.r} (by show Ah s (Aa s q.r)<k;omega) (by show Ae s (Aa s q.r)≠0;rw[Zs];exact d);have c:Ah s (Am s k ou {q with r:=Aa s q.r}).r<Ah s (Aa s q.r):=c;constructor
  ·unfold AJ;rw[if_pos b];split<;>omega
  ·omega
theorem NX(b:Nat)(s:ZB)(Q:s.size<=300)(k:Nat)(ih:Kp (Hh b s k))(ou:Int)(q:Tq)(S:Nat->Value)(w:World)(H:Zw w b s q S)(G:Gd s q)(t:Ah s q.r+2<=k)(v:AA s q<=6000) :
  Calls prog 214 #[.pointer (some ⟨b,0,none⟩),.int .i64 ou] w (Dz b s S w (Bt s (Am s k ou) k q)):=by
 have p:=Gi b s q.r 123 w H.rdAt (G.ok Q);have x:Gd s {q with r:=tk s q.r 123}:=G.r (Z4 G.le (by omega));have L:AA s {q with r:=tk s q.r 123}<=6000:=CF (ZT _ _ _) v;have K:Ah s (tk s q.r 123)+2<=k:=by have:=DS s q.r 123;omega
 obtain⟨a,d⟩:∃a,Be s (Am s k ou) k {q with r:=tk s q.r 123}=a:=⟨_,rfl⟩
 have Y:Bt s (Am s k ou) k q={a with r:=tk s a.r 125}:=by unfold Bt;rw[d]
 rw[Y];have V:Gd s a:=by rw[<-d];exact Pe (Ha k ou) k _ x
 have hE:Kp (∀c B,Zw c b s a B->Calls prog 92 #[.pointer (some ⟨b,0,none⟩),.int .u8 125] c λe U=>e=.returned (.tuple #[])∧Zi c U b (tk s a.r 125)):=⟨λc B A=>Gi b s a.r 125 c A.rdAt (V.ok Q)⟩
 have hB:Kp (∀(z:Tq) c B,Zw c b s z B->Gd s z->Calls prog 89 #[.pointer (some ⟨b,0,none⟩),.int .u8 125] c λe U=>e=.returned (.bool (decide (z.r.er=0∧Ae s z.r≠125)))∧Zi c U b (Aa s z.r)):=⟨λz c B A Gz=>Rg b s z.r 125 c A.rdAt (Gz.ok Q)⟩
 have mk:AJ s (tk s q.r 123)<=k:=by unfold AJ;split<;>omega
 have H0:Kp _:=⟨H⟩
 replace p:=Z_ p;replace x:=Z_ x;replace L:=Z_ L;replace K:=Z_ K;replace mk:=Z_ mk;replace d:=Z_ d;clear H G t v Y V;go_in;go_wp2_with fail;refine p.o.mono ?_;rintro e c ⟨rfl,y⟩;have D:=H0.o.rd y;replace D:=Z_ D;replace y:=Z_ y;clear p;go_wp2_with fail;go_loopg [8] (AJ s (tk s q.r 123)) (λgm pv wr=>∃(j:Nat) (z:Tq) (l:Nat->Value),Kp (Zw wr b s z l)∧Kp (Gd s z)∧Kp (Ah s z.r+2<=k)∧Kp (AA s z<=6000)∧Kp (AJ s z.r<=j)∧Kp (Be s (Am s k ou) j z=a)∧Kp (Zq b b S l w wr)∧Kp (gm=AJ s z.r));case atStart=>exact⟨k,{q with r:=tk s q.r 123},S,D,x,K,L,mk,d,⟨Zq.rd y.o⟩,⟨rfl⟩⟩
 case round=>
  clear D y x L K mk d;obtain⟨j,z,l,I,C,t,v,N,J,p,hm⟩:=hrel;have m:=hB.o z wr l I.o C.o;by_cases g:z.r.er=0∧Ae s z.r≠125
  ·rw[Qv g]at m;have P:AJ s z.r=Ah s z.r+1:=by unfold AJ;rw[if_pos g.1]
   have O:=N.o;obtain⟨j,rfl⟩:∃i,j=i+1:=⟨j-1,by omega⟩
   have M:Gd s {z with r:=Aa s z.r}:=C.o.r (Ze C.o.le);have R:AA s {z with r:=Aa s z.r}<=6000:=CF (Zh _ _) v.o;have Z:Ah s (Aa s z.r)+2<=k:=by have:=Zu s z.r;have:=t.o;omega
   have u:=UX (s:=s) (ou:=ou) t.o g.1;have f:Be s (Am s k ou) j (Am s k ou {z with r:=Aa s z.r})=a:=by rw[<-J.o];simp only[Be];rw[if_pos g]
   have hS:Kp (∀c,Zi wr c b (Aa s z.r)->Calls prog 95 #[.pointer (some ⟨b,0,none⟩),.int .i64 ou] c (Dz b s l c (Am s k ou {z with r:=Aa s z.r}))):=⟨λc T=>ih.o ou {z with r:=Aa s z.r} l c (I.o.rd T) M Z (by show (Aa s z.r).er=0;rw[Zl];exact g.1) R⟩
   have Gn:Kp (Gd s (Am s k ou {z with r:=Aa s z.r})):=⟨Ha k ou _ M⟩
   have pn:Kp (AA s (Am s k ou {z with r:=Aa s z.r})<=6000):=⟨Qg (GV s k ou _ (by show (Aa s z.r).er=0;rw[Zl];exact g.1)) R⟩
   have kn:Kp (Ah s (Am s k ou {z with r:=Aa s z.r}).r+2<=k):=⟨by have:=u.2;have:=t.o;omega⟩
   have jn:Kp (AJ s (Am s k ou {z with r:=Aa s z.r}).r<=j∧AJ s (Am s k ou {z with r:=Aa s z.r}).r<AJ s z.r):=⟨by have:=u.1;omega⟩
   generalize Am s k ou {z with r:=Aa s z.r}=z2 at *;replace m:=Z_ m;replace f:=Z_ f;clear g P O M R Z u J C t v N;go_wp2_with fail;refine m.o.mono ?_;rintro e w2 ⟨rfl,h⟩;replace h:=Z_ h;go_wp2_with fail;refine(hS.o _ h.o).mono ?_;rintro e w3 ⟨rfl,W,n,X⟩;replace n:=Z_ n;have T4:Kp (Zq b b S W w w3):=⟨p.o.trans ((Zq.rd h.o).trans X)⟩
   clear X;go_wp2_with fail;go_roundg (AJ s z2.r);case measure=>have h1:=hm.o;have h2:=jn.o;omega
   case rel=>exact⟨j,z2,W,n,Gn,kn,pn,⟨jn.o.1⟩,f,T4,⟨rfl⟩⟩
  ·rw[Qx g]at m;have f:{z with r:=Aa s z.r}=a:=by
    rw[<-J.o];cases j with
    | zero=>rfl
    | succ j=>simp only[Be];rw[if_neg g]
   have hA2:Kp (∀c,Zi wr c b (Aa s z.r)->Zw c b s a l):=⟨λc T=>by rw[<-f];exact I.o.rd T⟩
   replace m:=Z_ m;clear g f J C t v N I;go_wp2_with fail;refine m.o.mono ?_;rintro e w2 ⟨rfl,h⟩;have E:=hA2.o _ h;replace h:=Z_ h;replace E:=Z_ E;go_wp2_with fail;refine(hE.o _ _ E.o).mono ?_;rintro e w3 ⟨rfl,F⟩;have n:=E.o.rd F;replace F:=Z_ F;replace n:=Z_ n;go_wp2_with fail;first|go_end0|refine Qi (Qp rfl _ _ _) rfl ?_
   exact⟨rfl,l,n.o,(p.o.trans (Zq.rd h.o)).trans (Zq.rd F.o)⟩
theorem WY(b:Nat)(s:ZB)(hs:s.size<=300)(k:Nat)(ih:Kp (Hh b s k))(q:Tq)(x:Sq)(S:Nat->Value)(w:World)(H:Zw w b s q S)(G:Gd s q)(ht:Ae s q.r=64)(hk:Ah s q.r+1<=k)(hp:AA s q<=6000) :
  Calls prog 165 #[.pointer (some ⟨b,0,none⟩),D6 x] w (Dz b s S w (Fy s (Am s k) k q x)):=by
 obtain⟨wa,l⟩:∃wa,wa=w.alloc (.cells #[.int .i64 4,.int .i64 x.pl,.int .i64 x.ou,.int .i64 x.ta,.bool (x.rd 0),.bool (x.rd 1),.bool (x.rd 2),.bool (x.rd 3),.bool (x.rd 4),.bool (x.rd 5),.bool (x.tp 0),.bool (x.tp 1),.bool (x.tp 2),.bool (x.tp 3),.bool (x.tp 4),.bool (x.tp 5)] 109):=⟨_,rfl⟩
 obtain⟨v,X⟩:=Cj.new H {x with k:=4} l;obtain⟨g,N⟩:∃g,g=w.heap.size:=⟨_,rfl⟩
 rw[<-N]at v;have n:w.heap.size<=g:=by omega
 have M:=Gi b s q.r 64 _ v.H.rdAt (G.ok hs);have er:tk s q.r 64=nx (Aa s q.r):=by unfold tk BW;rw[if_pos (by rw[QL];exact ht)]
 obtain⟨d,h⟩:∃d,tk s q.r 64=d:=⟨_,rfl⟩
 have ae:Ah s d<Ah s q.r:=by rw[<-h,er];exact ZR (by omega)
 have af:Bm s d+8<=Bm s q.r:=by rw[<-h,er];exact Zt (by omega)
 have J:Gd s {q with r:=d}:=by rw[<-h];exact G.r (Z4 G.le (by omega))
 have p1:AA s {q with r:=d}<=5992:=by have i:=FJ s q d;have h2:=CH s q;omega
 obtain⟨y,t⟩:∃y,Cb s ({q with r:=d},{x with k:=4})=y:=⟨_,rfl⟩
 have K:Gd s y.1:=by rw[<-t];exact Iy J
 have p2:AA s y.1<=5994:=by rw[<-t];exact Qg (It s _) (by show AA s {q with r:=d}+2<=5994;omega)
 have k2:Ah s y.1.r+2<=k:=by have i:=Ke s ({q with r:=d},{x with k:=4});rw[t]at i;have i:Ah s y.1.r<=Ah s d:=i;omega
 have L:Gd s (Ax y.1 y.2):=K.add _;have p3:AA s (Ax y.1 y.2)<=5995:=by rw[J8];omega
 have T:Gd s (Ad (Ax y.1 y.2) 9 0):=L.emit _ _;have p4:AA s (Ad (Ax y.1 y.2) 9 0)<=5997:=by rw[EX];omega
 obtain⟨u,p⟩:∃u,Bt s (Am s k y.1.ss.length) k (Ad (Ax y.1 y.2) 9 0)=u:=⟨_,rfl⟩
 have U:Gd s u:=by rw[<-p];exact Kf (Ha k _) k T
 have p5:AA s u<=5997:=by rw[<-p];exact Qg (J9 s _ (GV s k _) k _) p4
 have k5:Ah s u.r+2<=k:=by
  obtain⟨j,rfl⟩:∃j,k=j+1:=⟨k-1,by omega⟩
  have i:=LC s j (j+1) y.1.ss.length (Ad (Ax y.1 y.2) 9 0) (by show Ah s y.1.r<j+1;omega);rw[p]at i;have i:Ah s u.r<=Ah s y.1.r:=i;omega
 have l5:y.1.cd.length+2<=u.cd.length:=by
  have i:=Kb s (Am s k y.1.ss.length) (Kc s k _) k (Ad (Ax y.1 y.2) 9 0);rw[p]at i;have h2:(Ad (Ax y.1 y.2) 9 0).cd.length=y.1.cd.length+2:=by show (y.1.cd++_).length=_;rw[Qe];rfl
  omega
 have z5:2*plQ y.1+1<u.cd.length:=by have:=K.ev;unfold plQ;omega
 have hX:Kp (∀a,Cj a b s S g ({q with r:=d},{x with k:=4})->Calls prog 211 #[.pointer (some ⟨b,0,none⟩),.pointer (some ⟨g,0,none⟩)] a (Gs b s S g a y)):=⟨λa E=>by
  rw[<-t];exact KF b g s hs (s.size+1) _ S a E J (by have:=Z5 s d;show Ah s d<_;omega) (by show AA s {q with r:=d}<=7000;omega)⟩
 have hA:Kp (∀a c,Zw a b s y.1 c->Calls prog 213 #[.pointer (some ⟨b,0,none⟩),D6 y.2] a λe f=>e=.returned (.int .i64 y.1.ss.length)∧∃m,Zw f b s (Ax y.1 y.2) m∧Zq b b c m a f):=⟨λa c A=>M6 b s _ c y.2 a A (K.sml (by omega))⟩
 have hP:Kp (∀a c,Zw a b s (Ax y.1 y.2) c->Calls prog 42 #[.pointer (some ⟨b,0,none⟩)] a λe f=>e=.returned (.int .i64 (plQ y.1))∧f=a):=⟨λa c A=>JT b s (Ax y.1 y.2) c a A (L.sml (by omega))⟩
 have hE:Kp (∀a c,Zw a b s (Ax y.1 y.2) c->Calls prog 212 #[.pointer (some ⟨b,0,none⟩),.int .i64 9,.int .i64 0] a λe f=>e=.returned (.tuple #[])∧∃m,Zw f b s (Ad (Ax y.1 y.2) 9 0) m∧Zq b b c m a f):=⟨λa c A=>GM b s _ c 9 0 a A (L.sml (by omega)) (by omega)⟩
 have hB:Kp (∀a c,Zw a b s (Ad (Ax y.1 y.2) 9 0) c->Calls prog 214 #[.pointer (some ⟨b,0,none⟩),.int .i64 y.1.ss.length] a (Dz b s c a u)):=⟨λa c A=>by
  rw[<-p];exact NX b s hs k ih y.1.ss.length _ c a A T k2 (by omega)⟩
 have G6:Gd s (Ad u 8 (plQ q)):=U.emit _ _;have p6:AA s (Ad u 8 (plQ q))<=5999:=by rw[EX];omega
 have ad:Kp (∀a,Zw a b s {q with r:=d} S->Calls prog 42 #[.pointer (some ⟨b,0,none⟩)] a λe f=>e=.returned (.int .i64 (plQ q))∧f=a):=⟨λa A=>JT b s {q with r:=d} S a A (J.sml (Qg p1 (by omega)))⟩
 have hJ:Kp (∀a c,Zw a b s u c->Calls prog 212 #[.pointer (some ⟨b,0,none⟩),.int .i64 8,.int .i64 (plQ q)] a λe f=>e=.returned (.tuple #[])∧∃m,Zw f b s (Ad u 8 (plQ q)) m∧Zq b b c m a f):=⟨λa c A=>GM b s _ c 8 _ a A (U.sml (by omega)) (by omega)⟩
 have hM:Kp (∀a c,Zw a b s (Ad u 8 (plQ q)) c->Calls prog 215 #[.pointer (some ⟨b,0,none⟩),.int .i64 (plQ y.1)] a λe f=>e=.returned (.tuple #[])∧Zw f b s (Bd (Ad u 8 (plQ q)) (plQ y.1)) c∧Zq b b c c a f):=⟨λa c A=>M5 b s _ c _ a A (G6.sml (by omega)) (by
  have h2:(Ad u 8 (plQ q)).cd.length=u.cd.length+2:=by show (u.cd++_).length=_;rw[Qe];rfl
  omega)⟩
 have hQ:Fy s (Am s k) k q x=Bd (Ad u 8 (plQ q)) (plQ y.1):=by unfold Fy;dsimp only;rw[h,t,p]
 rw[hQ];rw[h]at M;generalize Bd (Ad u 8 (plQ q)) (plQ y.1)=ag at *;generalize Ad u 8 (plQ q)=u1 at *;generalize plQ y.1=zz at *;generalize plQ q=z0 at *;generalize y.1.ss.length=nn at *;generalize Ad (Ax y.1 y.2) 9 0=v2 at *;generalize Ax y.1 y.2=v1 at *;replace M:=Z_ M;replace v:=Z_ v;replace X:=Z_ X;replace l:=Z_ l;replace N:=Z_ N;replace n:=Z_ n;clear H G ht hk hp er h ae af J p1 t K p2 k2 L p3 T p4 p U p5 k5 l5 z5 G6 p6 hQ;unfold D6;go_in;go_wp2_with (refine ws16 rfl rfl rfl rfl rfl rfl (by simp[Value.oneCell']) ?_;simp only[Act.put,List.setIfInBounds_toArray,List.set_cons_zero,List.set_cons_succ])
 rw[<-l.o,<-N.o];refine M.o.mono ?_;rintro e a ⟨rfl,V⟩;have F:=v.o.rd V;have T2:Kp (Zq b g S S wa a):=⟨Zq.rd V⟩
 replace F:=Z_ F;clear V;go_wp2_with fail;refine(ad.o _ F.o.H).mono ?_;rintro e w2 ⟨rfl,hw⟩;subst hw;go_wp2_with fail;refine(hX.o _ F.o).mono ?_;rintro e w3 ⟨rfl,S3,I,T5⟩;have T6:Kp _:=⟨T2.o.trans T5⟩
 replace I:=Z_ I;clear T5;go_wp2_with (refine wl16 rfl rfl rfl (own0 I.o.W) ?_;simp only[Act.put,Qa,Qc,Qd])
 refine(hA.o _ _ I.o.H).mono ?_;rintro e w4 ⟨rfl,S4,D,T7⟩;replace D:=Z_ D;have T8:Kp (Zq b b S S4 w w4):=⟨(X.o.fresh T6.o n.o).trans T7⟩
 clear T7;go_wp2_with fail;refine(hP.o _ _ D.o).mono ?_;rintro e w5 ⟨rfl,hw⟩;subst hw;go_wp2_with fail;refine(hE.o _ _ D.o).mono ?_;rintro e w5 ⟨rfl,S5,O,T9⟩;replace O:=Z_ O;have Y:Kp _:=⟨T8.o.trans T9⟩
 clear T9;go_wp2_with fail;refine(hB.o _ _ O.o).mono ?_;rintro e w6 ⟨rfl,S6,P,z⟩;replace P:=Z_ P;have Z:Kp _:=⟨Y.o.trans z⟩
 clear z;go_wp2_with fail;refine(hJ.o _ _ P.o).mono ?_;rintro e w7 ⟨rfl,S7,Q,B⟩;replace Q:=Z_ Q;have aa:Kp _:=⟨Z.o.trans B⟩
 clear B;go_wp2_with fail;refine(hM.o _ _ Q.o).mono ?_;rintro e w8 ⟨rfl,R,C⟩;replace R:=Z_ R;have ab:Kp _:=⟨aa.o.trans C⟩
 clear C;go_wp2_with fail;first|go_end0|refine Qi (Qp rfl _ _ _) rfl ?_
 exact⟨rfl,S7,R.o,ab.o⟩
theorem WZ(b:Nat)(s:ZB)(hs:s.size<=300)(k:Nat)(ih:Kp (Hh b s k))(q:Tq)(x:Sq)(S:Nat->Value)(w:World)(H:Zw w b s q S)(G:Gd s q)(ht:Ae s q.r=63)(hk:Ah s q.r+1<=k)(hp:AA s q<=6000) :
  Calls prog 164 #[.pointer (some ⟨b,0,none⟩),D6 x] w (Dz b s S w (Fx s (Am s k) k q x)):=by
 obtain⟨wa,i⟩:∃wa,wa=w.alloc (.cells #[.int .i64 3,.int .i64 x.pl,.int .i64 x.ou,.int .i64 x.ta,.bool (x.rd 0),.bool (x.rd 1),.bool (x.rd 2),.bool (x.rd 3),.bool (x.rd 4),.bool (x.rd 5),.bool (x.tp 0),.bool (x.tp 1),.bool (x.tp 2),.bool (x.tp 3),.bool (x.tp 4),.bool (x.tp 5)] 109):=⟨_,rfl⟩
 obtain⟨I,T0⟩:=Cj.new H {x with k:=3} i;obtain⟨g,Z⟩:∃g,g=w.heap.size:=⟨_,rfl⟩
 rw[<-Z]at I;have p:w.heap.size<=g:=by omega
 have Y:=Gi b s q.r 63 _ I.H.rdAt (G.ok hs);have er:tk s q.r 63=nx (Aa s q.r):=by unfold tk BW;rw[if_pos (by rw[QL];exact ht)]
 obtain⟨l,h⟩:∃l,tk s q.r 63=l:=⟨_,rfl⟩
 have ae:Ah s l<Ah s q.r:=by rw[<-h,er];exact ZR (by omega)
 have ag:Bm s l+8<=Bm s q.r:=by rw[<-h,er];exact Zt (by omega)
 have G1:Gd s {q with r:=l}:=by rw[<-h];exact G.r (Z4 G.le (by omega))
 have p1:AA s {q with r:=l}<=5992:=by have m:=FJ s q l;have h2:=CH s q;omega
 obtain⟨y,hy⟩:∃y,Cb s ({q with r:=l},{x with k:=3})=y:=⟨_,rfl⟩
 have G2:Gd s y.1:=by rw[<-hy];exact Iy G1
 have p2:AA s y.1<=5994:=by rw[<-hy];exact Qg (It s _) (by show AA s {q with r:=l}+2<=5994;omega)
 have k2:Ah s y.1.r+2<=k:=by have m:=Ke s ({q with r:=l},{x with k:=3});rw[hy]at m;have m:Ah s y.1.r<=Ah s l:=m;omega
 have G3:Gd s (Ax y.1 y.2):=G2.add _;have p3:AA s (Ax y.1 y.2)<=5995:=by rw[J8];omega
 have G4:Gd s (Ad (Ax y.1 y.2) 9 0):=G3.emit _ _;have p4:AA s (Ad (Ax y.1 y.2) 9 0)<=5997:=by rw[EX];omega
 obtain⟨u,K⟩:∃u,Bt s (Am s k y.1.ss.length) k (Ad (Ax y.1 y.2) 9 0)=u:=⟨_,rfl⟩
 have P:Gd s u:=by rw[<-K];exact Kf (Ha k _) k G4
 have p5:AA s u<=5997:=by rw[<-K];exact Qg (J9 s _ (GV s k _) k _) p4
 have k5:Ah s u.r+2<=k:=by
  obtain⟨j,rfl⟩:∃j,k=j+1:=⟨k-1,by omega⟩
  have m:=LC s j (j+1) y.1.ss.length (Ad (Ax y.1 y.2) 9 0) (by show Ah s y.1.r<j+1;omega);rw[K]at m;have m:Ah s u.r<=Ah s y.1.r:=m;omega
 have l5:y.1.cd.length+2<=u.cd.length:=by
  have m:=Kb s (Am s k y.1.ss.length) (Kc s k _) k (Ad (Ax y.1 y.2) 9 0);rw[K]at m;have h2:(Ad (Ax y.1 y.2) 9 0).cd.length=y.1.cd.length+2:=by show (y.1.cd++_).length=_;rw[Qe];rfl
  omega
 have z5:2*plQ y.1+1<u.cd.length:=by have:=G2.ev;unfold plQ;omega
 have hX:Kp (∀a,Cj a b s S g ({q with r:=l},{x with k:=3})->Calls prog 211 #[.pointer (some ⟨b,0,none⟩),.pointer (some ⟨g,0,none⟩)] a (Gs b s S g a y)):=⟨λa E=>by
  rw[<-hy];exact KF b g s hs (s.size+1) _ S a E G1 (by have:=Z5 s l;show Ah s l<_;omega) (by show AA s {q with r:=l}<=7000;omega)⟩
 have hA:Kp (∀a c,Zw a b s y.1 c->Calls prog 213 #[.pointer (some ⟨b,0,none⟩),D6 y.2] a λe d=>e=.returned (.int .i64 y.1.ss.length)∧∃J,Zw d b s (Ax y.1 y.2) J∧Zq b b c J a d):=⟨λa c A=>M6 b s _ c y.2 a A (G2.sml (by omega))⟩
 have hP:Kp (∀a c,Zw a b s (Ax y.1 y.2) c->Calls prog 42 #[.pointer (some ⟨b,0,none⟩)] a λe d=>e=.returned (.int .i64 (plQ y.1))∧d=a):=⟨λa c A=>JT b s (Ax y.1 y.2) c a A (G3.sml (by omega))⟩
 have hE:Kp (∀a c,Zw a b s (Ax y.1 y.2) c->Calls prog 212 #[.pointer (some ⟨b,0,none⟩),.int .i64 9,.int .i64 0] a λe d=>e=.returned (.tuple #[])∧∃J,Zw d b s (Ad (Ax y.1 y.2) 9 0) J∧Zq b b c J a d):=⟨λa c A=>GM b s _ c 9 0 a A (G3.sml (by omega)) (by omega)⟩
 have hB:Kp (∀a c,Zw a b s (Ad (Ax y.1 y.2) 9 0) c->Calls prog 214 #[.pointer (some ⟨b,0,none⟩),.int .i64 y.1.ss.length] a (Dz b s c a u)):=⟨λa c A=>by
  rw[<-K];exact NX b s hs k ih y.1.ss.length _ c a A G4 k2 (by omega)⟩
 have hT:Kp (∀a c,Zw a b s u c->Calls prog 158 #[.pointer (some ⟨b,0,none⟩)] a λe d=>e=.returned (.int .u8 (Ae s u.r))∧Zi a d b (Aa s u.r)):=⟨λa c A=>Fn b s u.r a A.rdAt (P.ok hs)⟩
 have hQ:Fx s (Am s k) k q x=(if Ae s u.r=58 then Bd (Bt s (Am s k y.1.ss.length) k (Bd (Ad {u with r:=nx (Aa s u.r)} 8 0) (plQ y.1))) (plQ u) else Bd {u with r:=Aa s u.r} (plQ y.1)):=by unfold Fx;dsimp only;rw[h,hy,K]
 rw[hQ];rw[h]at Y;have Ga:Gd s {u with r:=Aa s u.r}:=P.r (Ze P.le);have pa:AA s {u with r:=Aa s u.r}<=5997:=CF (Zh _ _) p5;by_cases n:Ae s u.r=58
 ·rw[if_pos n];rw[n]at hT;have af:Ah s (nx (Aa s u.r))<Ah s u.r:=ZR (by omega);have ah:Bm s (nx (Aa s u.r))+8<=Bm s u.r:=Zt (by omega);have G6:Gd s {u with r:=nx (Aa s u.r)}:=P.r (Dk (by omega));have p6:AA s {u with r:=nx (Aa s u.r)}<=5989:=by have m:=FJ s u (nx (Aa s u.r));have h2:=CH s u;omega
  have G7:Gd s (Ad {u with r:=nx (Aa s u.r)} 8 0):=G6.emit _ _;have p7:AA s (Ad {u with r:=nx (Aa s u.r)} 8 0)<=5991:=by rw[EX];omega
  have l7:(Ad {u with r:=nx (Aa s u.r)} 8 0).cd.length=u.cd.length+2:=by show (u.cd++_).length=_;rw[Qe];rfl
  have G8:Gd s (Bd (Ad {u with r:=nx (Aa s u.r)} 8 0) (plQ y.1)):=G7.aim _;have p8:AA s (Bd (Ad {u with r:=nx (Aa s u.r)} 8 0) (plQ y.1))<=5991:=by rw[LD];omega
  have l8:(Bd (Ad {u with r:=nx (Aa s u.r)} 8 0) (plQ y.1)).cd.length=u.cd.length+2:=by rw[<-l7];show (List.set _ _ _).length=_;rw[Um]
  obtain⟨v,hv⟩:∃v,Bt s (Am s k y.1.ss.length) k (Bd (Ad {u with r:=nx (Aa s u.r)} 8 0) (plQ y.1))=v:=⟨_,rfl⟩
  have G9:Gd s v:=by rw[<-hv];exact Kf (Ha k _) k G8
  have p9:AA s v<=5991:=by rw[<-hv];exact Qg (J9 s _ (GV s k _) k _) p8
  have l9:u.cd.length+2<=v.cd.length:=by have m:=Kb s (Am s k y.1.ss.length) (Kc s k _) k (Bd (Ad {u with r:=nx (Aa s u.r)} 8 0) (plQ y.1));rw[hv]at m;omega
  have z9:2*plQ u+1<v.cd.length:=by have:=P.ev;unfold plQ;omega
  rw[hv];have hS:Kp (∀a c (z:Tq),Zw a b s z c->z.r=Aa s u.r->Calls prog 160 #[.pointer (some ⟨b,0,none⟩)] a λe d=>e=.returned (.tuple #[])∧Zi a d b (nx (Aa s u.r))):=⟨λa c z A e=>by have:=A.rdAt;rw[e]at this;exact Ih b s (Aa s u.r) a this (Ga.ok hs)⟩
  have aq:Kp (∀a c,Zw a b s {u with r:=nx (Aa s u.r)} c->Calls prog 42 #[.pointer (some ⟨b,0,none⟩)] a λe d=>e=.returned (.int .i64 (plQ u))∧d=a):=⟨λa c A=>JT b s {u with r:=nx (Aa s u.r)} c a A (G6.sml (Qg p6 (by omega)))⟩
  have hJ:Kp (∀a c,Zw a b s {u with r:=nx (Aa s u.r)} c->Calls prog 212 #[.pointer (some ⟨b,0,none⟩),.int .i64 8,.int .i64 0] a λe d=>e=.returned (.tuple #[])∧∃J,Zw d b s (Ad {u with r:=nx (Aa s u.r)} 8 0) J∧Zq b b c J a d):=⟨λa c A=>GM b s _ c 8 0 a A (G6.sml (Qg p6 (by omega))) (by omega)⟩
  have hM:Kp (∀a c,Zw a b s (Ad {u with r:=nx (Aa s u.r)} 8 0) c->Calls prog 215 #[.pointer (some ⟨b,0,none⟩),.int .i64 (plQ y.1)] a λe d=>e=.returned (.tuple #[])∧Zw d b s (Bd (Ad {u with r:=nx (Aa s u.r)} 8 0) (plQ y.1)) c∧Zq b b c c a d):=⟨λa c A=>M5 b s _ c _ a A (G7.sml (Qg p7 (by omega))) (by omega)⟩
  have ao:Kp (∀a c,Zw a b s (Bd (Ad {u with r:=nx (Aa s u.r)} 8 0) (plQ y.1)) c->Calls prog 214 #[.pointer (some ⟨b,0,none⟩),.int .i64 y.1.ss.length] a (Dz b s c a v)):=⟨λa c A=>by
   rw[<-hv];exact NX b s hs k ih y.1.ss.length _ c a A G8 (by show Ah s (nx (Aa s u.r))+2<=k;omega) (Qg p8 (by omega))⟩
  have ap:Kp (∀a c,Zw a b s v c->Calls prog 215 #[.pointer (some ⟨b,0,none⟩),.int .i64 (plQ u)] a λe d=>e=.returned (.tuple #[])∧Zw d b s (Bd v (plQ u)) c∧Zq b b c c a d):=⟨λa c A=>M5 b s _ c _ a A (G9.sml (by omega)) z9⟩
  generalize Bd v (plQ u)=an at *;generalize Bd (Ad {u with r:=nx (Aa s u.r)} 8 0) (plQ y.1)=u3 at *;generalize Ad {u with r:=nx (Aa s u.r)} 8 0=u2 at *;generalize plQ y.1=zz at *;generalize plQ u=z0 at *;generalize y.1.ss.length=nn at *;generalize Ad (Ax y.1 y.2) 9 0=v2 at *;generalize Ax y.1 y.2=v1 at *;replace Y:=Z_ Y;replace I:=Z_ I;replace T0:=Z_ T0;replace i:=Z_ i;replace Z:=Z_ Z;replace p:=Z_ p;clear H G ht hk hp er h ae ag G1 p1 hy G2 p2 k2 G3 p3 G4 p4 K P p5 k5 l5 z5 hQ Ga pa n af ah G6 p6 G7 p7 l7 G8 p8 l8 hv G9 p9 l9 z9;unfold D6;go_in;go_wp2_with (refine ws16 rfl rfl rfl rfl rfl rfl (by simp[Value.oneCell']) ?_;simp only[Act.put,List.setIfInBounds_toArray,List.set_cons_zero,List.set_cons_succ])
  rw[<-i.o,<-Z.o];refine Y.o.mono ?_;rintro e a ⟨rfl,Q⟩;have O:=I.o.rd Q;have T2:Kp (Zq b g S S wa a):=⟨Zq.rd Q⟩
  replace O:=Z_ O;clear Q;go_wp2_with fail;refine(hX.o _ O.o).mono ?_;rintro e w3 ⟨rfl,S3,F,T5⟩;have T6:Kp _:=⟨T2.o.trans T5⟩
  replace F:=Z_ F;clear T5;go_wp2_with (refine wl16 rfl rfl rfl (own0 F.o.W) ?_;simp only[Act.put,Qa,Qc,Qd])
  refine(hA.o _ _ F.o.H).mono ?_;rintro e w4 ⟨rfl,S4,C,T7⟩;replace C:=Z_ C;have T8:Kp (Zq b b S S4 w w4):=⟨(T0.o.fresh T6.o p.o).trans T7⟩
  clear T7;go_wp2_with fail;refine(hP.o _ _ C.o).mono ?_;rintro e w5 ⟨rfl,hw⟩;subst hw;go_wp2_with fail;refine(hE.o _ _ C.o).mono ?_;rintro e w5 ⟨rfl,S5,N,T9⟩;replace N:=Z_ N;have T:Kp _:=⟨T8.o.trans T9⟩
  clear T9;go_wp2_with fail;refine(hB.o _ _ N.o).mono ?_;rintro e w6 ⟨rfl,S6,D,t⟩;replace D:=Z_ D;have U:Kp _:=⟨T.o.trans t⟩
  clear t;go_wp2_with fail;refine(hT.o _ _ D.o).mono ?_;rintro e w7 ⟨rfl,R⟩;have A7:Kp _:=⟨D.o.rd R⟩
  have V:Kp (Zq b b S S6 w w7):=⟨U.o.trans (Zq.rd R)⟩
  clear R;go_wp2_with fail;refine(hS.o _ _ _ A7.o rfl).mono ?_;rintro e w8 ⟨rfl,R8⟩;have A8:Kp _:=⟨A7.o.rd R8⟩
  have aj:Kp (Zq b b S S6 w w8):=⟨V.o.trans (Zq.rd R8)⟩
  clear R8;go_wp2_with fail;refine(aq.o _ _ A8.o).mono ?_;rintro e w9 ⟨rfl,hw⟩;subst hw;go_wp2_with fail;refine(hJ.o _ _ A8.o).mono ?_;rintro e w9 ⟨rfl,S9,A9,aa⟩;replace A9:=Z_ A9;have ak:Kp _:=⟨aj.o.trans aa⟩
  clear aa;go_wp2_with fail;refine(hM.o _ _ A9.o).mono ?_;rintro e ar ⟨rfl,f,B⟩;replace f:=Z_ f;have X:Kp _:=⟨ak.o.trans B⟩
  clear B;go_wp2_with fail;refine(ao.o _ _ f.o).mono ?_;rintro e av ⟨rfl,ai,L,ab⟩;replace L:=Z_ L;have al:Kp _:=⟨X.o.trans ab⟩
  clear ab;go_wp2_with fail;refine(ap.o _ _ L.o).mono ?_;rintro e aw ⟨rfl,M,ad⟩;replace M:=Z_ M;have am:Kp _:=⟨al.o.trans ad⟩
  clear ad;go_wp2_with fail;first|go_end0|refine Qi (Qp rfl _ _ _) rfl ?_
  exact⟨rfl,ai,M.o,am.o⟩
 ·rw[if_neg n];have au:(Ae s u.r==58)=false:=Qf.2 n;have hM:Kp (∀a c,Zw a b s {u with r:=Aa s u.r} c->Calls prog 215 #[.pointer (some ⟨b,0,none⟩),.int .i64 (plQ y.1)] a λe d=>e=.returned (.tuple #[])∧Zw d b s (Bd {u with r:=Aa s u.r} (plQ y.1)) c∧Zq b b c c a d):=⟨λa c A=>M5 b s _ c _ a A (Ga.sml (Qg pa (by omega))) z5⟩
  generalize Bd {u with r:=Aa s u.r} (plQ y.1)=an at *;generalize Ae s u.r=tt at *;generalize plQ y.1=zz at *;generalize y.1.ss.length=nn at *;generalize Ad (Ax y.1 y.2) 9 0=v2 at *;generalize Ax y.1 y.2=v1 at *;replace Y:=Z_ Y;replace I:=Z_ I;replace T0:=Z_ T0;replace i:=Z_ i;replace Z:=Z_ Z;replace p:=Z_ p;clear H G ht hk hp er h ae ag G1 p1 hy G2 p2 k2 G3 p3 G4 p4 K P p5 k5 l5 z5 hQ Ga pa n;unfold D6;go_in;go_wp2_with (refine ws16 rfl rfl rfl rfl rfl rfl (by simp[Value.oneCell']) ?_;simp only[Act.put,List.setIfInBounds_toArray,List.set_cons_zero,List.set_cons_succ])
  rw[<-i.o,<-Z.o];refine Y.o.mono ?_;rintro e a ⟨rfl,Q⟩;have O:=I.o.rd Q;have T2:Kp (Zq b g S S wa a):=⟨Zq.rd Q⟩
  replace O:=Z_ O;clear Q;go_wp2_with fail;refine(hX.o _ O.o).mono ?_;rintro e w3 ⟨rfl,S3,F,T5⟩;have T6:Kp _:=⟨T2.o.trans T5⟩
  replace F:=Z_ F;clear T5;go_wp2_with (refine wl16 rfl rfl rfl (own0 F.o.W) ?_;simp only[Act.put,Qa,Qc,Qd])
  refine(hA.o _ _ F.o.H).mono ?_;rintro e w4 ⟨rfl,S4,C,T7⟩;replace C:=Z_ C;have T8:Kp (Zq b b S S4 w w4):=⟨(T0.o.fresh T6.o p.o).trans T7⟩
  clear T7;go_wp2_with fail;refine(hP.o _ _ C.o).mono ?_;rintro e w5 ⟨rfl,hw⟩;subst hw;go_wp2_with fail;refine(hE.o _ _ C.o).mono ?_;rintro e w5 ⟨rfl,S5,N,T9⟩;replace N:=Z_ N;have T:Kp _:=⟨T8.o.trans T9⟩
  clear T9;go_wp2_with fail;refine(hB.o _ _ N.o).mono ?_;rintro e w6 ⟨rfl,S6,D,t⟩;replace D:=Z_ D;have U:Kp _:=⟨T.o.trans t⟩
  clear t;go_wp2_with fail;refine(hT.o _ _ D.o).mono ?_;rintro e w7 ⟨rfl,R⟩;have A7:Kp _:=⟨D.o.rd R⟩
  have V:Kp (Zq b b S S6 w w7):=⟨U.o.trans (Zq.rd R)⟩
  clear R;go_wp2_with fail;refine(hM.o _ _ A7.o).mono ?_;rintro e ar ⟨rfl,f,B⟩;replace f:=Z_ f;have X:Kp _:=⟨V.o.trans B⟩
  clear B;go_wp2_with fail;first|go_end0|refine Qi (Qp rfl _ _ _) rfl ?_
  exact⟨rfl,S6,f.o,X.o⟩
end Go.Proofs.YtcnbifdlkalimabGreat
