import Derived.Test.YtcnbifdlkalimabGreatTrnE
/- Lemmas for the statement Means; their conditions stand in each. -/
namespace Go.Proofs.YtcnbifdlkalimabGreat
open Go.RowKit Go.Proofs.Tryz
set_option linter.unusedVariables false
set_option maxRecDepth 100000
variable{q:Tq}{s:ZB}
def Zaw(b:Nat)(s:ZB)(S:Nat->Value)(w:World)(y:Tq)(e:Ending)(w':World):Prop:=
 e=.returned (.tuple #[])∧∃S',Zv w' b s y S'∧Zn b b S S' w w'
theorem Zn.fresh{b g:Nat}{S S1 S2:Nat->Value}{w w1 w2:World}(h:Zn b b S S1 w w1)(k:Zn b g S1 S2 w1 w2)(hg:w.heap.size<=g):Zn b b S S2 w w2:=by
 have h2:=h.up (g:=g) |>.trans k
 exact⟨h2.os,h2.tape,h2.output,h2.size,λi hi h1 _ h3=>h2.block i hi h1 (by omega) h3,h2.rows⟩
theorem Zaf.new{w:World}{b:Nat}{S:Nat->Value}(H:Zv w b s q S)(x:Sq){wa:World}(hwa:wa=w.alloc (.cells #[.int .i64 x.k,.int .i64 x.pl,.int .i64 x.ou,.int .i64 x.ta,.bool (x.rd 0),.bool (x.rd 1),.bool (x.rd 2),.bool (x.rd 3),.bool (x.rd 4),.bool (x.rd 5),.bool (x.tp 0),.bool (x.tp 1),.bool (x.tp 2),.bool (x.tp 3),.bool (x.tp 4),.bool (x.tp 5)] 109)) :
  Zaf wa b s S w.heap.size (q,x)∧Zn b b S S w wa:=by
 have hb:Below w.heap.size w wa:=by rw[hwa];exact(Qh _ _).alloc (Qb _) _
 refine⟨⟨H.step hb,⟨by rw[hwa];simp,λe=>by have:=H.lt;omega,λj hj e=>by have:=((H.o j hj).lt _ e).2;omega⟩,by rw[hwa];exact own16 w x _⟩,Zn.below hb⟩
theorem ZaA{r:Rd}{n:Nat}(h:Zaa s r<=Zaa s q.r)(hp:pot s q<=n):pot s {q with r:=r}<=n:=Qg (ZaU h) hp
set_option maxHeartbeats 6400000
theorem Zlk(b:Nat)(s:ZB)(hs:s.size<=300)(q:Tq)(x:Sq)(S:Nat->Value)(w:World)(H:Zv w b s q S)(G:Gd s q)(hp:pot s q<=6500) :
  Calls prog 166 #[.pointer (some ⟨b,0,none⟩),stA x] w (Zaw b s S w (ZkB s q x)):=by
 obtain⟨wa,hwa⟩:∃wa,wa=w.alloc (.cells #[.int .i64 1,.int .i64 x.pl,.int .i64 x.ou,.int .i64 x.ta,.bool (x.rd 0),.bool (x.rd 1),.bool (x.rd 2),.bool (x.rd 3),.bool (x.rd 4),.bool (x.rd 5),.bool (x.tp 0),.bool (x.tp 1),.bool (x.tp 2),.bool (x.tp 3),.bool (x.tp 4),.bool (x.tp 5)] 109):=⟨_,rfl⟩
 obtain⟨E1,T0⟩:=Zaf.new H {x with k:=1} hwa
 obtain⟨g,hg⟩:∃g,g=w.heap.size:=⟨_,rfl⟩
 rw[<-hg]at E1
 have hgl:w.heap.size<=g:=by omega
 have T1:Zn b g S S wa wa:=Zn.refl _ _ _ _
 have hV:=Zcn b s q S _ E1.H (G.sml (by omega)) (G.ok hs)
 obtain⟨vi,hvi⟩:∃vi,varI s q.r q.ls=vi:=⟨_,rfl⟩
 obtain⟨r1,hr1⟩:∃r1,varR s q.r q.ls=r1:=⟨_,rfl⟩
 have G1:Gd s {q with r:=r1}:=by rw[<-hr1];exact G.r (ZcD G.le)
 have p1:Zaa s r1<=Zaa s q.r:=by rw[<-hr1];exact ZcC _ _ _
 have hQ:ZkB s q x=addQ (emitQ {(exQ s ({q with r:=tk s r1 61},{x with k:=1,ta:=lvOf q vi})).1 with r:=tk s (exQ s ({q with r:=tk s r1 61},{x with k:=1,ta:=lvOf q vi})).1.r 59} 2 vi) (exQ s ({q with r:=tk s r1 61},{x with k:=1,ta:=lvOf q vi})).2:=by unfold ZkB;rw[hvi,hr1]
 rw[hQ]
 rw[hvi,hr1]at hV
 obtain⟨lv,hlv⟩:∃lv,lvOf q vi=lv:=⟨_,rfl⟩
 rw[hlv]
 have G2:Gd s {q with r:=tk s r1 61}:=G.r (Z0 G1.le (by omega))
 have p2:pot s {q with r:=tk s r1 61}<=6500:=ZaA (Qg (ZM s r1 61) p1) hp
 obtain⟨y,hy⟩:∃y,exQ s ({q with r:=tk s r1 61},{x with k:=1,ta:=lv})=y:=⟨_,rfl⟩
 rw[hy]
 have G3:Gd s y.1:=by rw[<-hy];exact Zif G2
 have p3:pot s y.1<=6502:=by rw[<-hy];exact Qg (Zex s _) (by show pot s {q with r:=tk s r1 61}+2<=6502;omega)
 have G4:Gd s {y.1 with r:=tk s y.1.r 59}:=G3.r (Z0 G3.le (by omega))
 have p4:pot s {y.1 with r:=tk s y.1.r 59}<=6502:=ZaA (ZM s y.1.r 59) p3
 have hL:Kp (∀w1,Zi wa w1 b r1->Calls prog 217 #[.pointer (some ⟨b,0,none⟩),.int .i64 vi] w1 λe w'=>e=.returned (.int .i64 lv)∧w'=w1):=⟨λw1 T=>by
  rw[<-hlv]
  exact Zfr b s {q with r:=r1} S vi w1 (E1.rd T).H (G1.sml (Qg (ZaA p1 hp) (by omega))) (λy hy=>by have:=G.vb y hy;omega)⟩
 have hX:Kp (∀w1,Zaf w1 b s S g ({q with r:=tk s r1 61},{x with k:=1,ta:=lv})->Calls prog 211 #[.pointer (some ⟨b,0,none⟩),.pointer (some ⟨g,0,none⟩)] w1 (ZcI b s S g w1 y)):=⟨λw1 E=>by
  rw[<-hy]
  exact ZaC b g s hs (s.size+1) _ S w1 E G2 (by have:=Z1 s (tk s r1 61);show rem s (tk s r1 61)<_;omega) (by show pot s {q with r:=tk s r1 61}<=7000;omega)⟩
 have hK1:Kp (∀w1 S1 (z:Tq),Zv w1 b s z S1->z.r=r1->Calls prog 92 #[.pointer (some ⟨b,0,none⟩),.int .u8 61] w1 λe w'=>e=.returned (.tuple #[])∧Zi w1 w' b (tk s r1 61)):=⟨λw1 S1 z A e=>by have:=A.rdAt;rw[e]at this;exact Zau b s r1 61 w1 this (G1.ok hs)⟩
 have hK2:Kp (∀w1 S1,Zaf w1 b s S1 g y->Calls prog 92 #[.pointer (some ⟨b,0,none⟩),.int .u8 59] w1 λe w'=>e=.returned (.tuple #[])∧Zi w1 w' b (tk s y.1.r 59)):=⟨λw1 S1 E=>Zau b s y.1.r 59 w1 E.H.rdAt (G3.ok hs)⟩
 have hE:Kp (∀w1 S1,Zv w1 b s {y.1 with r:=tk s y.1.r 59} S1->Calls prog 212 #[.pointer (some ⟨b,0,none⟩),.int .i64 2,.int .i64 vi] w1 λe w'=>e=.returned (.tuple #[])∧∃S',Zv w' b s (emitQ {y.1 with r:=tk s y.1.r 59} 2 vi) S'∧Zn b b S1 S' w1 w'):=⟨λw1 S1 A=>Za4 b s _ S1 2 vi w1 A (G4.sml (Qg p4 (by omega))) (by omega)⟩
 have hA:Kp (∀w1 S1,Zv w1 b s (emitQ {y.1 with r:=tk s y.1.r 59} 2 vi) S1->Calls prog 213 #[.pointer (some ⟨b,0,none⟩),stA y.2] w1 λe w'=>e=.returned (.int .i64 (emitQ {y.1 with r:=tk s y.1.r 59} 2 vi).ss.length)∧∃S',Zv w' b s (addQ (emitQ {y.1 with r:=tk s y.1.r 59} 2 vi) y.2) S'∧Zn b b S1 S' w1 w'):=⟨λw1 S1 A=>ZgA b s _ S1 y.2 w1 A ((G4.emit 2 vi).sml (by rw[Zao];exact Qg (Ub p4 2) (by omega)))⟩
 have hN:Kp (∀w1,Zaf w1 b s S g ({q with r:=r1},{x with k:=1})->Zaf (w1.setCell ⟨g,3,none⟩ (.int .i64 lv)) b s S g ({q with r:=r1},{x with k:=1,ta:=lv})∧Zn b g S S w1 (w1.setCell ⟨g,3,none⟩ (.int .i64 lv))):=⟨λw1 E=>E.note (i:=3) (y:={x with k:=1,ta:=lv}) (v:=.int .i64 lv) rfl (by omega)⟩
 replace hV:=Z_ hV
 replace E1:=Z_ E1
 replace T1:=Z_ T1
 replace T0:=Z_ T0
 replace hwa:=Z_ hwa
 replace hg:=Z_ hg
 replace hgl:=Z_ hgl
 clear H G hp G1 p1 G2 p2 G3 p3 G4 p4 hvi hr1 hlv hy hQ
 unfold stA
 go_enter func166,ntmps166
 go_wp2_with fail
 rw[<-hwa.out,<-hg.out]
 refine hV.out.mono ?_
 rintro e w1 ⟨rfl,R1⟩
 have E2:=E1.out.rd R1
 have c3:=E2.W.c 3 _ rfl
 have f3:=E2.W.f 3 _ rfl
 have E3:=hN.out w1 E2
 have T3:Kp (Zn b g S S wa (w1.setCell ⟨g,3,none⟩ (.int .i64 lv))):=⟨(T1.out.trans (Zn.rd R1)).trans E3.2⟩
 replace E3:Kp _:=⟨E3.1⟩
 replace R1:=Z_ R1
 replace E2:=Z_ E2
 go_wp2_with fail
 refine(hL.out w1 R1.out).mono ?_
 rintro e w2 ⟨rfl,hw⟩
 subst hw
 go_wp2_with fail
 refine(hK1.out _ _ _ E3.out.H rfl).mono ?_
 rintro e w2 ⟨rfl,R2⟩
 have E4:=E3.out.rd R2
 have T4:Kp _:=⟨T3.out.trans (Zn.rd R2)⟩
 replace E4:=Z_ E4
 clear R2 c3 f3
 go_wp2_with fail
 refine(hX.out _ E4.out).mono ?_
 rintro e w3 ⟨rfl,S3,E5,T5⟩
 have T6:Kp _:=⟨T4.out.trans T5⟩
 replace E5:=Z_ E5
 clear T5
 go_wp2_with fail
 refine(hK2.out _ _ E5.out).mono ?_
 rintro e w4 ⟨rfl,R4⟩
 have E6:=E5.out.rd R4
 have T7:Kp _:=⟨T6.out.trans (Zn.rd R4)⟩
 replace E6:=Z_ E6
 clear R4
 go_wp2_with fail
 refine(hE.out _ _ E6.out.H).mono ?_
 rintro e w5 ⟨rfl,S5,A5,T8⟩
 have E7:=E6.out.tr A5 T8
 have T9:Kp _:=⟨T7.out.trans T8.up⟩
 have d0:=E7.W.c 0 _ rfl
 have d1:=E7.W.c 1 _ rfl
 have d2:=E7.W.c 2 _ rfl
 have d3:=E7.W.c 3 _ rfl
 have d4:=E7.W.c 4 _ rfl
 have d5:=E7.W.c 5 _ rfl
 have d6:=E7.W.c 6 _ rfl
 have d7:=E7.W.c 7 _ rfl
 have d8:=E7.W.c 8 _ rfl
 have d9:=E7.W.c 9 _ rfl
 have d10:=E7.W.c 10 _ rfl
 have d11:=E7.W.c 11 _ rfl
 have d12:=E7.W.c 12 _ rfl
 have d13:=E7.W.c 13 _ rfl
 have d14:=E7.W.c 14 _ rfl
 have d15:=E7.W.c 15 _ rfl
 replace E7:=Z_ E7
 clear T8 A5
 go_wp2_with fail
 refine(hA.out _ _ E7.out.H).mono ?_
 rintro e w6 ⟨rfl,S6,A6,T10⟩
 replace A6:=Z_ A6
 have T11:Kp (Zn b b S S6 w w6):=⟨(T0.out.fresh T9.out hgl.out).trans T10⟩
 clear T10 d0 d1 d2 d3 d4 d5 d6 d7 d8 d9 d10 d11 d12 d13 d14 d15
 go_wp2_with fail
 first|go_end0|refine Qi (Qp rfl _ _ _) rfl ?_
 exact⟨rfl,S6,A6.out,T11.out⟩
theorem ZmV(s:ZB):∀(k:Nat) (x:Tq×Sq),(exprQ s k x).2.ta=x.2.ta
 | 0,x=>rfl
 | k+1,x=>by
  have ht:∀x:Tq×Sq,(termQ s (exprQ s k) x).2.ta=x.2.ta:=by
   intro x
   unfold termQ
   split
   ·rfl
   ·split
    ·rfl
    ·split
     ·exact ZmV s k ({x.1 with r:=nx (adv s x.1.r)},x.2)
     ·rfl
  have hm:∀(j:Nat) (x:Tq×Sq),(moreQ s (termQ s (exprQ s k)) j x).2.ta=x.2.ta:=by
   intro j
   induction j with
   | zero=>intro x;rfl
   | succ j ih=>
    intro x
    simp only[moreQ]
    split
    ·rfl
    ·rw[ih]
     exact ht ({x.1 with r:=nx (adv s x.1.r)},x.2)
  simp only[exprQ]
  rw[hm,ht]
theorem Zsy(s:ZB)(x:Tq×Sq):(exQ s x).2.ta=x.2.ta:=ZmV s _ x
theorem ZmW(b:Nat)(s:ZB)(hs:s.size<=300)(q:Tq)(x:Sq)(S:Nat->Value)(w:World)(H:Zv w b s q S)(G:Gd s q)(hp:pot s q<=6500) :
  Calls prog 163 #[.pointer (some ⟨b,0,none⟩),stA x] w (Zaw b s S w (ZlA s q x)):=by
 obtain⟨wa,hwa⟩:∃wa,wa=w.alloc (.cells #[.int .i64 2,.int .i64 x.pl,.int .i64 x.ou,.int .i64 x.ta,.bool (x.rd 0),.bool (x.rd 1),.bool (x.rd 2),.bool (x.rd 3),.bool (x.rd 4),.bool (x.rd 5),.bool (x.tp 0),.bool (x.tp 1),.bool (x.tp 2),.bool (x.tp 3),.bool (x.tp 4),.bool (x.tp 5)] 109):=⟨_,rfl⟩
 obtain⟨E1,T0⟩:=Zaf.new H {x with k:=2} hwa
 obtain⟨g,hg⟩:∃g,g=w.heap.size:=⟨_,rfl⟩
 rw[<-hg]at E1
 have hgl:w.heap.size<=g:=by omega
 have T1:Zn b g S S wa wa:=Zn.refl _ _ _ _
 have hV:=Zau b s q.r 62 _ E1.H.rdAt (G.ok hs)
 obtain⟨r0,hr0⟩:∃r0,tk s q.r 62=r0:=⟨_,rfl⟩
 obtain⟨r1,hr1⟩:∃r1,digR s r0 0 (q.n-1)=r1:=⟨_,rfl⟩
 have G0:Gd s {q with r:=r0}:=by rw[<-hr0];exact G.r (Z0 G.le (by omega))
 have p0:Zaa s r0<=Zaa s q.r:=by rw[<-hr0];exact ZM _ _ _
 have p1:Zaa s r1<=Zaa s q.r:=by rw[<-hr1];exact Qg (Z3 _ _ _ _) p0
 obtain⟨lv,hlv⟩:∃lv,dig s r0 0 (q.n-1)=lv:=⟨_,rfl⟩
 have hQ:ZlA s q x=addQ (emitQ {(exQ s ({q with r:=r1},{x with k:=2,ta:=lv})).1 with r:=tk s (exQ s ({q with r:=r1},{x with k:=2,ta:=lv})).1.r 59} 11 lv) (exQ s ({q with r:=r1},{x with k:=2,ta:=lv})).2:=by unfold ZlA;rw[hr0,hr1,hlv]
 rw[hQ]
 rw[hr0]at hV
 have G2:Gd s {q with r:=r1}:=by rw[<-hr1];exact G.r (Zad (by omega) G0.le)
 have p2:pot s {q with r:=r1}<=6500:=ZaA p1 hp
 obtain⟨y,hy⟩:∃y,exQ s ({q with r:=r1},{x with k:=2,ta:=lv})=y:=⟨_,rfl⟩
 rw[hy]
 have G3:Gd s y.1:=by rw[<-hy];exact Zif G2
 have p3:pot s y.1<=6502:=by rw[<-hy];exact Qg (Zex s _) (by show pot s {q with r:=r1}+2<=6502;omega)
 have G4:Gd s {y.1 with r:=tk s y.1.r 59}:=G3.r (Z0 G3.le (by omega))
 have p4:pot s {y.1 with r:=tk s y.1.r 59}<=6502:=ZaA (ZM s y.1.r 59) p3
 have hL:Kp (∀w1,Zi wa w1 b r0->Calls prog 90 #[.pointer (some ⟨b,0,none⟩)] w1 λe w'=>e=.returned (.int .i64 lv)∧Zi w1 w' b r1):=⟨λw1 T=>by
  rw[<-hlv,<-hr1]
  exact Zbj b s {q with r:=r0} S w1 (E1.rd T).H (G0.ok hs) ⟨G.n0,G.n6⟩⟩
 have hX:Kp (∀w1,Zaf w1 b s S g ({q with r:=r1},{x with k:=2,ta:=lv})->Calls prog 211 #[.pointer (some ⟨b,0,none⟩),.pointer (some ⟨g,0,none⟩)] w1 (ZcI b s S g w1 y)):=⟨λw1 E=>by
  rw[<-hy]
  exact ZaC b g s hs (s.size+1) _ S w1 E G2 (by have:=Z1 s (r1);show rem s (r1)<_;omega) (by show pot s {q with r:=r1}<=7000;omega)⟩
 have hK2:Kp (∀w1 S1,Zaf w1 b s S1 g y->Calls prog 92 #[.pointer (some ⟨b,0,none⟩),.int .u8 59] w1 λe w'=>e=.returned (.tuple #[])∧Zi w1 w' b (tk s y.1.r 59)):=⟨λw1 S1 E=>Zau b s y.1.r 59 w1 E.H.rdAt (G3.ok hs)⟩
 have hE:Kp (∀w1 S1,Zv w1 b s {y.1 with r:=tk s y.1.r 59} S1->Calls prog 212 #[.pointer (some ⟨b,0,none⟩),.int .i64 11,.int .i64 lv] w1 λe w'=>e=.returned (.tuple #[])∧∃S',Zv w' b s (emitQ {y.1 with r:=tk s y.1.r 59} 11 lv) S'∧Zn b b S1 S' w1 w'):=⟨λw1 S1 A=>Za4 b s _ S1 11 lv w1 A (G4.sml (Qg p4 (by omega))) (by omega)⟩
 have hA:Kp (∀w1 S1,Zv w1 b s (emitQ {y.1 with r:=tk s y.1.r 59} 11 lv) S1->Calls prog 213 #[.pointer (some ⟨b,0,none⟩),stA y.2] w1 λe w'=>e=.returned (.int .i64 (emitQ {y.1 with r:=tk s y.1.r 59} 11 lv).ss.length)∧∃S',Zv w' b s (addQ (emitQ {y.1 with r:=tk s y.1.r 59} 11 lv) y.2) S'∧Zn b b S1 S' w1 w'):=⟨λw1 S1 A=>ZgA b s _ S1 y.2 w1 A ((G4.emit 11 lv).sml (by rw[Zao];exact Qg (Ub p4 2) (by omega)))⟩
 have hN:Kp (∀w1,Zaf w1 b s S g ({q with r:=r1},{x with k:=2})->Zaf (w1.setCell ⟨g,3,none⟩ (.int .i64 lv)) b s S g ({q with r:=r1},{x with k:=2,ta:=lv})∧Zn b g S S w1 (w1.setCell ⟨g,3,none⟩ (.int .i64 lv))):=⟨λw1 E=>E.note (i:=3) (y:={x with k:=2,ta:=lv}) (v:=.int .i64 lv) rfl (by omega)⟩
 replace hV:=Z_ hV
 replace E1:=Z_ E1
 replace T1:=Z_ T1
 replace T0:=Z_ T0
 replace hwa:=Z_ hwa
 replace hg:=Z_ hg
 replace hgl:=Z_ hgl
 have hyt:Kp (y.2.ta=lv):=⟨by rw[<-hy];exact Zsy s _⟩
 clear H G hp G0 p0 p1 G2 p2 G3 p3 G4 p4 hr0 hr1 hlv hy hQ
 unfold stA
 go_enter func163,ntmps163
 go_wp2_with fail
 rw[<-hwa.out,<-hg.out]
 refine hV.out.mono ?_
 rintro e w0 ⟨rfl,R0⟩
 have E2a:=E1.out.rd R0
 replace R0:=Z_ R0
 replace E2a:=Z_ E2a
 go_wp2_with fail
 refine(hL.out w0 R0.out).mono ?_
 rintro e w1 ⟨rfl,R1⟩
 have E2:=E2a.out.rd R1
 have c3:=E2.W.c 3 _ rfl
 have f3:=E2.W.f 3 _ rfl
 have E3:=hN.out w1 E2
 have T4:Kp (Zn b g S S wa (w1.setCell ⟨g,3,none⟩ (.int .i64 lv))):=⟨(T1.out.trans ((Zn.rd R0.out).trans (Zn.rd R1))).trans E3.2⟩
 have E4:Kp _:=⟨E3.1⟩
 clear E3 R1 E2
 go_wp2_with fail
 refine(hX.out _ E4.out).mono ?_
 rintro e w3 ⟨rfl,S3,E5,T5⟩
 have T6:Kp _:=⟨T4.out.trans T5⟩
 replace E5:=Z_ E5
 clear T5
 go_wp2_with fail
 refine(hK2.out _ _ E5.out).mono ?_
 rintro e w4 ⟨rfl,R4⟩
 have E6:=E5.out.rd R4
 have T7:Kp _:=⟨T6.out.trans (Zn.rd R4)⟩
 have e3:w4.cell? ⟨g,3,none⟩=some (.int .i64 lv):=by rw[<-hyt.out];exact E6.W.c 3 _ rfl
 replace E6:=Z_ E6
 clear R4 c3 f3
 go_wp2_with fail
 refine(hE.out _ _ E6.out.H).mono ?_
 rintro e w5 ⟨rfl,S5,A5,T8⟩
 have E7:=E6.out.tr A5 T8
 have T9:Kp _:=⟨T7.out.trans T8.up⟩
 have d0:=E7.W.c 0 _ rfl
 have d1:=E7.W.c 1 _ rfl
 have d2:=E7.W.c 2 _ rfl
 have d3:=E7.W.c 3 _ rfl
 have d4:=E7.W.c 4 _ rfl
 have d5:=E7.W.c 5 _ rfl
 have d6:=E7.W.c 6 _ rfl
 have d7:=E7.W.c 7 _ rfl
 have d8:=E7.W.c 8 _ rfl
 have d9:=E7.W.c 9 _ rfl
 have d10:=E7.W.c 10 _ rfl
 have d11:=E7.W.c 11 _ rfl
 have d12:=E7.W.c 12 _ rfl
 have d13:=E7.W.c 13 _ rfl
 have d14:=E7.W.c 14 _ rfl
 have d15:=E7.W.c 15 _ rfl
 replace E7:=Z_ E7
 clear T8 A5
 go_wp2_with fail
 refine(hA.out _ _ E7.out.H).mono ?_
 rintro e w6 ⟨rfl,S6,A6,T10⟩
 replace A6:=Z_ A6
 have T11:Kp (Zn b b S S6 w w6):=⟨(T0.out.fresh T9.out hgl.out).trans T10⟩
 clear T10 d0 d1 d2 d3 d4 d5 d6 d7 d8 d9 d10 d11 d12 d13 d14 d15
 go_wp2_with fail
 first|go_end0|refine Qi (Qp rfl _ _ _) rfl ?_
 exact⟨rfl,S6,A6.out,T11.out⟩
def ZnG(b:Nat)(s:ZB)(k:Nat):Prop:=∀(ou:Int) (q:Tq) (S:Nat->Value) (w:World),Zv w b s q S->Gd s q->rem s q.r+2<=k->q.r.er=0->pot s q<=6000->
 Calls prog 95 #[.pointer (some ⟨b,0,none⟩),.int .i64 ou] w (Zaw b s S w (stmQ s k ou q))
theorem Zpn{k:Nat}{ou:Int}(hk:rem s q.r+2<=k)(he:q.r.er=0):muR s (stmQ s k ou {q with r:=adv s q.r}).r<muR s q.r∧rem s (stmQ s k ou {q with r:=adv s q.r}).r<=rem s q.r:=by
 have hra:=Zt s q.r
 have hmu:muR s q.r=rem s q.r+1:=by unfold muR;rw[if_pos he]
 by_cases ht:tok s q.r=0
 ·obtain⟨j,rfl⟩:∃j,k=j+1:=⟨k-1,by omega⟩
  have hd:=(ZdO (s:=s) (k:=j) (ou:=ou) (q:={q with r:=adv s q.r}) (by show isS (tok s (adv s q.r))=false;rw[Zp,ht];rfl)).1
  rw[hd]
  have hb:(rfs (adv s (adv s q.r)) 11).er≠0:=Zan (by omega)
  have e1:muR s (rfs (adv s (adv s q.r)) 11)=0:=by unfold muR;rw[Zdc hb,if_neg hb]
  have e2:rem s (rfs (adv s (adv s q.r)) 11)=0:=Zdc hb
  constructor
  ·show muR s (rfs (adv s (adv s q.r)) 11)<_;omega
  ·show rem s (rfs (adv s (adv s q.r)) 11)<=_;omega
 ·have hl:=Zm7 s k ou {q with r:=adv s q.r} (by show rem s (adv s q.r)<k;omega) (by show tok s (adv s q.r)≠0;rw[Zp];exact ht)
  have hl:rem s (stmQ s k ou {q with r:=adv s q.r}).r<rem s (adv s q.r):=hl
  constructor
  ·unfold muR
   rw[if_pos he]
   split<;>omega
  ·omega
theorem Zfn(b:Nat)(s:ZB)(hs:s.size<=300)(k:Nat)(ih:Kp (ZnG b s k))(ou:Int)(q:Tq)(S:Nat->Value)(w:World)(H:Zv w b s q S)(G:Gd s q)(hk:rem s q.r+2<=k)(hp:pot s q<=6000) :
  Calls prog 214 #[.pointer (some ⟨b,0,none⟩),.int .i64 ou] w (Zaw b s S w (blkQ s (stmQ s k ou) k q)):=by
 have hT:=Zau b s q.r 123 w H.rdAt (G.ok hs)
 have G1:Gd s {q with r:=tk s q.r 123}:=G.r (Z0 G.le (by omega))
 have p1:pot s {q with r:=tk s q.r 123}<=6000:=ZaA (ZM _ _ _) hp
 have k1:rem s (tk s q.r 123)+2<=k:=by have:=ZaD s q.r 123;omega
 obtain⟨fin,hfin⟩:∃fin,loopQ s (stmQ s k ou) k {q with r:=tk s q.r 123}=fin:=⟨_,rfl⟩
 have hQ:blkQ s (stmQ s k ou) k q={fin with r:=tk s fin.r 125}:=by unfold blkQ;rw[hfin]
 rw[hQ]
 have Gf:Gd s fin:=by rw[<-hfin];exact Zjp (Zc6 k ou) k _ G1
 have hE:Kp (∀w1 S1,Zv w1 b s fin S1->Calls prog 92 #[.pointer (some ⟨b,0,none⟩),.int .u8 125] w1 λe w'=>e=.returned (.tuple #[])∧Zi w1 w' b (tk s fin.r 125)):=⟨λw1 S1 A=>Zau b s fin.r 125 w1 A.rdAt (Gf.ok hs)⟩
 have hB:Kp (∀(z:Tq) w1 S1,Zv w1 b s z S1->Gd s z->Calls prog 89 #[.pointer (some ⟨b,0,none⟩),.int .u8 125] w1 λe w'=>e=.returned (.bool (decide (z.r.er=0∧tok s z.r≠125)))∧Zi w1 w' b (adv s z.r)):=⟨λz w1 S1 A Gz=>Zev b s z.r 125 w1 A.rdAt (Gz.ok hs)⟩
 have mk:muR s (tk s q.r 123)<=k:=by unfold muR;split<;>omega
 have H0:Kp _:=⟨H⟩
 replace hT:=Z_ hT
 replace G1:=Z_ G1
 replace p1:=Z_ p1
 replace k1:=Z_ k1
 replace mk:=Z_ mk
 replace hfin:=Z_ hfin
 clear H G hk hp hQ Gf
 go_enter func214,ntmps214
 go_wp2_with fail
 refine hT.out.mono ?_
 rintro e w1 ⟨rfl,R1⟩
 have A1:=H0.out.rd R1
 replace A1:=Z_ A1
 replace R1:=Z_ R1
 clear hT
 go_wp2_with fail
 go_loopg [8] (muR s (tk s q.r 123)) (λgm pv wr=>∃(j:Nat) (z:Tq) (S':Nat->Value),Kp (Zv wr b s z S')∧Kp (Gd s z)∧Kp (rem s z.r+2<=k)∧Kp (pot s z<=6000)∧Kp (muR s z.r<=j)∧Kp (loopQ s (stmQ s k ou) j z=fin)∧Kp (Zn b b S S' w wr)∧Kp (gm=muR s z.r))
 case atStart=>exact⟨k,{q with r:=tk s q.r 123},S,A1,G1,k1,p1,mk,hfin,⟨Zn.rd R1.out⟩,⟨rfl⟩⟩
 case round=>
  clear A1 R1 G1 p1 k1 mk hfin
  obtain⟨j,z,S',hA,hG,hk,hp,hj,hf,hT,hm⟩:=hrel
  have hI:=hB.out z wr S' hA.out hG.out
  by_cases hc:z.r.er=0∧tok s z.r≠125
  ·rw[Qv hc]at hI
   have hmz:muR s z.r=rem s z.r+1:=by unfold muR;rw[if_pos hc.1]
   have hj1:=hj.out
   obtain⟨j,rfl⟩:∃i,j=i+1:=⟨j-1,by omega⟩
   have Ga:Gd s {z with r:=adv s z.r}:=hG.out.r (Ze hG.out.le)
   have pa:pot s {z with r:=adv s z.r}<=6000:=ZaA (Zh _ _) hp.out
   have ka:rem s (adv s z.r)+2<=k:=by have:=Zt s z.r;have:=hk.out;omega
   have hmu:=Zpn (s:=s) (ou:=ou) hk.out hc.1
   have hf2:loopQ s (stmQ s k ou) j (stmQ s k ou {z with r:=adv s z.r})=fin:=by
    rw[<-hf.out]
    simp only[loopQ]
    rw[if_pos hc]
   have hS:Kp (∀w1,Zi wr w1 b (adv s z.r)->Calls prog 95 #[.pointer (some ⟨b,0,none⟩),.int .i64 ou] w1 (Zaw b s S' w1 (stmQ s k ou {z with r:=adv s z.r}))):=⟨λw1 T=>ih.out ou {z with r:=adv s z.r} S' w1 (hA.out.rd T) Ga ka (by show (adv s z.r).er=0;rw[Zk];exact hc.1) pa⟩
   have Gn:Kp (Gd s (stmQ s k ou {z with r:=adv s z.r})):=⟨Zc6 k ou _ Ga⟩
   have pn:Kp (pot s (stmQ s k ou {z with r:=adv s z.r})<=6000):=⟨Qg (ZbP s k ou _ (by show (adv s z.r).er=0;rw[Zk];exact hc.1)) pa⟩
   have kn:Kp (rem s (stmQ s k ou {z with r:=adv s z.r}).r+2<=k):=⟨by have:=hmu.2;have:=hk.out;omega⟩
   have jn:Kp (muR s (stmQ s k ou {z with r:=adv s z.r}).r<=j∧muR s (stmQ s k ou {z with r:=adv s z.r}).r<muR s z.r):=⟨by have:=hmu.1;omega⟩
   generalize stmQ s k ou {z with r:=adv s z.r}=z2 at *
   replace hI:=Z_ hI
   replace hf2:=Z_ hf2
   clear hc hmz hj1 Ga pa ka hmu hf hG hk hp hj
   go_wp2_with fail
   refine hI.out.mono ?_
   rintro e w2 ⟨rfl,R2⟩
   replace R2:=Z_ R2
   go_wp2_with fail
   refine(hS.out _ R2.out).mono ?_
   rintro e w3 ⟨rfl,S3,A3,T3⟩
   replace A3:=Z_ A3
   have T4:Kp (Zn b b S S3 w w3):=⟨hT.out.trans ((Zn.rd R2.out).trans T3)⟩
   clear T3
   go_wp2_with fail
   go_roundg (muR s z2.r)
   case measure=>have h1:=hm.out;have h2:=jn.out;omega
   case rel=>exact⟨j,z2,S3,A3,Gn,kn,pn,⟨jn.out.1⟩,hf2,T4,⟨rfl⟩⟩
  ·rw[Qx hc]at hI
   have hf2:{z with r:=adv s z.r}=fin:=by
    rw[<-hf.out]
    cases j with
    | zero=>rfl
    | succ j=>simp only[loopQ];rw[if_neg hc]
   have hA2:Kp (∀w1,Zi wr w1 b (adv s z.r)->Zv w1 b s fin S'):=⟨λw1 T=>by rw[<-hf2];exact hA.out.rd T⟩
   replace hI:=Z_ hI
   clear hc hf2 hf hG hk hp hj hA
   go_wp2_with fail
   refine hI.out.mono ?_
   rintro e w2 ⟨rfl,R2⟩
   have A2:=hA2.out _ R2
   replace R2:=Z_ R2
   replace A2:=Z_ A2
   go_wp2_with fail
   refine(hE.out _ _ A2.out).mono ?_
   rintro e w3 ⟨rfl,R3⟩
   have A3:=A2.out.rd R3
   replace R3:=Z_ R3
   replace A3:=Z_ A3
   go_wp2_with fail
   first|go_end0|refine Qi (Qp rfl _ _ _) rfl ?_
   exact⟨rfl,S',A3.out,(hT.out.trans (Zn.rd R2.out)).trans (Zn.rd R3.out)⟩
theorem Zll(b:Nat)(s:ZB)(hs:s.size<=300)(k:Nat)(ih:Kp (ZnG b s k))(q:Tq)(x:Sq)(S:Nat->Value)(w:World)(H:Zv w b s q S)(G:Gd s q)(ht:tok s q.r=64)(hk:rem s q.r+1<=k)(hp:pot s q<=6000) :
  Calls prog 165 #[.pointer (some ⟨b,0,none⟩),stA x] w (Zaw b s S w (ZkD s (stmQ s k) k q x)):=by
 obtain⟨wa,hwa⟩:∃wa,wa=w.alloc (.cells #[.int .i64 4,.int .i64 x.pl,.int .i64 x.ou,.int .i64 x.ta,.bool (x.rd 0),.bool (x.rd 1),.bool (x.rd 2),.bool (x.rd 3),.bool (x.rd 4),.bool (x.rd 5),.bool (x.tp 0),.bool (x.tp 1),.bool (x.tp 2),.bool (x.tp 3),.bool (x.tp 4),.bool (x.tp 5)] 109):=⟨_,rfl⟩
 obtain⟨E1,T0⟩:=Zaf.new H {x with k:=4} hwa
 obtain⟨g,hg⟩:∃g,g=w.heap.size:=⟨_,rfl⟩
 rw[<-hg]at E1
 have hgl:w.heap.size<=g:=by omega
 have hV:=Zau b s q.r 64 _ E1.H.rdAt (G.ok hs)
 have er:tk s q.r 64=nx (adv s q.r):=by unfold tk Zbn;rw[if_pos (by rw[QL];exact ht)]
 obtain⟨r1,hr1⟩:∃r1,tk s q.r 64=r1:=⟨_,rfl⟩
 have hlt:rem s r1<rem s q.r:=by rw[<-hr1,er];exact ZK (by omega)
 have hpt:Zaa s r1+8<=Zaa s q.r:=by rw[<-hr1,er];exact Zs (by omega)
 have G1:Gd s {q with r:=r1}:=by rw[<-hr1];exact G.r (Z0 G.le (by omega))
 have p1:pot s {q with r:=r1}<=5992:=by
  have h1:=ZaL s q r1
  have h2:=ZaG s q
  omega
 obtain⟨y,hy⟩:∃y,exQ s ({q with r:=r1},{x with k:=4})=y:=⟨_,rfl⟩
 have G2:Gd s y.1:=by rw[<-hy];exact Zif G1
 have p2:pot s y.1<=5994:=by rw[<-hy];exact Qg (Zex s _) (by show pot s {q with r:=r1}+2<=5994;omega)
 have k2:rem s y.1.r+2<=k:=by
  have h1:=Zgo s ({q with r:=r1},{x with k:=4})
  rw[hy]at h1
  have h1:rem s y.1.r<=rem s r1:=h1
  omega
 have G3:Gd s (addQ y.1 y.2):=G2.add _
 have p3:pot s (addQ y.1 y.2)<=5995:=by rw[Zec];omega
 have G4:Gd s (emitQ (addQ y.1 y.2) 9 0):=G3.emit _ _
 have p4:pot s (emitQ (addQ y.1 y.2) 9 0)<=5997:=by rw[Zao];omega
 obtain⟨u,hu⟩:∃u,blkQ s (stmQ s k y.1.ss.length) k (emitQ (addQ y.1 y.2) 9 0)=u:=⟨_,rfl⟩
 have G5:Gd s u:=by rw[<-hu];exact Zgp (Zc6 k _) k G4
 have p5:pot s u<=5997:=by rw[<-hu];exact Qg (Zed s _ (ZbP s k _) k _) p4
 have k5:rem s u.r+2<=k:=by
  obtain⟨j,rfl⟩:∃j,k=j+1:=⟨k-1,by omega⟩
  have h1:=Zfw s j (j+1) y.1.ss.length (emitQ (addQ y.1 y.2) 9 0) (by show rem s y.1.r<j+1;omega)
  rw[hu]at h1
  have h1:rem s u.r<=rem s y.1.r:=h1
  omega
 have l5:y.1.cd.length+2<=u.cd.length:=by
  have h1:=Zef s (stmQ s k y.1.ss.length) (Zeg s k _) k (emitQ (addQ y.1 y.2) 9 0)
  rw[hu]at h1
  have h2:(emitQ (addQ y.1 y.2) 9 0).cd.length=y.1.cd.length+2:=by show (y.1.cd++_).length=_;rw[Qe];rfl
  omega
 have z5:2*plQ y.1+1<u.cd.length:=by
  have:=G2.ev
  unfold plQ
  omega
 have hX:Kp (∀w1,Zaf w1 b s S g ({q with r:=r1},{x with k:=4})->Calls prog 211 #[.pointer (some ⟨b,0,none⟩),.pointer (some ⟨g,0,none⟩)] w1 (ZcI b s S g w1 y)):=⟨λw1 E=>by
  rw[<-hy]
  exact ZaC b g s hs (s.size+1) _ S w1 E G1 (by have:=Z1 s r1;show rem s r1<_;omega) (by show pot s {q with r:=r1}<=7000;omega)⟩
 have hA:Kp (∀w1 S1,Zv w1 b s y.1 S1->Calls prog 213 #[.pointer (some ⟨b,0,none⟩),stA y.2] w1 λe w'=>e=.returned (.int .i64 y.1.ss.length)∧∃S',Zv w' b s (addQ y.1 y.2) S'∧Zn b b S1 S' w1 w'):=⟨λw1 S1 A=>ZgA b s _ S1 y.2 w1 A (G2.sml (by omega))⟩
 have hP:Kp (∀w1 S1,Zv w1 b s (addQ y.1 y.2) S1->Calls prog 42 #[.pointer (some ⟨b,0,none⟩)] w1 λe w'=>e=.returned (.int .i64 (plQ y.1))∧w'=w1):=⟨λw1 S1 A=>Zb7 b s (addQ y.1 y.2) S1 w1 A (G3.sml (by omega))⟩
 have hE:Kp (∀w1 S1,Zv w1 b s (addQ y.1 y.2) S1->Calls prog 212 #[.pointer (some ⟨b,0,none⟩),.int .i64 9,.int .i64 0] w1 λe w'=>e=.returned (.tuple #[])∧∃S',Zv w' b s (emitQ (addQ y.1 y.2) 9 0) S'∧Zn b b S1 S' w1 w'):=⟨λw1 S1 A=>Za4 b s _ S1 9 0 w1 A (G3.sml (by omega)) (by omega)⟩
 have hB:Kp (∀w1 S1,Zv w1 b s (emitQ (addQ y.1 y.2) 9 0) S1->Calls prog 214 #[.pointer (some ⟨b,0,none⟩),.int .i64 y.1.ss.length] w1 (Zaw b s S1 w1 u)):=⟨λw1 S1 A=>by
  rw[<-hu]
  exact Zfn b s hs k ih y.1.ss.length _ S1 w1 A G4 k2 (by omega)⟩
 have G6:Gd s (emitQ u 8 (plQ q)):=G5.emit _ _
 have p6:pot s (emitQ u 8 (plQ q))<=5999:=by rw[Zao];omega
 have hP0:Kp (∀w1,Zv w1 b s {q with r:=r1} S->Calls prog 42 #[.pointer (some ⟨b,0,none⟩)] w1 λe w'=>e=.returned (.int .i64 (plQ q))∧w'=w1):=⟨λw1 A=>Zb7 b s {q with r:=r1} S w1 A (G1.sml (Qg p1 (by omega)))⟩
 have hJ:Kp (∀w1 S1,Zv w1 b s u S1->Calls prog 212 #[.pointer (some ⟨b,0,none⟩),.int .i64 8,.int .i64 (plQ q)] w1 λe w'=>e=.returned (.tuple #[])∧∃S',Zv w' b s (emitQ u 8 (plQ q)) S'∧Zn b b S1 S' w1 w'):=⟨λw1 S1 A=>Za4 b s _ S1 8 _ w1 A (G5.sml (by omega)) (by omega)⟩
 have hM:Kp (∀w1 S1,Zv w1 b s (emitQ u 8 (plQ q)) S1->Calls prog 215 #[.pointer (some ⟨b,0,none⟩),.int .i64 (plQ y.1)] w1 λe w'=>e=.returned (.tuple #[])∧Zv w' b s (aimQ (emitQ u 8 (plQ q)) (plQ y.1)) S1∧Zn b b S1 S1 w1 w'):=⟨λw1 S1 A=>Zgz b s _ S1 _ w1 A (G6.sml (by omega)) (by
  have h2:(emitQ u 8 (plQ q)).cd.length=u.cd.length+2:=by show (u.cd++_).length=_;rw[Qe];rfl
  omega)⟩
 have hQ:ZkD s (stmQ s k) k q x=aimQ (emitQ u 8 (plQ q)) (plQ y.1):=by unfold ZkD;dsimp only;rw[hr1,hy,hu]
 rw[hQ]
 rw[hr1]at hV
 generalize aimQ (emitQ u 8 (plQ q)) (plQ y.1)=fin at *
 generalize emitQ u 8 (plQ q)=u1 at *
 generalize plQ y.1=zz at *
 generalize plQ q=z0 at *
 generalize y.1.ss.length=nn at *
 generalize emitQ (addQ y.1 y.2) 9 0=v2 at *
 generalize addQ y.1 y.2=v1 at *
 replace hV:=Z_ hV
 replace E1:=Z_ E1
 replace T0:=Z_ T0
 replace hwa:=Z_ hwa
 replace hg:=Z_ hg
 replace hgl:=Z_ hgl
 clear H G ht hk hp er hr1 hlt hpt G1 p1 hy G2 p2 k2 G3 p3 G4 p4 hu G5 p5 k5 l5 z5 G6 p6 hQ
 unfold stA
 go_enter func165,ntmps165
 go_wp2_with fail
 rw[<-hwa.out,<-hg.out]
 refine hV.out.mono ?_
 rintro e w1 ⟨rfl,R1⟩
 have E2:=E1.out.rd R1
 have T2:Kp (Zn b g S S wa w1):=⟨Zn.rd R1⟩
 replace E2:=Z_ E2
 clear R1
 go_wp2_with fail
 refine(hP0.out _ E2.out.H).mono ?_
 rintro e w2 ⟨rfl,hw⟩
 subst hw
 go_wp2_with fail
 refine(hX.out _ E2.out).mono ?_
 rintro e w3 ⟨rfl,S3,E5,T5⟩
 have T6:Kp _:=⟨T2.out.trans T5⟩
 have d0:=E5.W.c 0 _ rfl
 have d1:=E5.W.c 1 _ rfl
 have d2:=E5.W.c 2 _ rfl
 have d3:=E5.W.c 3 _ rfl
 have d4:=E5.W.c 4 _ rfl
 have d5:=E5.W.c 5 _ rfl
 have d6:=E5.W.c 6 _ rfl
 have d7:=E5.W.c 7 _ rfl
 have d8:=E5.W.c 8 _ rfl
 have d9:=E5.W.c 9 _ rfl
 have d10:=E5.W.c 10 _ rfl
 have d11:=E5.W.c 11 _ rfl
 have d12:=E5.W.c 12 _ rfl
 have d13:=E5.W.c 13 _ rfl
 have d14:=E5.W.c 14 _ rfl
 have d15:=E5.W.c 15 _ rfl
 replace E5:=Z_ E5
 clear T5
 go_wp2_with fail
 refine(hA.out _ _ E5.out.H).mono ?_
 rintro e w4 ⟨rfl,S4,A4,T7⟩
 replace A4:=Z_ A4
 have T8:Kp (Zn b b S S4 w w4):=⟨(T0.out.fresh T6.out hgl.out).trans T7⟩
 clear T7 d0 d1 d2 d3 d4 d5 d6 d7 d8 d9 d10 d11 d12 d13 d14 d15
 go_wp2_with fail
 refine(hP.out _ _ A4.out).mono ?_
 rintro e w5 ⟨rfl,hw⟩
 subst hw
 go_wp2_with fail
 refine(hE.out _ _ A4.out).mono ?_
 rintro e w5 ⟨rfl,S5,A5,T9⟩
 replace A5:=Z_ A5
 have T10:Kp _:=⟨T8.out.trans T9⟩
 clear T9
 go_wp2_with fail
 refine(hB.out _ _ A5.out).mono ?_
 rintro e w6 ⟨rfl,S6,A6,T11⟩
 replace A6:=Z_ A6
 have T12:Kp _:=⟨T10.out.trans T11⟩
 clear T11
 go_wp2_with fail
 refine(hJ.out _ _ A6.out).mono ?_
 rintro e w7 ⟨rfl,S7,A7,T13⟩
 replace A7:=Z_ A7
 have T14:Kp _:=⟨T12.out.trans T13⟩
 clear T13
 go_wp2_with fail
 refine(hM.out _ _ A7.out).mono ?_
 rintro e w8 ⟨rfl,A8,T15⟩
 replace A8:=Z_ A8
 have T16:Kp _:=⟨T14.out.trans T15⟩
 clear T15
 go_wp2_with fail
 first|go_end0|refine Qi (Qp rfl _ _ _) rfl ?_
 exact⟨rfl,S7,A8.out,T16.out⟩
theorem Zlm(b:Nat)(s:ZB)(hs:s.size<=300)(k:Nat)(ih:Kp (ZnG b s k))(q:Tq)(x:Sq)(S:Nat->Value)(w:World)(H:Zv w b s q S)(G:Gd s q)(ht:tok s q.r=63)(hk:rem s q.r+1<=k)(hp:pot s q<=6000) :
  Calls prog 164 #[.pointer (some ⟨b,0,none⟩),stA x] w (Zaw b s S w (ZkC s (stmQ s k) k q x)):=by
 obtain⟨wa,hwa⟩:∃wa,wa=w.alloc (.cells #[.int .i64 3,.int .i64 x.pl,.int .i64 x.ou,.int .i64 x.ta,.bool (x.rd 0),.bool (x.rd 1),.bool (x.rd 2),.bool (x.rd 3),.bool (x.rd 4),.bool (x.rd 5),.bool (x.tp 0),.bool (x.tp 1),.bool (x.tp 2),.bool (x.tp 3),.bool (x.tp 4),.bool (x.tp 5)] 109):=⟨_,rfl⟩
 obtain⟨E1,T0⟩:=Zaf.new H {x with k:=3} hwa
 obtain⟨g,hg⟩:∃g,g=w.heap.size:=⟨_,rfl⟩
 rw[<-hg]at E1
 have hgl:w.heap.size<=g:=by omega
 have hV:=Zau b s q.r 63 _ E1.H.rdAt (G.ok hs)
 have er:tk s q.r 63=nx (adv s q.r):=by unfold tk Zbn;rw[if_pos (by rw[QL];exact ht)]
 obtain⟨r1,hr1⟩:∃r1,tk s q.r 63=r1:=⟨_,rfl⟩
 have hlt:rem s r1<rem s q.r:=by rw[<-hr1,er];exact ZK (by omega)
 have hpt:Zaa s r1+8<=Zaa s q.r:=by rw[<-hr1,er];exact Zs (by omega)
 have G1:Gd s {q with r:=r1}:=by rw[<-hr1];exact G.r (Z0 G.le (by omega))
 have p1:pot s {q with r:=r1}<=5992:=by
  have h1:=ZaL s q r1
  have h2:=ZaG s q
  omega
 obtain⟨y,hy⟩:∃y,exQ s ({q with r:=r1},{x with k:=3})=y:=⟨_,rfl⟩
 have G2:Gd s y.1:=by rw[<-hy];exact Zif G1
 have p2:pot s y.1<=5994:=by rw[<-hy];exact Qg (Zex s _) (by show pot s {q with r:=r1}+2<=5994;omega)
 have k2:rem s y.1.r+2<=k:=by
  have h1:=Zgo s ({q with r:=r1},{x with k:=3})
  rw[hy]at h1
  have h1:rem s y.1.r<=rem s r1:=h1
  omega
 have G3:Gd s (addQ y.1 y.2):=G2.add _
 have p3:pot s (addQ y.1 y.2)<=5995:=by rw[Zec];omega
 have G4:Gd s (emitQ (addQ y.1 y.2) 9 0):=G3.emit _ _
 have p4:pot s (emitQ (addQ y.1 y.2) 9 0)<=5997:=by rw[Zao];omega
 obtain⟨u,hu⟩:∃u,blkQ s (stmQ s k y.1.ss.length) k (emitQ (addQ y.1 y.2) 9 0)=u:=⟨_,rfl⟩
 have G5:Gd s u:=by rw[<-hu];exact Zgp (Zc6 k _) k G4
 have p5:pot s u<=5997:=by rw[<-hu];exact Qg (Zed s _ (ZbP s k _) k _) p4
 have k5:rem s u.r+2<=k:=by
  obtain⟨j,rfl⟩:∃j,k=j+1:=⟨k-1,by omega⟩
  have h1:=Zfw s j (j+1) y.1.ss.length (emitQ (addQ y.1 y.2) 9 0) (by show rem s y.1.r<j+1;omega)
  rw[hu]at h1
  have h1:rem s u.r<=rem s y.1.r:=h1
  omega
 have l5:y.1.cd.length+2<=u.cd.length:=by
  have h1:=Zef s (stmQ s k y.1.ss.length) (Zeg s k _) k (emitQ (addQ y.1 y.2) 9 0)
  rw[hu]at h1
  have h2:(emitQ (addQ y.1 y.2) 9 0).cd.length=y.1.cd.length+2:=by show (y.1.cd++_).length=_;rw[Qe];rfl
  omega
 have z5:2*plQ y.1+1<u.cd.length:=by
  have:=G2.ev
  unfold plQ
  omega
 have hX:Kp (∀w1,Zaf w1 b s S g ({q with r:=r1},{x with k:=3})->Calls prog 211 #[.pointer (some ⟨b,0,none⟩),.pointer (some ⟨g,0,none⟩)] w1 (ZcI b s S g w1 y)):=⟨λw1 E=>by
  rw[<-hy]
  exact ZaC b g s hs (s.size+1) _ S w1 E G1 (by have:=Z1 s r1;show rem s r1<_;omega) (by show pot s {q with r:=r1}<=7000;omega)⟩
 have hA:Kp (∀w1 S1,Zv w1 b s y.1 S1->Calls prog 213 #[.pointer (some ⟨b,0,none⟩),stA y.2] w1 λe w'=>e=.returned (.int .i64 y.1.ss.length)∧∃S',Zv w' b s (addQ y.1 y.2) S'∧Zn b b S1 S' w1 w'):=⟨λw1 S1 A=>ZgA b s _ S1 y.2 w1 A (G2.sml (by omega))⟩
 have hP:Kp (∀w1 S1,Zv w1 b s (addQ y.1 y.2) S1->Calls prog 42 #[.pointer (some ⟨b,0,none⟩)] w1 λe w'=>e=.returned (.int .i64 (plQ y.1))∧w'=w1):=⟨λw1 S1 A=>Zb7 b s (addQ y.1 y.2) S1 w1 A (G3.sml (by omega))⟩
 have hE:Kp (∀w1 S1,Zv w1 b s (addQ y.1 y.2) S1->Calls prog 212 #[.pointer (some ⟨b,0,none⟩),.int .i64 9,.int .i64 0] w1 λe w'=>e=.returned (.tuple #[])∧∃S',Zv w' b s (emitQ (addQ y.1 y.2) 9 0) S'∧Zn b b S1 S' w1 w'):=⟨λw1 S1 A=>Za4 b s _ S1 9 0 w1 A (G3.sml (by omega)) (by omega)⟩
 have hB:Kp (∀w1 S1,Zv w1 b s (emitQ (addQ y.1 y.2) 9 0) S1->Calls prog 214 #[.pointer (some ⟨b,0,none⟩),.int .i64 y.1.ss.length] w1 (Zaw b s S1 w1 u)):=⟨λw1 S1 A=>by
  rw[<-hu]
  exact Zfn b s hs k ih y.1.ss.length _ S1 w1 A G4 k2 (by omega)⟩
 have hT:Kp (∀w1 S1,Zv w1 b s u S1->Calls prog 158 #[.pointer (some ⟨b,0,none⟩)] w1 λe w'=>e=.returned (.int .u8 (tok s u.r))∧Zi w1 w' b (adv s u.r)):=⟨λw1 S1 A=>Zac b s u.r w1 A.rdAt (G5.ok hs)⟩
 have hQ:ZkC s (stmQ s k) k q x=(if tok s u.r=58 then aimQ (blkQ s (stmQ s k y.1.ss.length) k (aimQ (emitQ {u with r:=nx (adv s u.r)} 8 0) (plQ y.1))) (plQ u) else aimQ {u with r:=adv s u.r} (plQ y.1)):=by unfold ZkC;dsimp only;rw[hr1,hy,hu]
 rw[hQ]
 rw[hr1]at hV
 have Ga:Gd s {u with r:=adv s u.r}:=G5.r (Ze G5.le)
 have pa:pot s {u with r:=adv s u.r}<=5997:=ZaA (Zh _ _) p5
 by_cases h58:tok s u.r=58
 ·rw[if_pos h58]
  rw[h58]at hT
  have hlt2:rem s (nx (adv s u.r))<rem s u.r:=ZK (by omega)
  have hpt2:Zaa s (nx (adv s u.r))+8<=Zaa s u.r:=Zs (by omega)
  have G6:Gd s {u with r:=nx (adv s u.r)}:=G5.r (Zak (by omega))
  have p6:pot s {u with r:=nx (adv s u.r)}<=5989:=by
   have h1:=ZaL s u (nx (adv s u.r))
   have h2:=ZaG s u
   omega
  have G7:Gd s (emitQ {u with r:=nx (adv s u.r)} 8 0):=G6.emit _ _
  have p7:pot s (emitQ {u with r:=nx (adv s u.r)} 8 0)<=5991:=by rw[Zao];omega
  have l7:(emitQ {u with r:=nx (adv s u.r)} 8 0).cd.length=u.cd.length+2:=by show (u.cd++_).length=_;rw[Qe];rfl
  have G8:Gd s (aimQ (emitQ {u with r:=nx (adv s u.r)} 8 0) (plQ y.1)):=G7.aim _
  have p8:pot s (aimQ (emitQ {u with r:=nx (adv s u.r)} 8 0) (plQ y.1))<=5991:=by rw[Zfx];omega
  have l8:(aimQ (emitQ {u with r:=nx (adv s u.r)} 8 0) (plQ y.1)).cd.length=u.cd.length+2:=by rw[<-l7];show (List.set _ _ _).length=_;rw[Um]
  obtain⟨v,hv⟩:∃v,blkQ s (stmQ s k y.1.ss.length) k (aimQ (emitQ {u with r:=nx (adv s u.r)} 8 0) (plQ y.1))=v:=⟨_,rfl⟩
  have G9:Gd s v:=by rw[<-hv];exact Zgp (Zc6 k _) k G8
  have p9:pot s v<=5991:=by rw[<-hv];exact Qg (Zed s _ (ZbP s k _) k _) p8
  have l9:u.cd.length+2<=v.cd.length:=by
   have h1:=Zef s (stmQ s k y.1.ss.length) (Zeg s k _) k (aimQ (emitQ {u with r:=nx (adv s u.r)} 8 0) (plQ y.1))
   rw[hv]at h1
   omega
  have z9:2*plQ u+1<v.cd.length:=by
   have:=G5.ev
   unfold plQ
   omega
  rw[hv]
  have hS:Kp (∀w1 S1 (z:Tq),Zv w1 b s z S1->z.r=adv s u.r->Calls prog 160 #[.pointer (some ⟨b,0,none⟩)] w1 λe w'=>e=.returned (.tuple #[])∧Zi w1 w' b (nx (adv s u.r))):=⟨λw1 S1 z A e=>by have:=A.rdAt;rw[e]at this;exact Za9 b s (adv s u.r) w1 this (Ga.ok hs)⟩
  have hP2:Kp (∀w1 S1,Zv w1 b s {u with r:=nx (adv s u.r)} S1->Calls prog 42 #[.pointer (some ⟨b,0,none⟩)] w1 λe w'=>e=.returned (.int .i64 (plQ u))∧w'=w1):=⟨λw1 S1 A=>Zb7 b s {u with r:=nx (adv s u.r)} S1 w1 A (G6.sml (Qg p6 (by omega)))⟩
  have hJ:Kp (∀w1 S1,Zv w1 b s {u with r:=nx (adv s u.r)} S1->Calls prog 212 #[.pointer (some ⟨b,0,none⟩),.int .i64 8,.int .i64 0] w1 λe w'=>e=.returned (.tuple #[])∧∃S',Zv w' b s (emitQ {u with r:=nx (adv s u.r)} 8 0) S'∧Zn b b S1 S' w1 w'):=⟨λw1 S1 A=>Za4 b s _ S1 8 0 w1 A (G6.sml (Qg p6 (by omega))) (by omega)⟩
  have hM:Kp (∀w1 S1,Zv w1 b s (emitQ {u with r:=nx (adv s u.r)} 8 0) S1->Calls prog 215 #[.pointer (some ⟨b,0,none⟩),.int .i64 (plQ y.1)] w1 λe w'=>e=.returned (.tuple #[])∧Zv w' b s (aimQ (emitQ {u with r:=nx (adv s u.r)} 8 0) (plQ y.1)) S1∧Zn b b S1 S1 w1 w'):=⟨λw1 S1 A=>Zgz b s _ S1 _ w1 A (G7.sml (Qg p7 (by omega))) (by omega)⟩
  have hB2:Kp (∀w1 S1,Zv w1 b s (aimQ (emitQ {u with r:=nx (adv s u.r)} 8 0) (plQ y.1)) S1->Calls prog 214 #[.pointer (some ⟨b,0,none⟩),.int .i64 y.1.ss.length] w1 (Zaw b s S1 w1 v)):=⟨λw1 S1 A=>by
   rw[<-hv]
   exact Zfn b s hs k ih y.1.ss.length _ S1 w1 A G8 (by show rem s (nx (adv s u.r))+2<=k;omega) (Qg p8 (by omega))⟩
  have hM2:Kp (∀w1 S1,Zv w1 b s v S1->Calls prog 215 #[.pointer (some ⟨b,0,none⟩),.int .i64 (plQ u)] w1 λe w'=>e=.returned (.tuple #[])∧Zv w' b s (aimQ v (plQ u)) S1∧Zn b b S1 S1 w1 w'):=⟨λw1 S1 A=>Zgz b s _ S1 _ w1 A (G9.sml (by omega)) z9⟩
  generalize aimQ v (plQ u)=fin at *
  generalize aimQ (emitQ {u with r:=nx (adv s u.r)} 8 0) (plQ y.1)=u3 at *
  generalize emitQ {u with r:=nx (adv s u.r)} 8 0=u2 at *
  generalize plQ y.1=zz at *
  generalize plQ u=z0 at *
  generalize y.1.ss.length=nn at *
  generalize emitQ (addQ y.1 y.2) 9 0=v2 at *
  generalize addQ y.1 y.2=v1 at *
  replace hV:=Z_ hV
  replace E1:=Z_ E1
  replace T0:=Z_ T0
  replace hwa:=Z_ hwa
  replace hg:=Z_ hg
  replace hgl:=Z_ hgl
  clear H G ht hk hp er hr1 hlt hpt G1 p1 hy G2 p2 k2 G3 p3 G4 p4 hu G5 p5 k5 l5 z5 hQ Ga pa h58 hlt2 hpt2 G6 p6 G7 p7 l7 G8 p8 l8 hv G9 p9 l9 z9
  unfold stA
  go_enter func164,ntmps164
  go_wp2_with fail
  rw[<-hwa.out,<-hg.out]
  refine hV.out.mono ?_
  rintro e w1 ⟨rfl,R1⟩
  have E2:=E1.out.rd R1
  have T2:Kp (Zn b g S S wa w1):=⟨Zn.rd R1⟩
  replace E2:=Z_ E2
  clear R1
  go_wp2_with fail
  refine(hX.out _ E2.out).mono ?_
  rintro e w3 ⟨rfl,S3,E5,T5⟩
  have T6:Kp _:=⟨T2.out.trans T5⟩
  have d0:=E5.W.c 0 _ rfl
  have d1:=E5.W.c 1 _ rfl
  have d2:=E5.W.c 2 _ rfl
  have d3:=E5.W.c 3 _ rfl
  have d4:=E5.W.c 4 _ rfl
  have d5:=E5.W.c 5 _ rfl
  have d6:=E5.W.c 6 _ rfl
  have d7:=E5.W.c 7 _ rfl
  have d8:=E5.W.c 8 _ rfl
  have d9:=E5.W.c 9 _ rfl
  have d10:=E5.W.c 10 _ rfl
  have d11:=E5.W.c 11 _ rfl
  have d12:=E5.W.c 12 _ rfl
  have d13:=E5.W.c 13 _ rfl
  have d14:=E5.W.c 14 _ rfl
  have d15:=E5.W.c 15 _ rfl
  replace E5:=Z_ E5
  clear T5
  go_wp2_with fail
  refine(hA.out _ _ E5.out.H).mono ?_
  rintro e w4 ⟨rfl,S4,A4,T7⟩
  replace A4:=Z_ A4
  have T8:Kp (Zn b b S S4 w w4):=⟨(T0.out.fresh T6.out hgl.out).trans T7⟩
  clear T7 d0 d1 d2 d3 d4 d5 d6 d7 d8 d9 d10 d11 d12 d13 d14 d15
  go_wp2_with fail
  refine(hP.out _ _ A4.out).mono ?_
  rintro e w5 ⟨rfl,hw⟩
  subst hw
  go_wp2_with fail
  refine(hE.out _ _ A4.out).mono ?_
  rintro e w5 ⟨rfl,S5,A5,T9⟩
  replace A5:=Z_ A5
  have T10:Kp _:=⟨T8.out.trans T9⟩
  clear T9
  go_wp2_with fail
  refine(hB.out _ _ A5.out).mono ?_
  rintro e w6 ⟨rfl,S6,A6,T11⟩
  replace A6:=Z_ A6
  have T12:Kp _:=⟨T10.out.trans T11⟩
  clear T11
  go_wp2_with fail
  refine(hT.out _ _ A6.out).mono ?_
  rintro e w7 ⟨rfl,R7⟩
  have A7:Kp _:=⟨A6.out.rd R7⟩
  have T13:Kp (Zn b b S S6 w w7):=⟨T12.out.trans (Zn.rd R7)⟩
  clear R7
  go_wp2_with fail
  refine(hS.out _ _ _ A7.out rfl).mono ?_
  rintro e w8 ⟨rfl,R8⟩
  have A8:Kp _:=⟨A7.out.rd R8⟩
  have T14:Kp (Zn b b S S6 w w8):=⟨T13.out.trans (Zn.rd R8)⟩
  clear R8
  go_wp2_with fail
  refine(hP2.out _ _ A8.out).mono ?_
  rintro e w9 ⟨rfl,hw⟩
  subst hw
  go_wp2_with fail
  refine(hJ.out _ _ A8.out).mono ?_
  rintro e w9 ⟨rfl,S9,A9,T15⟩
  replace A9:=Z_ A9
  have T16:Kp _:=⟨T14.out.trans T15⟩
  clear T15
  go_wp2_with fail
  refine(hM.out _ _ A9.out).mono ?_
  rintro e w10 ⟨rfl,A10,T17⟩
  replace A10:=Z_ A10
  have T18:Kp _:=⟨T16.out.trans T17⟩
  clear T17
  go_wp2_with fail
  refine(hB2.out _ _ A10.out).mono ?_
  rintro e w11 ⟨rfl,S11,A11,T19⟩
  replace A11:=Z_ A11
  have T20:Kp _:=⟨T18.out.trans T19⟩
  clear T19
  go_wp2_with fail
  refine(hM2.out _ _ A11.out).mono ?_
  rintro e w12 ⟨rfl,A12,T21⟩
  replace A12:=Z_ A12
  have T22:Kp _:=⟨T20.out.trans T21⟩
  clear T21
  go_wp2_with fail
  first|go_end0|refine Qi (Qp rfl _ _ _) rfl ?_
  exact⟨rfl,S11,A12.out,T22.out⟩
 ·rw[if_neg h58]
  have k58:(tok s u.r==58)=false:=Qf.2 h58
  have hM:Kp (∀w1 S1,Zv w1 b s {u with r:=adv s u.r} S1->Calls prog 215 #[.pointer (some ⟨b,0,none⟩),.int .i64 (plQ y.1)] w1 λe w'=>e=.returned (.tuple #[])∧Zv w' b s (aimQ {u with r:=adv s u.r} (plQ y.1)) S1∧Zn b b S1 S1 w1 w'):=⟨λw1 S1 A=>Zgz b s _ S1 _ w1 A (Ga.sml (Qg pa (by omega))) z5⟩
  generalize aimQ {u with r:=adv s u.r} (plQ y.1)=fin at *
  generalize tok s u.r=tt at *
  generalize plQ y.1=zz at *
  generalize y.1.ss.length=nn at *
  generalize emitQ (addQ y.1 y.2) 9 0=v2 at *
  generalize addQ y.1 y.2=v1 at *
  replace hV:=Z_ hV
  replace E1:=Z_ E1
  replace T0:=Z_ T0
  replace hwa:=Z_ hwa
  replace hg:=Z_ hg
  replace hgl:=Z_ hgl
  clear H G ht hk hp er hr1 hlt hpt G1 p1 hy G2 p2 k2 G3 p3 G4 p4 hu G5 p5 k5 l5 z5 hQ Ga pa h58
  unfold stA
  go_enter func164,ntmps164
  go_wp2_with fail
  rw[<-hwa.out,<-hg.out]
  refine hV.out.mono ?_
  rintro e w1 ⟨rfl,R1⟩
  have E2:=E1.out.rd R1
  have T2:Kp (Zn b g S S wa w1):=⟨Zn.rd R1⟩
  replace E2:=Z_ E2
  clear R1
  go_wp2_with fail
  refine(hX.out _ E2.out).mono ?_
  rintro e w3 ⟨rfl,S3,E5,T5⟩
  have T6:Kp _:=⟨T2.out.trans T5⟩
  have d0:=E5.W.c 0 _ rfl
  have d1:=E5.W.c 1 _ rfl
  have d2:=E5.W.c 2 _ rfl
  have d3:=E5.W.c 3 _ rfl
  have d4:=E5.W.c 4 _ rfl
  have d5:=E5.W.c 5 _ rfl
  have d6:=E5.W.c 6 _ rfl
  have d7:=E5.W.c 7 _ rfl
  have d8:=E5.W.c 8 _ rfl
  have d9:=E5.W.c 9 _ rfl
  have d10:=E5.W.c 10 _ rfl
  have d11:=E5.W.c 11 _ rfl
  have d12:=E5.W.c 12 _ rfl
  have d13:=E5.W.c 13 _ rfl
  have d14:=E5.W.c 14 _ rfl
  have d15:=E5.W.c 15 _ rfl
  replace E5:=Z_ E5
  clear T5
  go_wp2_with fail
  refine(hA.out _ _ E5.out.H).mono ?_
  rintro e w4 ⟨rfl,S4,A4,T7⟩
  replace A4:=Z_ A4
  have T8:Kp (Zn b b S S4 w w4):=⟨(T0.out.fresh T6.out hgl.out).trans T7⟩
  clear T7 d0 d1 d2 d3 d4 d5 d6 d7 d8 d9 d10 d11 d12 d13 d14 d15
  go_wp2_with fail
  refine(hP.out _ _ A4.out).mono ?_
  rintro e w5 ⟨rfl,hw⟩
  subst hw
  go_wp2_with fail
  refine(hE.out _ _ A4.out).mono ?_
  rintro e w5 ⟨rfl,S5,A5,T9⟩
  replace A5:=Z_ A5
  have T10:Kp _:=⟨T8.out.trans T9⟩
  clear T9
  go_wp2_with fail
  refine(hB.out _ _ A5.out).mono ?_
  rintro e w6 ⟨rfl,S6,A6,T11⟩
  replace A6:=Z_ A6
  have T12:Kp _:=⟨T10.out.trans T11⟩
  clear T11
  go_wp2_with fail
  refine(hT.out _ _ A6.out).mono ?_
  rintro e w7 ⟨rfl,R7⟩
  have A7:Kp _:=⟨A6.out.rd R7⟩
  have T13:Kp (Zn b b S S6 w w7):=⟨T12.out.trans (Zn.rd R7)⟩
  clear R7
  go_wp2_with fail
  refine(hM.out _ _ A7.out).mono ?_
  rintro e w10 ⟨rfl,A10,T17⟩
  replace A10:=Z_ A10
  have T18:Kp _:=⟨T13.out.trans T17⟩
  clear T17
  go_wp2_with fail
  first|go_end0|refine Qi (Qp rfl _ _ _) rfl ?_
  exact⟨rfl,S6,A10.out,T18.out⟩
end Go.Proofs.YtcnbifdlkalimabGreat
