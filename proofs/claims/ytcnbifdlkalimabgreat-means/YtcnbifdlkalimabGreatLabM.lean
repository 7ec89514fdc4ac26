import Derived.Test.YtcnbifdlkalimabGreatLabA
import Derived.Deep.LoopGhost
import Derived.Test.YtcnbifdlkalimabGreatFlwM
import Derived.Test.YtcnbifdlkalimabGreatWayB
import Derived.Deep.RegionWith
import Derived.Test.YtcnbifdlkalimabGreatPrgM
/- Lemmas for the statement Means; their conditions stand in each. -/
namespace Go.Proofs.YtcnbifdlkalimabGreat
open Go.RowKit Go.Proofs.Tryz
set_option linter.unusedVariables false
set_option maxRecDepth 100000
variable{n x:Int}{A T:Int->Int}{L L':Int->Int->Int}{b hb q:Nat}{W W' lm:Nat->Bool}{h:Nat->Int}{R:Nat->Nat->Bool}{w w1:World}{c t v:ZB}
structure LS(w:World)(b:Nat)(n:Int)(t v c:ZB)(hb:Nat)(R:Nat->Nat->Bool)(m:Nat->Bool)(h:Nat->Int)(L:Int->Int->Int)(W:Nat->Bool):Prop where
 lab:ZP w b n t v c hb R L W
 ht:ZeG w hb m h
 ne:hb≠b
theorem LS.step{m:Nat->Bool}(S:LS w b n t v c hb R m h L W)(hB:Below w.heap.size w w1):LS w1 b n t v c hb R m h L W:=⟨S.lab.step hB,S.ht.step hB,S.ne⟩
theorem LS.to{m:Nat->Bool}(S:LS w b n t v c hb R m h L W)(hB:But b w.heap.size w w1)(H:ZP w1 b n t v c hb R L' W'):LS w1 b n t v c hb R m h L' W':=⟨H,S.ht.but hB S.ne,S.ne⟩
def Zhv(b:Nat)(n:Int)(t v c:ZB)(hb:Nat)(R:Nat->Nat->Bool)(m:Nat->Bool)(h:Nat->Int)(L:Int->Int->Int)(W:Nat->Bool)(Q:(Int->Int->Int)->(Nat->Bool)->Prop)(w:World)(e:Ending)(w':World):Prop:=
 ∃(L':Int->Int->Int) (W':Nat->Bool),e=.returned (.tuple #[])∧LS w' b n t v c hb R m h L' W'∧But b w.heap.size w w'∧Kp (Ris c v t n h L W L' W'∧Q L' W')
theorem Zk7{L1:Int->Int->Int}{W1:Nat->Bool}{p:Nat}{q:Int}{d:Nat}(H:Zam t n)(K:ZbT c v t n h L)(R:Ris c v t n h L W L1 W1)(hd:W p=false->∀e:Nat,e<d->le t n (L p e) (L q e)=true)(hl:le t n (L p d) (L1 q d)=true):W1 p=false->∀e:Nat,e<d+1->le t n (L1 p e) (L1 q e)=true:=by
 intro hw e he
 have hs:=R.rise.same p hw
 rw[hs.2 e]
 by_cases k:e=d
 ·subst k;exact hl
 ·exact H.trans _ _ _ (K.rng _ _) (K.rng _ _) (R.ok.rng _ _) (hd hs.1 e (by omega)) (R.rise.up _ _)
set_option maxHeartbeats 6400000
theorem ZhZ(b:Nat)(n:Int)(t v c:ZB)(hb:Nat)(R:Nat->Nat->Bool)(m:Nat->Bool)(h:Nat->Int)(L:Int->Int->Int)(W:Nat->Bool)(p q:Nat)(w:World)(S:LS w b n t v c hb R m h L W)(F:Kp (Zdj c v t n h))(K:Kp (ZbT c v t n h L))(hp:(p:Int)<half c)(hl:Kp (Live c p))(hq:Kp ((q:Int)∈nxt c p)) :
  Calls prog 219 #[.pointer (some ⟨b,0,none⟩),.int .i64 p,.int .i64 q] w (Zhv b n t v c hb R m h L W (λL' W'=>W' p=false->Zez c v t n h L' p q) w):=by
 have hK:=F.out.hK
 have hc:=F.out.hc
 have hT:=F.out.lat
 have hI:=(F.out.ins (i:=p) (by omega) hp).hi
 obtain⟨p1,p2,p3⟩:=F.out.pops hp hl.out
 have ho:=(Zag c (2*p)).1
 obtain⟨⟨t0,t2⟩,⟨g0,g1⟩,_⟩:=ZeK c p
 have hr:=ZbX F.out.ok
 have he:Edge c p q:=⟨by omega,hp,hq.out⟩
 have hqr:=(hr p q he).2
 have hql:Live c q:=hl.out.step he (by omega)
 have hqh:=F.out.ht.rng q hqr hql
 have hqs:=F.out.ht.step p hp hl.out q hq.out
 rw[QC]at hqs
 obtain⟨sy,hsy⟩:∃sy:Nat,h p-takesAt c p=sy:=⟨(h p-takesAt c p).toNat,by omega⟩
 have hs8:sy<=8:=by omega
 have hs7:givesAt c p=1->sy<8:=by omega
 have hqK:Kp ((q:Int)<=half c∧Live c q):=⟨hqr,hql⟩
 replace he:=Z_ he
 have hhp:h p=sy+takesAt c p:=by omega
 have q0:=S.lab.c0
 have q1:=S.lab.c1
 have q2:=S.lab.c2
 have q3:=S.lab.c3
 clear hqs hqh hql p1 p2 p3
 obtain⟨tk,htk⟩:∃tk,takesAt c p=tk:=⟨_,rfl⟩
 obtain⟨gv,hgv⟩:∃gv,givesAt c p=gv:=⟨_,rfl⟩
 rw[htk]at t0 t2 hhp hsy
 rw[hgv]at g0 g1 hs7
 have hstay:Kp (h p-takesAt c p=sy):=⟨by rw[htk];exact hsy⟩
 replace hsy:=Z_ hsy
 replace hs7:=Z_ hs7
 replace htk:=Z_ htk
 replace hgv:=Z_ hgv
 go_enter func219,ntmps219
 go_wp2_with fail
 refine(Za7 n p t v c _ hc (by omega) hp).mono ?_
 rintro e w1 ⟨rfl,hb1⟩
 have S1:=S.step hb1
 have hB1:But b w.heap.size w w1:=But.of hb1
 clear q0 q1 q2 q3 S hb1
 have qh:=S1.lab.hp
 go_wp2_with fail
 refine(Zo7 hb m h p _ S1.ht (by omega)).mono ?_
 rintro e w2 ⟨rfl,rfl⟩
 rw[hhp]
 go_wp2_with fail
 refine(ZgH (bv c (2*p)) _ ho hI).mono ?_
 rintro e w3 ⟨rfl,rfl⟩
 rw[show takesF (bv c (2*p))=tk from htk.out]
 go_wp2_with fail
 have hR0:Kp (Ris c v t n h L W L W∧(W p=false->∀e:Nat,e<0->le t n (L p e) (L q e)=true)):=⟨Ris.refl hT.lat K.out,λ_ e he=>absurd he (by omega)⟩
 go_loopw [9] (λi wr=>∃(d:Nat) (L':Int->Int->Int) (W':Nat->Bool),i=.int .i64 d∧d<=sy∧LS wr b n t v c hb R m h L' W'∧But b w.heap.size w wr∧Kp (Ris c v t n h L W L' W'∧(W' p=false->∀e:Nat,e<d->le t n (L' p e) (L' q e)=true))) (λi _=>sy-(intOf i).toNat)
 case atStart=>exact⟨0,L,W,rfl,by omega,S1,hB1,hR0⟩
 case round=>
  clear S1 hB1 hR0 qh
  obtain⟨d,L',W',rfl,hd,S',hB',hR'⟩:=hrel
  by_cases hlt:d<sy
  ·have hlt2:(d:Int)<sy:=by omega
   go_wp2_with fail
   refine(ZeX b n t v c hb R L' W' p d _ S'.lab (by omega) (by omega)).mono ?_
   rintro e w4 ⟨rfl,rfl⟩
   go_wp2_with fail
   have hm:Kp (ZbU c v t n h q d (L' p d)):=⟨ZnR hR'.out.1.ok hl.out he.out (by omega) (by rw[QC,hstay.out];exact hlt2)⟩
   refine(Zf5 b n (L' p d) t v c hb R h L' W' q d _ S'.lab hT ⟨hR'.out.1.ok⟩ hm (by omega) (by omega) hqK).mono ?_
   rintro e w5 ⟨L2,W2,rfl,H2,hB2,hR2⟩
   have S2:=S'.to hB2 H2
   have hB3:=hB'.trans (hB2.mono hB'.size)
   have hR3:Kp (Ris c v t n h L W L2 W2∧(W2 p=false->∀e:Nat,e<d+1->le t n (L2 p e) (L2 q e)=true)):=⟨hR'.out.1.trans hT.lat K.out hR2.out.1,Zk7 hT.lat hR'.out.1.ok hR2.out.1 hR'.out.2 hR2.out.2⟩
   clear S' hB' hR' hB2 H2 hR2 hm
   go_wp2_with fail
   go_roundw
   case rel=>exact⟨d+1,L2,W2,by go_num,by omega,S2,hB3,hR3⟩
   case measure=>simp[intOf];omega
  ·have e:d=sy:=by omega
   subst e
   clear hlt hd
   go_wp2_with fail
   refine(Zd4 (bv c (2*p)) _ ho hI).mono ?_
   rintro e w4 ⟨rfl,rfl⟩
   rw[show givesF (bv c (2*p))=gv from hgv.out]
   have hto:Kp (W' p=false->∀e:Int,0<=e->e<h p-takesAt c p->le t n (L' p e) (L' q e)=true):=⟨λhw e e0 e1=>by
    have:=hR'.out.2 hw e.toNat (by rw[hstay.out]at e1;omega)
    rwa [Qj e0]at this⟩
   have hcs:gv=0∨gv=1:=by omega
   rcases hcs with rfl|rfl
   ·have hR3:Kp (Ris c v t n h L W L' W'∧(W' p=false->Zez c v t n h L' p q)):=⟨hR'.out.1,λhw=>⟨λe e0 e1=>hto.out hw e e0 (by rwa [QC]at e1),λhg=>by rw[hgv.out]at hg;omega⟩⟩
    clear hto hR'
    go_wp2_with fail
    first|go_end0|refine Qi (Qp rfl _ _ _) rfl ?_
    exact⟨L',W',rfl,S',hB',hR3⟩
   ·have hs:=hs7.out rfl
    go_wp2_with fail
    refine(ZkN b n t v c hb R L' W' m h p _ S'.lab S'.ht F ⟨hR'.out.1.ok.rng⟩ hp hl).mono ?_
    rintro e w5 ⟨rfl,hb5⟩
    have S5:=S'.step hb5
    have hB5:=hB'.trans (But.of (hb5.mono hB'.size))
    have hI2:=F.out.ins (i:=p) (by omega) hp
    have hm:Kp (ZbU c v t n h q (d:Int) (Zav c v t n h L' p)):=⟨by
     have:=ZnS hT.lat hR'.out.1.ok hl.out he.out hgv.out (λk=>(hI2.vr (.inl k)).2) (λk=>hI2.lv (.inl k))
     rwa [QC,hstay.out]at this⟩
    clear hI2 S' hB' hb5
    go_wp2_with fail
    refine(Zf5 b n (Zav c v t n h L' p) t v c hb R h L' W' q d _ S5.lab hT ⟨hR'.out.1.ok⟩ hm (by omega) (by omega) hqK).mono ?_
    rintro e w6 ⟨L2,W2,rfl,H2,hB2,hR2⟩
    have S2:=S5.to hB2 H2
    have hB3:=hB5.trans (hB2.mono hB5.size)
    have hR3:Kp (Ris c v t n h L W L2 W2∧(W2 p=false->Zez c v t n h L2 p q)):=⟨hR'.out.1.trans hT.lat K.out hR2.out.1,λhw=>by
     have hs:=hR2.out.1.rise.same p hw
     refine⟨λe e0 e1=>?_,λhg=>?_⟩
     ·rw[QC]at e1
      rw[hs.2 e]
      exact hT.lat.trans _ _ _ (hR'.out.1.ok.rng _ _) (hR'.out.1.ok.rng _ _) (hR2.out.1.ok.rng _ _) (hto.out hs.1 e e0 e1) (hR2.out.1.rise.up _ _)
     ·rw[ZhE hs.2,QC,hstay.out]
      exact hR2.out.2⟩
    clear S5 hB5 hB2 H2 hR2 hm hR' hto
    go_wp2_with fail
    first|go_end0|refine Qi (Qp rfl _ _ _) rfl ?_
    exact⟨L2,W2,rfl,S2,hB3,hR3⟩
def ZlC(c:ZB)(R:Nat->Nat->Bool):Prop:=∀z p:Nat,(z:Int)<half c->Live c z->bv c (2*z)=9->p<201->(R z p=true↔(p:Int)<=half c∧Reg c z p)
theorem Zon{z p:Int}(hr:Ranged c)(h0:0<=z)(h1:z<half c)(hl:Live c z)(hR:Reg c z p):Live c p:=by
 obtain⟨j,_,hp⟩:=hR
 refine hp (λx=>Live c x) (λx hx _=>hl.step ⟨h0,h1,hx⟩ ?_) (λx y hx he _=>hx.step he ?_)
 ·have:=(hr z x ⟨h0,h1,hx⟩).1;omega
 ·have:=(hr x y he).1;omega
theorem Zk8(b:Nat)(n:Int)(t v c:ZB)(hb:Nat)(R:Nat->Nat->Bool)(m:Nat->Bool)(h:Nat->Int)(L:Int->Int->Int)(W:Nat->Bool)(z:Nat)(w:World)(S:LS w b n t v c hb R m h L W)(F:Kp (Zdj c v t n h))(hReg:Kp (ZlC c R))(K:Kp (ZbT c v t n h L))(hz:(z:Int)<half c)(hl:Kp (Live c z))(h9:Kp (bv c (2*z)=9)) :
  Calls prog 220 #[.pointer (some ⟨b,0,none⟩),.int .i64 z] w (Zhv b n t v c hb R m h L W (λL' W'=>∀p,0<=p->p<half c->Reg c z p->le t n (zeroLev t n h L z) (L' p (-1))=true) w):=by
 have hh:=(Z4 c).1
 have hK:=F.out.hK
 have hc:=F.out.hc
 have hT:=F.out.lat
 obtain⟨p1,p2,p3⟩:=F.out.pops hz hl.out
 have htk:takesAt c z=1:=by unfold takesAt takesF;rw[h9.out];rfl
 have hr:=ZbX F.out.ok
 obtain⟨d,hd⟩:∃d:Nat,h z-((1:Nat):Int)=d:=⟨(h z-1).toNat,by omega⟩
 have hd8:d<8:=by omega
 have hlv:Kp (Lv n (L z (-1))∧Lv n (L z (h z-((1:Nat):Int)))):=⟨K.out.rng _ _,K.out.rng _ _⟩
 obtain⟨lev,hlev⟩:∃lev,jn t n (L z (-1)) (L z (h z-((1:Nat):Int)))=lev:=⟨_,rfl⟩
 have hzl:Kp (zeroLev t n h L z=lev):=⟨hlev⟩
 have hm:Kp (∀p:Nat,(p:Int)<half c->Reg c z p->ZbU c v t n h p (-1) lev∧Live c p):=⟨λp hp hR=>by
  have:=ZnT hT.lat K.out hl.out (by omega) hz h9.out hR (by omega) (by omega)
  rw[hzl.out]at this
  exact⟨this,Zon hr (by omega) hz hl.out hR⟩⟩
 have hreg2:Kp (∀p:Nat,(p:Int)<half c->(R z p=true↔Reg c z p)):=⟨λp hp=>by
  rw[hReg.out z p hz hl.out h9.out (by omega)]
  exact⟨λk=>k.2,λk=>⟨by omega,k⟩⟩⟩
 clear p1 p2 p3 htk hr hReg
 have hd':Kp _:=⟨hd⟩
 clear hd
 replace hlev:=Z_ hlev
 go_enter func220,ntmps220
 go_wp2_with fail
 refine(ZbY b 1 d n t v c hb R L W m h z _ S.lab S.ht (by omega) hd'.out hd8 (by omega)).mono ?_
 rintro e w1 ⟨rfl,rfl⟩
 go_wp2_with fail
 refine(Zda b n t v c hb R L W z _ S.lab (by omega)).mono ?_
 rintro e w2 ⟨rfl,rfl⟩
 go_wp2_with fail
 refine(ZaS b n (L z (-1)) (L z (h z-((1:Nat):Int))) t v c hb R L W _ S.lab hT hlv.out.1 hlv.out.2).mono ?_
 rintro e w3 ⟨rfl,hb3⟩
 rw[hlev.out]
 have S1:=S.step hb3
 have hB1:But b w2.heap.size w2 w3:=But.of hb3
 have hR0:Kp (Ris c v t n h L W L W∧∀p:Nat,p<0->Reg c z p->le t n lev (L p (-1))=true):=⟨Ris.refl hT.lat K.out,λp hp=>absurd hp (by omega)⟩
 clear S hb3 hlv
 go_wp2_with fail
 go_loopw [6] (λi wr=>∃(p:Nat) (L':Int->Int->Int) (W':Nat->Bool),i=.int .i64 p∧(p:Int)<=half c∧LS wr b n t v c hb R m h L' W'∧But b w2.heap.size w2 wr∧Kp (Ris c v t n h L W L' W'∧∀q:Nat,q<p->Reg c z q->le t n lev (L' q (-1))=true)) (λi _=>(half c).toNat-(intOf i).toNat)
 case atStart=>exact⟨0,L,W,rfl,by omega,S1,hB1,hR0⟩
 case round=>
  clear S1 hB1 hR0
  obtain⟨p,L',W',rfl,hp,S',hB',hR'⟩:=hrel
  have q0:=S'.lab.c0
  have q1:=S'.lab.c1
  have q2:=S'.lab.c2
  have q3:=S'.lab.c3
  go_wp2_with fail
  refine(ZT n t v c _ hc).mono ?_
  rintro e w4 ⟨rfl,hb4⟩
  have S4:=S'.step hb4
  have hB4:=hB'.trans (But.of (hb4.mono hB'.size))
  clear q0 q1 q2 q3 S' hB' hb4
  by_cases hlt:(p:Int)<half c
  ·go_wp2_with fail
   refine(ZhG b n t v c hb R L' W' p z _ S4.lab (by omega) (by omega)).mono ?_
   rintro e w5 ⟨rfl,rfl⟩
   cases hRp:R z p with
   | false=>
    have hR3:Kp (Ris c v t n h L W L' W'∧∀q:Nat,q<p+1->Reg c z q->le t n lev (L' q (-1))=true):=⟨hR'.out.1,λq hq hRq=>by
     by_cases k:q=p
     ·subst k
      rw[(hreg2.out q hlt).2 hRq]at hRp
      exact absurd hRp (by simp)
     ·exact hR'.out.2 q (by omega) hRq⟩
    go_wp2_with fail
    go_roundw
    case rel=>exact⟨p+1,L',W',by go_num,by omega,S4,hB4,hR3⟩
    case measure=>simp[intOf];omega
   | true=>
    have hRg:=(hreg2.out p hlt).1 hRp
    obtain⟨hm1,hl1⟩:=hm.out p hlt hRg
    replace hRp:=Z_ hRp
    replace hm1:=Z_ hm1
    have hpK:Kp ((p:Int)<=half c∧Live c p):=⟨by omega,hl1⟩
    clear hRg hl1
    go_wp2_with fail
    refine(ZkM b n lev t v c hb R h L' W' p _ S4.lab hT ⟨hR'.out.1.ok⟩ hm1 (by omega) hpK).mono ?_
    rintro e w6 ⟨L2,W2,rfl,H2,hB2,hR2⟩
    have S2:=S4.to hB2 H2
    have hB3:=hB4.trans (hB2.mono hB4.size)
    have hR3:Kp (Ris c v t n h L W L2 W2∧∀q:Nat,q<p+1->Reg c z q->le t n lev (L2 q (-1))=true):=⟨hR'.out.1.trans hT.lat K.out hR2.out.1,λq hq hRq=>by
     by_cases k:q=p
     ·subst k;exact hR2.out.2
     ·exact hT.lat.trans _ _ _ hm1.out.1 (hR'.out.1.ok.rng _ _) (hR2.out.1.ok.rng _ _) (hR'.out.2 q (by omega) hRq) (hR2.out.1.rise.up _ _)⟩
    clear S4 hB4 hB2 H2 hR2 hR' hm1
    go_wp2_with fail
    go_roundw
    case rel=>exact⟨p+1,L2,W2,by go_num,by omega,S2,hB3,hR3⟩
    case measure=>simp[intOf];omega
  ·have hR3:Kp (Ris c v t n h L W L' W'∧∀p,0<=p->p<half c->Reg c z p->le t n (zeroLev t n h L z) (L' p (-1))=true):=⟨hR'.out.1,λq q0 q1 hRq=>by
    have e:((q.toNat:Nat):Int)=q:=Qj q0
    have:=hR'.out.2 q.toNat (by omega) (by rw[e];exact hRq)
    rw[e]at this
    rw[hzl.out]
    exact this⟩
   go_wp2_with fail
   first|go_end0|refine Qi (Qp rfl _ _ _) rfl ?_
   exact⟨L',W',rfl,S4,hB4,hR3⟩
theorem Zk9(b:Nat)(n:Int)(t v c:ZB)(hb:Nat)(R:Nat->Nat->Bool)(m:Nat->Bool)(h:Nat->Int)(L:Int->Int->Int)(W:Nat->Bool)(p:Nat)(w:World)(S:LS w b n t v c hb R m h L W)(F:Kp (Zdj c v t n h))(hReg:Kp (ZlC c R))(K:Kp (ZbT c v t n h L))(hp:(p:Int)<half c)(hl:Kp (Live c p)) :
  Calls prog 185 #[.pointer (some ⟨b,0,none⟩),.int .i64 p] w (Zhv b n t v c hb R m h L W (λL' W'=>W' p=false->Handed c v t n h L' p) w):=by
 have hK:=F.out.hK
 have hc:=F.out.hc
 have hT:=F.out.lat
 have hr:Kp (Ranged c):=⟨ZbX F.out.ok⟩
 have hI:Kp (ZsL c v n p):=⟨F.out.ins (by omega) hp⟩
 have hplv:Kp (∀L',ZbT c v t n h L'->Lv n (Zav c v t n h L' p)):=⟨λL' k=>ZgC hT.lat k.rng (λk=>(hI.out.vr (.inl k)).2) (λk=>hI.out.lv (.inl k))⟩
 obtain⟨⟨n1,n2⟩,n3,n4⟩:=ZkT hr.out (k:=p) (by omega) (by omega)
 obtain⟨a1,e1⟩:∃a1:Nat,nx1 c p=a1:=⟨(nx1 c p).toNat,by omega⟩
 obtain⟨a2,e2⟩:∃a2:Nat,nx2 c p=a2:=⟨(nx2 c p).toNat,by omega⟩
 have m1:Kp ((a1:Int)∈nxt c p):=⟨(Zah hp).2 (.inl e1.symm)⟩
 have m2:Kp ((a2:Int)∈nxt c p):=⟨(Zah hp).2 (.inr e2.symm)⟩
 have m3:Kp (∀x,x∈nxt c p->x=a1∨x=a2):=⟨λx hx=>by have:=(Zah hp).1 hx;rwa [e1,e2]at this⟩
 have q0:=S.lab.c0
 have q1:=S.lab.c1
 have q2:=S.lab.c2
 have q3:=S.lab.c3
 go_enter func185,ntmps185
 go_wp2_with fail
 refine(Za0 n p t v c _ hc hK (by omega) (by omega)).mono ?_
 rintro e w1 ⟨rfl,hb1⟩
 have S1:=S.step hb1
 have hB1:But b w.heap.size w w1:=But.of hb1
 rw[e1,e2]
 clear q0 q1 q2 q3 S hb1 e1 e2 n1 n2 n3 n4
 go_wp2_with fail
 refine(ZhZ b n t v c hb R m h L W p a1 _ S1 F K hp hl m1).mono ?_
 rintro e w2 ⟨L1,W1,rfl,S2,hb2,hR1⟩
 have hB2:=hB1.trans (hb2.mono hB1.size)
 clear S1 hB1 hb2
 go_wp2_with fail
 refine(ZhZ b n t v c hb R m h L1 W1 p a2 _ S2 F ⟨hR1.out.1.ok⟩ hp hl m2).mono ?_
 rintro e w3 ⟨L2,W2,rfl,S3,hb3,hR2⟩
 have hB3:=hB2.trans (hb3.mono hB2.size)
 have hR12:Kp (Ris c v t n h L W L2 W2∧(W2 p=false->∀j,j∈nxt c p->Zez c v t n h L2 p j)):=⟨hR1.out.1.trans hT.lat K.out hR2.out.1,λhw j hj=>by
  have hs:=hR2.out.1.rise.same p hw
  rcases m3.out j hj with e|e
  ·subst e;exact(hR1.out.2 hs.1).rise hT.lat hR1.out.1.ok.rng hR2.out.1.ok.rng (hplv.out L1 hR1.out.1.ok) hR2.out.1.rise hw
  ·subst e;exact hR2.out.2 hw⟩
 clear S2 hB2 hb3 hR1 hR2
 have q0:=S3.lab.c0
 have q1:=S3.lab.c1
 have q2:=S3.lab.c2
 have q3:=S3.lab.c3
 go_wp2_with fail
 refine(Za7 n p t v c _ hc (by omega) hp).mono ?_
 rintro e w4 ⟨rfl,hb4⟩
 have S4:=S3.step hb4
 have hB4:=hB3.trans (But.of (hb4.mono hB3.size))
 clear q0 q1 q2 q3 S3 hB3 hb4
 by_cases h9:bv c (2*p)=9
 ·rw[h9]
  go_wp2_with fail
  refine(Zk8 b n t v c hb R m h L2 W2 p _ S4 F hReg ⟨hR12.out.1.ok⟩ hp hl ⟨h9⟩).mono ?_
  rintro e w5 ⟨L3,W3,rfl,S5,hb5,hR3⟩
  have hB5:=hB4.trans (hb5.mono hB4.size)
  have hR:Kp (Ris c v t n h L W L3 W3∧(W3 p=false->Handed c v t n h L3 p)):=⟨hR12.out.1.trans hT.lat K.out hR3.out.1,λhw=>by
   have hs:=hR3.out.1.rise.same p hw
   refine⟨λj hj=>(hR12.out.2 hs.1 j hj).rise hT.lat hR12.out.1.ok.rng hR3.out.1.ok.rng (hplv.out L2 hR12.out.1.ok) hR3.out.1.rise hw,λ_ q q0 q1 hRq=>?_⟩
   rw[ZhF hs.2]
   exact hR3.out.2 q q0 q1 hRq⟩
  clear S4 hB4 hb5 hR12 hR3
  go_wp2_with fail
  first|go_end0|refine Qi (Qp rfl _ _ _) rfl ?_
  exact⟨L3,W3,rfl,S5,hB5,hR⟩
 ·have h9':(bv c (2*p)==9)=false:=Qf.2 h9
  have hR:Kp (Ris c v t n h L W L2 W2∧(W2 p=false->Handed c v t n h L2 p)):=⟨hR12.out.1,λhw=>⟨hR12.out.2 hw,λk=>absurd k h9⟩⟩
  clear hR12
  go_wp2_with fail
  first|go_end0|refine Qi (Qp rfl _ _ _) rfl ?_
  exact⟨L2,W2,rfl,S4,hB4,hR⟩
structure Zbz(c v t:ZB)(n:Int)(h:Nat->Int)(L0:Int->Int->Int)(W0:Nat->Bool)(L:Int->Int->Int)(W:Nat->Bool)(g:Bool)(q:Nat):Prop where
 ok:ZbT c v t n h L
 all:∀i:Nat,(i:Int)<half c->Live c i->W i=false->Handed c v t n h L i
 wl:∀j:Nat,W j=true->(j:Int)<=half c∧Live c j
 no:g=false->W=W0∧L=L0∧∀i:Nat,i<q->W i=false
 yes:g=true->mu t n L W<mu t n L0 W0
 le:mu t n L W<=mu t n L0 W0
theorem Zbz.skip{L0:Int->Int->Int}{W0:Nat->Bool}{g:Bool}(S:Zbz c v t n h L0 W0 L W g q)(hq:W q=false):Zbz c v t n h L0 W0 L W g (q+1):=
 ⟨S.ok,S.all,S.wl,λhg=>⟨(S.no hg).1,(S.no hg).2.1,λi hi=>by
  by_cases e:i=q
  ·subst e;exact hq
  ·exact(S.no hg).2.2 i (by omega)⟩,S.yes,S.le⟩
theorem Zbz.hand{L0:Int->Int->Int}{W0:Nat->Bool}{g:Bool}(F:Zdj c v t n h)(S:Zbz c v t n h L0 W0 L W g q)(hq:W q=true)(hq2:q<201)(R:Ris c v t n h L (λj=>if j=q then false else W j) L' W')(hH:W' q=false->Handed c v t n h L' q):Zbz c v t n h L0 W0 L' W' true (q+1):=by
 have hmu:=Zrn (t:=t) (n:=n) (L:=L) hq2 hq
 have h1:=R.mu
 have h2:=S.le
 refine⟨R.ok,λi hi hl hw=>?_,λj hj=>?_,λhg=>absurd hg (by simp),λ_=>by omega,by omega⟩
 ·by_cases e:i=q
  ·subst e;exact hH hw
  ·have hs:=R.rise.same i hw
   have hw2:W i=false:=by have:=hs.1;simpa [e] using this
   have hI:=F.ins (i:=i) (by omega) hi
   exact(S.all i hi hl hw2).rise F.lat.lat S.ok.rng R.ok.rng (ZgC F.lat.lat S.ok.rng (λk=>(hI.vr (.inl k)).2) (λk=>hI.lv (.inl k))) R.rise hw
 ·rcases R.wl j hj with k|k
  ·by_cases e:j=q
   ·simp[e]at k
   ·simp[e]at k;exact S.wl j k
  ·exact k
theorem Zmw(b:Nat)(n:Int)(t v c:ZB)(hb:Nat)(R:Nat->Nat->Bool)(m:Nat->Bool)(h:Nat->Int)(L0:Int->Int->Int)(W0:Nat->Bool)(w:World)(S0:LS w b n t v c hb R m h L0 W0)(F:Kp (Zdj c v t n h))(hReg:Kp (ZlC c R))(hS0:Kp (Zbz c v t n h L0 W0 L0 W0 false 0)) :
  Calls prog 126 #[.pointer (some ⟨b,0,none⟩)] w λe w'=>
   ∃(g:Bool) (L:Int->Int->Int) (W:Nat->Bool),e=.returned (.bool g)∧LS w' b n t v c hb R m h L W∧But b w.heap.size w w'∧Kp (Zbz c v t n h L0 W0 L W g (half c).toNat):=by
 have hh:=(Z4 c).1
 have hK:=F.out.hK
 have hc:=F.out.hc
 go_enter func126,ntmps126
 go_wp2_with fail
 have hB0:=But.refl b w.heap.size w
 go_loopw [3,4] (λg i wr=>∃(gb:Bool) (p:Nat) (L:Int->Int->Int) (W:Nat->Bool),g=.bool gb∧(p:Int)<=half c∧i=.int .i64 p∧LS wr b n t v c hb R m h L W∧But b w.heap.size w wr∧Kp (Zbz c v t n h L0 W0 L W gb p)) (λ_ i _=>(half c).toNat-(intOf i).toNat)
 case atStart=>exact⟨false,0,L0,W0,rfl,by omega,rfl,S0,hB0,hS0⟩
 case round=>
  clear S0 hB0 hS0
  obtain⟨gb,p,L,W,rfl,hp,rfl,S,hB,hS⟩:=hrel
  have q0:=S.lab.c0
  have q1:=S.lab.c1
  have q2:=S.lab.c2
  have q3:=S.lab.c3
  go_wp2_with fail
  refine(ZT n t v c _ hc).mono ?_
  rintro e w4 ⟨rfl,hb4⟩
  have S4:=S.step hb4
  have hB4:=hB.trans (But.of (hb4.mono hB.size))
  clear q0 q1 q2 q3 S hB hb4
  by_cases hlt:(p:Int)<half c
  ·cases hW:W p with
   | false=>
    have hS2:Kp (Zbz c v t n h L0 W0 L W gb (p+1)):=⟨hS.out.skip hW⟩
    go_wp2_with fail
    refine(ZkS b 42215 W p _ S4.lab.wait (by omega) hW).mono ?_
    rintro e w5 ⟨rfl,rfl⟩
    go_wp2_with fail
    go_roundw
    case rel=>exact⟨gb,p+1,L,W,rfl,by omega,by go_num,S4,hB4,hS2⟩
    case measure=>simp[intOf];omega
   | true=>
    have hl:Kp (Live c p):=⟨(hS.out.wl p hW).2⟩
    go_wp2_with fail
    refine(ZkR b 42215 W p _ S4.lab.wait (by omega) hW).mono ?_
    rintro e w5 ⟨rfl,hw5⟩
    have S5:LS w5 b n t v c hb R m h L (λj=>if j=p then false else W j):=by
     rw[hw5];exact S4.to ((But.refl b _ _).setCell _ _) (S4.lab.setW p (by omega) false)
    have hB5:But b w.heap.size w w5:=by rw[hw5];exact hB4.setCell _ _
    replace hW:=Z_ hW
    clear hw5 S4 hB4
    go_wp2_with fail
    refine(Zk9 b n t v c hb R m h L (λj=>if j=p then false else W j) p _ S5 F hReg ⟨hS.out.ok⟩ hlt hl).mono ?_
    rintro e w6 ⟨L2,W2,rfl,S6,hb6,hR6⟩
    have hB6:=hB5.trans (hb6.mono hB5.size)
    have hS2:Kp (Zbz c v t n h L0 W0 L2 W2 true (p+1)):=⟨hS.out.hand F.out hW.out (by omega) hR6.out.1 hR6.out.2⟩
    clear S5 hB5 hb6 hR6 hS
    go_wp2_with fail
    go_roundw
    case rel=>exact⟨true,p+1,L2,W2,rfl,by omega,by go_num,S6,hB6,hS2⟩
    case measure=>simp[intOf];omega
  ·have e:p=(half c).toNat:=by omega
   have hS2:Kp (Zbz c v t n h L0 W0 L W gb (half c).toNat):=⟨by rw[<-e];exact hS.out⟩
   clear hS
   go_wp2
   go_ret
   exact⟨gb,L,W,rfl,S4,hB4,hS2⟩
structure Settled(c v t:ZB)(n:Int)(h:Nat->Int)(L:Int->Int->Int):Prop where
 ok:ZbT c v t n h L
 all:∀i:Int,0<=i->i<half c->Live c i->Handed c v t n h L i
def ZlD(b:Nat)(n:Int)(t v c:ZB)(hb:Nat)(R:Nat->Nat->Bool)(m:Nat->Bool)(h:Nat->Int)(w:World)(e:Ending)(w':World):Prop:=
 ∃(L:Int->Int->Int) (W:Nat->Bool),e=.returned (.tuple #[])∧LS w' b n t v c hb R m h L W∧But b w.heap.size w w'∧Kp (Settled c v t n h L)
theorem Zla(b:Nat)(n:Int)(t v c:ZB)(hb:Nat)(R:Nat->Nat->Bool)(m:Nat->Bool)(h:Nat->Int)(L0:Int->Int->Int)(W0:Nat->Bool)(w:World)(S0:LS w b n t v c hb R m h L0 W0)(F:Kp (Zdj c v t n h))(hReg:Kp (ZlC c R))(hS0:Kp (Zbz c v t n h L0 W0 L0 W0 false 0)) :
  Calls prog 66 #[.pointer (some ⟨b,0,none⟩)] w (ZlD b n t v c hb R m h w):=by
 have hh:=(Z4 c).1
 go_enter func66,ntmps66
 go_wp2_with fail
 have hB0:=But.refl b w.heap.size w
 go_loopg [2] (mu t n L0 W0+1) (λgm g wr=>∃(gb:Bool) (L:Int->Int->Int) (W:Nat->Bool),g=.bool gb∧gm=mu t n L W+(if gb then 1 else 0)∧LS wr b n t v c hb R m h L W∧But b w.heap.size w wr∧Kp (Zbz c v t n h L W L W false 0)∧Kp (gb=false->∀i:Nat,(i:Int)<half c->W i=false))
 case atStart=>exact⟨true,L0,W0,rfl,by simp,S0,hB0,hS0,⟨λh=>absurd h (by simp)⟩⟩
 case round=>
  clear S0 hB0 hS0
  obtain⟨gb,L,W,rfl,hgm,S,hB,hS,hN⟩:=hrel
  replace hgm:=Z_ hgm
  cases gb
  ·have hE:Kp (Settled c v t n h L):=⟨hS.out.ok,λi h0 h1 hl=>by
    have e:((i.toNat:Nat):Int)=i:=Qj h0
    have:=hS.out.all i.toNat (by rw[e];exact h1) (by rw[e];exact hl) (hN.out rfl i.toNat (by rw[e];exact h1))
    rwa [e]at this⟩
   go_wp2_with fail
   first|go_end0|refine Qi (Qp rfl _ _ _) rfl ?_
   exact⟨L,W,rfl,S,hB,hE⟩
  ·clear hN
   go_wp2_with fail
   refine(Zmw b n t v c hb R m h L W _ S F hReg hS).mono ?_
   rintro e w5 ⟨g,L2,W2,rfl,S5,hb5,hR5⟩
   have hB5:=hB.trans (hb5.mono hB.size)
   clear S hB hb5 hS
   go_wp2_with fail
   go_roundg (mu t n L2 W2+(if g then 1 else 0))
   case measure=>
    have h1:=hgm.out
    have h2:=hR5.out.le
    have h3:=hR5.out.yes
    simp at h1
    cases g
    ·simp;omega
    ·have:=h3 rfl;simp;omega
   case rel=>
    refine⟨g,L2,W2,rfl,rfl,S5,hB5,⟨⟨hR5.out.ok,hR5.out.all,hR5.out.wl,λ_=>⟨rfl,rfl,λi hi=>absurd hi (by omega)⟩,λh=>absurd h (by simp),Qb _⟩⟩,⟨λhg i hi=>?_⟩⟩
    exact(hR5.out.no hg).2.2 i (by omega)
theorem ZrD{s:ZB}(H:Zam s n):Lv n ((ZD (pBot s n) n.toNat).getD 0)∧∀a,Lv n a->le s n ((ZD (pBot s n) n.toNat).getD 0) a=true:=by
 obtain⟨b,hb,hall⟩:=H.bot
 have hp:pBot s n b=true:=Za.2 (λi hi=>hall i ⟨by omega,by omega⟩)
 cases hf:ZD (pBot s n) n.toNat with
 | none=>
  exfalso
  have:∀k:Nat,ZD (pBot s n) k=none->∀i:Nat,i<k->pBot s n i=false:=by
   intro k hk i hi
   cases hx:pBot s n i
   ·rfl
   ·exfalso
    have h1:∃j:Nat,j<=i∧pBot s n j=true∧∀q:Nat,q<j->pBot s n q=false:=by
     have:∀d:Nat,∀i:Nat,i<=d->pBot s n i=true->∃j:Nat,j<=i∧pBot s n j=true∧∀q:Nat,q<j->pBot s n q=false:=by
      intro d
      induction d with
      | zero=>intro i hi hx;exact⟨i,Qb _,hx,λq hq=>by omega⟩
      | succ d ih=>
       intro i hi hx
       by_cases hq:∃q:Nat,q<i∧pBot s n q=true
       ·obtain⟨q,hq1,hq2⟩:=hq
        obtain⟨j,j1,j2,j3⟩:=ih q (by omega) hq2
        exact⟨j,by omega,j2,j3⟩
       ·exact⟨i,Qb _,hx,λq hq1=>by cases hz:pBot s n q;rfl;exact absurd ⟨q,hq1,hz⟩ hq⟩
     exact this i i (Qb _) hx
    obtain⟨j,j1,j2,j3⟩:=h1
    rw[Zaq (i:=j) (by omega) j3 j2]at hk
    exact absurd hk (by simp)
  have h2:=this n.toNat hf b.toNat (by have:=hb.1;have:=hb.2;omega)
  rw[Qj hb.1,hp]at h2
  exact absurd h2 (by simp)
 | some x=>
  obtain⟨x0,x1,x2⟩:=ZaO hf
  refine⟨⟨x0,by simp;omega⟩,λa ha=>?_⟩
  have:=Za.1 x2 a.toNat (by have:=ha.1;have:=ha.2;omega)
  rw[Qj ha.1]at this
  exact this
def Zaz(n:Int)(t v c:ZB)(hb:Nat)(R:Nat->Nat->Bool)(L:Int->Int->Int)(W:Nat->Bool)(j:Nat):Value:=
 if j=0 then .int .i64 n else if j=1 then .string t else if j=2 then .string v else if j=3 then .string c else if j=4 then .pointer (some ⟨hb,0,none⟩)
 else if j<40406 then .bool (R ((j-5)/201) ((j-5)%201)) else if j<40607 then .int .i64 (L ((j:Int)-40406) (-1))
 else if j<42215 then .int .i64 (L (((j-40607)/8:Nat):Int) (((j-40607)%8:Nat):Int)) else .bool (W (j-42215))
theorem Zmx(n:Int)(t v c:ZB)(hb:Nat):prog.built 199 [(0,.agg #[.int .i64 n,.string t,.string v,.string c]),(1,.pointer (some ⟨hb,0,none⟩))]=some (big 42416 (Zaz n t v c hb (λ_ _=>false) (λ_ _=>0) (λ_=>false))):=by kernel_rfl
theorem Zqe(n:Int)(t v c:ZB)(hb:Nat)(R:Nat->Nat->Bool)(L:Int->Int->Int)(W:Nat->Bool)(j:Nat):(Zaz n t v c hb R L W j).oneCell'=true:=by
 unfold Zaz
 repeat (split;rfl)
 rfl
theorem ZP.of_cells(hl:b<w.heap.size)(e:∀j,j<42416->w.cell? ⟨b,j,none⟩=some (Zaz n t v c hb R L W j))(hf:∀j,j<42416->w.frozen? ⟨b,j,none⟩=false):ZP w b n t v c hb R L W:=by
 refine⟨hl,e 0 (by omega),e 1 (by omega),e 2 (by omega),e 3 (by omega),e 4 (by omega),λi j hi hj=>?_,λj hj=>?_,λj d hj hd=>?_,λj hj=>?_,hf⟩
 ·rw[e (5+i*201+j) (by omega)]
  unfold Zaz
  rw[if_neg (by omega),if_neg (by omega),if_neg (by omega),if_neg (by omega),if_neg (by omega),if_pos (by omega),show (5+i*201+j-5)/201=i from by omega,show (5+i*201+j-5)%201=j from by omega]
 ·rw[e (40406+j) (by omega)]
  unfold Zaz
  rw[if_neg (by omega),if_neg (by omega),if_neg (by omega),if_neg (by omega),if_neg (by omega),if_neg (by omega),if_pos (by omega),show ((40406+j:Nat):Int)-40406=(j:Int) from by omega]
 ·rw[e (40607+j*8+d) (by omega)]
  unfold Zaz
  rw[if_neg (by omega),if_neg (by omega),if_neg (by omega),if_neg (by omega),if_neg (by omega),if_neg (by omega),if_neg (by omega),if_pos (by omega),show (40607+j*8+d-40607)/8=j from by omega,show (40607+j*8+d-40607)%8=d from by omega]
 ·rw[e (42215+j) (by omega)]
  unfold Zaz
  rw[if_neg (by omega),if_neg (by omega),if_neg (by omega),if_neg (by omega),if_neg (by omega),if_neg (by omega),if_neg (by omega),if_neg (by omega),show 42215+j-42215=j from by omega]
theorem ZP.congr(h:ZP w b n t v c hb R L W)(e:∀p d:Int,0<=p->p<201->-1<=d->d<8->L p d=L' p d):ZP w b n t v c hb R L' W:=
 ⟨h.lt,h.c0,h.c1,h.c2,h.c3,h.hp,h.r,λj hj=>by rw[<-e j (-1) (by omega) (by omega) (by omega) (by omega)];exact h.pl j hj,λj d hj hd=>by rw[<-e j d (by omega) (by omega) (by omega) (by omega)];exact h.vl j d hj hd,h.wt,h.f⟩
theorem Zmy(h:Room w b 42416)(n:Int)(t v c:ZB)(hb:Nat)(R:Nat->Nat->Bool)(L:Int->Int->Int)(W:Nat->Bool):ZP (w.setCells b 0 (big 42416 (Zaz n t v c hb R L W)).toList) b n t v c hb R L W:=by
 refine ZP.of_cells ?_ (λj hj=>?_) (λj hj=>?_)
 ·have:=(Z2 (But.refl b 0 w) (big 42416 (Zaz n t v c hb R L W)).toList 0).size
  exact Qq h.lt this
 ·have:=ZA w b 0 42416 (Zaz n t v c hb R L W) h.c j hj
  rwa [QT]at this
 ·rw[QQ]
  have:=h.f j hj
  rwa [QT]at this
theorem new2row(w:World)(o1 o2:Obj):((w.alloc o1).alloc o2).heap[w.heap.size+1]?=some o2:=by
 have h:=heap_alloc_last (w.alloc o1) o2
 rw[show (w.alloc o1).heap.size=w.heap.size+1 from by simp]at h
 exact h
theorem Zi8{P:Program}{o:Oper}{a:Act}{K:Act->World->Prop}{Q:Exit->Act->World->Prop}(t:TypeId)(parts:Array (Nat×Operand))(ho:o.op=.build t parts)(l:List (Nat×Value))(hl:(parts.map λ(i,x)=>(i,a.eval x)).toList=l)(arr:Array Value)
  (hf:P.built t l=some arr) (h:K (a.put o.dst (.agg arr)) w):o.wp P a w K Q:=
 Zar t parts ho arr (by rw[hl];exact hf) h
theorem Zh0{P:Program}{op:Oper}{a:Act}{K:Act->World->Prop}{Q:Exit->Act->World->Prop}(ty:TypeId)(x y:Operand)(ho:op.op=.store ty x y)
  (b o n:Nat) (arr:Array Value) (f:Nat->Value) (harr:arr=big n f) (hx:a.eval x=.pointer (some ⟨b,o,none⟩)) (hy:a.eval y=.agg arr) (hi:(P.info? ty).map (·.size)=some n)
  (hc:∀j,j<n->(w.cell? ⟨b,o+j,none⟩).isSome=true) (hf:∀j,j<n->w.frozen? ⟨b,o+j,none⟩=false) (h1:∀j,j<n->(f j).oneCell'=true) (h:K (a.put op.dst undef) (w.setCells b o arr.toList)):op.wp P a w K Q:=by
 subst harr
 exact Zm ty x y ho b o n f hx hy hi hc hf h1 h
def Zq1(b:Nat)(n bot:Int)(t v c:ZB)(hb:Nat)(w:World)(e:Ending)(w':World):Prop:=
 e=.returned (.pointer (some ⟨b,0,none⟩))∧ZP w' b n t v c hb (λ_ _=>false) (λ_ _=>bot) (λ_=>false)∧Below w.heap.size w w'
theorem ZgU(n:Int)(t v c:ZB)(hb:Nat)(w:World)(hT:Zq9 t n) :
  Calls prog 64 #[.agg #[.int .i64 n,.string t,.string v,.string c],.pointer (some ⟨hb,0,none⟩)] w (Zq1 (w.heap.size+1) n ((ZD (pBot t n) n.toNat).getD 0) t v c hb w):=by
 obtain⟨w0,hw0⟩:∃w0,w0=((w.alloc (.cells #[.int .i64 n,.string t,.string v,.string c] 76)).alloc (.cells Tryz.zeroCells199 199)):=⟨_,rfl⟩
 have hsz:w0.heap.size=w.heap.size+2:=by rw[hw0];simp
 have hR0:Room w0 (w.heap.size+1) 42416:=by rw[hw0];exact Room.of_row (new2row _ _ _) Tryz.zeroCells199_size
 have hO0:Own w0 w.heap.size [.int .i64 n,.string t,.string v,.string c]:=by rw[hw0];exact(Own.new4 w _ _ _ _ _).alloc _
 have hB0:Below w.heap.size w w0:=by rw[hw0];exact((Qh _ _).alloc (Qb _) _).alloc (by simp) _
 obtain⟨arr,harr⟩:∃arr,arr=big 42416 (Zaz n t v c hb (λ_ _=>false) (λ_ _=>0) (λ_=>false)):=⟨_,rfl⟩
 have hbuilt:=Zmx n t v c hb
 rw[<-harr]at hbuilt
 obtain⟨w1,hw1⟩:∃w1,w1=w0.setCells (w.heap.size+1) 0 arr.toList:=⟨_,rfl⟩
 have hB:But (w.heap.size+1) w0.heap.size w0 w1:=by rw[hw1];exact Z2 (But.refl _ _ _) _ _
 have H1:ZP w1 (w.heap.size+1) n t v c hb (λ_ _=>false) (λ_ _=>0) (λ_=>false):=by rw[hw1,harr];exact Zmy hR0 _ _ _ _ _ _ _ _
 replace harr:=Z_ harr
 replace hbuilt:=Z_ hbuilt
 have hO1:=hO0.but hB (by omega)
 have hB1:Below w.heap.size w w1:=hB0.trans ((hB.mono hB0.size).below (by omega))
 have hz1:=hB.size
 replace hw0:=Z_ hw0
 replace hw1:=Z_ hw1
 have q0:=hO1.c 0 _ rfl
 have q1:=hO1.c 1 _ rfl
 have q2:=hO1.c 2 _ rfl
 have q3:=hO1.c 3 _ rfl
 clear hO0 hB0 hB
 go_enter func64,ntmps64
 repeat (first|refine Zi8 199 #[(0,.tmp 9),(1,.tmp 10)] rfl [(0,.agg #[.int .i64 n,.string t,.string v,.string c]),(1,.pointer (some ⟨hb,0,none⟩))] (by simp[Act.eval]) arr hbuilt.out ?_|(refine Zh0 199 (.tmp 5) (.tmp 11) rfl (w.heap.size+1) 0 42416 arr (Zaz n t v c hb (λ_ _=>false) (λ_ _=>0) (λ_=>false)) harr.out rfl rfl (by kernel_rfl) (by rw[<-hw0.out];exact hR0.c) (by rw[<-hw0.out];exact hR0.f) (λj _=>Zqe _ _ _ _ _ _ _ _ j) ?_;rw[<-hw0.out,<-hw1.out];dsimp only [Act.put])|go_step)
 refine(Zd7 hT.tab _).mono ?_
 rintro e w2 ⟨rfl,hb2⟩
 have H2:=H1.step hb2
 have hB2:=hB1.trans (hb2.mono hB1.size)
 unfold botI
 obtain⟨bot,hbot⟩:∃bot,(ZD (pBot t n) n.toNat).getD 0=bot:=⟨_,rfl⟩
 rw[hbot]
 replace hbot:=Z_ hbot
 clear q0 q1 q2 q3 hO1 H1 hR0 hB1 hb2 hw0 hw1
 go_wp2_with fail
 go_loopw [15] (λi wr=>∃(p:Nat) (L:Int->Int->Int),i=.int .i64 p∧p<=201∧ZP wr (w.heap.size+1) n t v c hb (λ_ _=>false) L (λ_=>false)∧Below w.heap.size w wr∧Kp (∀q d:Int,0<=q->q<p->-1<=d->d<8->L q d=bot)) (λi _=>201-(intOf i).toNat)
 case atStart=>exact⟨0,_,rfl,by omega,H2,hB2,⟨λq d h0 h1=>by omega⟩⟩
 case round=>
  clear H2 hB2
  obtain⟨p,L,rfl,hp,H,hB,hL⟩:=hrel
  by_cases hlt:p<201
  ·have hlt2:(p:Int)<201:=by omega
   have r0:=H.pl p hlt
   have r1:=H.f (40406+p) (by omega)
   have H3:=H.setP p hlt bot
   have hB3:=hB.setCell (p:=⟨w.heap.size+1,40406+p,none⟩) (by simp) (.int .i64 bot)
   obtain⟨w3,hw3⟩:∃w3,wr.setCell ⟨w.heap.size+1,40406+p,none⟩ (.int .i64 bot)=w3:=⟨_,rfl⟩
   rw[hw3]at H3 hB3
   have hL3:Kp ((∀q d:Int,0<=q->q<p->-1<=d->d<8->Zhq L p (-1) bot q d=bot)∧Zhq L p (-1) bot p (-1)=bot∧∀d:Nat,d<0->Zhq L p (-1) bot p d=bot):=⟨λq d h0 h1 h2 h3=>by rw[ZaZ (by omega)];exact hL.out q d h0 h1 h2 h3,ZbN _ _ _ _,λd hd=>absurd hd (by omega)⟩
   clear H hB hL
   go_wp2_with fail
   go_loopw [22] (λi wr=>∃(e:Nat) (L:Int->Int->Int),i=.int .i64 e∧e<=8∧ZP wr (w.heap.size+1) n t v c hb (λ_ _=>false) L (λ_=>false)∧Below w.heap.size w wr∧Kp ((∀q d:Int,0<=q->q<p->-1<=d->d<8->L q d=bot)∧L p (-1)=bot∧∀d:Nat,d<e->L p d=bot)) (λi _=>8-(intOf i).toNat)
   case atStart=>exact⟨0,_,rfl,by omega,H3,hB3,hL3⟩
   case round=>
    clear H3 hB3 hL3 r0 r1 hw3
    obtain⟨e,L,rfl,he,H,hB,hL⟩:=hrel
    by_cases hlt3:e<8
    ·have hlt4:(e:Int)<8:=by omega
     have r0:=H.vl p e hlt hlt3
     have r1:=H.f (40607+p*8+e) (by omega)
     have H3:=H.setV p e hlt hlt3 bot
     have hB3:=hB.setCell (p:=⟨w.heap.size+1,40607+p*8+e,none⟩) (by simp) (.int .i64 bot)
     have hL3:Kp ((∀q d:Int,0<=q->q<p->-1<=d->d<8->Zhq L p e bot q d=bot)∧Zhq L p e bot p (-1)=bot∧∀d:Nat,d<e+1->Zhq L p e bot p d=bot):=⟨λq d h0 h1 h2 h3=>by rw[ZaZ (by omega)];exact hL.out.1 q d h0 h1 h2 h3,by rw[ZaZ (by omega)];exact hL.out.2.1,λd hd=>by
      by_cases k:d=e
      ·subst k;exact ZbN _ _ _ _
      ·rw[ZaZ (by omega)];exact hL.out.2.2 d (by omega)⟩
     clear H hB hL
     go_wp2_with fail
     go_roundw
     case rel=>exact⟨e+1,_,by go_num,by omega,H3,hB3,hL3⟩
     case measure=>simp[intOf];omega
    ·have hL3:Kp (∀q d:Int,0<=q->q<(p+1:Nat)->-1<=d->d<8->L q d=bot):=⟨λq d h0 h1 h2 h3=>by
      by_cases k:q=p
      ·subst k
       by_cases k2:d=-1
       ·subst k2;exact hL.out.2.1
       ·have:=hL.out.2.2 d.toNat (by omega)
        rwa [Qj (by omega)]at this
      ·exact hL.out.1 q d h0 (by omega) h2 h3⟩
     clear hL
     go_wp2_with fail
     go_roundw
     case rel=>exact⟨p+1,L,by go_num,by omega,H,hB,hL3⟩
     case measure=>simp[intOf];omega
  ·have e:p=201:=by omega
   subst e
   have H3:=H.congr (L':=λ_ _=>bot) (λq d h0 h1 h2 h3=>hL.out q d h0 (by omega) h2 h3)
   go_wp2
   go_ret
   exact⟨rfl,by rw[hbot.out];exact H3,hB⟩
theorem Zoo(n:Int)(t v c:ZB)(w:World)(hc:c.size<=maxLen)(hK:half c<=200)(hr:Kp (Ranged c)) :
  Calls prog 60 #[.agg #[.int .i64 n,.string t,.string v,.string c]] w λe w'=>
   ∃m:Nat->Bool,e=.returned (.agg (big 201 (λj=>.bool (m j))))∧Kp (∀j:Nat,m j=true↔(j:Int)<=half c∧Live c j)∧Below w.heap.size w w':=by
 have hone:Tryz.zeroCells134.all (·.oneCell')=true:=by rw[ZcR];exact Zl6 _ _ rfl
 go_enter func60,ntmps60
 go_wp2_with fail
 rw[Zga _ _ _ 134 (row3 _ _ _ _) hone]
 obtain⟨w0,hw0⟩:∃w0,w0=(((w.alloc (.cells #[.int .i64 n,.string t,.string v,.string c] 76)).alloc (.cells Tryz.zeroCells134 134)).alloc (.cells Tryz.zeroCells134 134)):=⟨_,rfl⟩
 rw[<-hw0]
 have hsz:w0.heap.size=w.heap.size+3:=by rw[hw0];simp
 have hS0:Zal w0 (w.heap.size+1+1) 0 (λ_=>false):=by rw[hw0];exact Zal.of_row (t:=134) (by rw[row3,ZcR])
 have hS1:Zal w0 (w.heap.size+1) 0 (λ_=>false):=by rw[hw0];exact Zal.of_row (t:=134) (by rw[row2,ZcR])
 have hO0:Own w0 w.heap.size [.int .i64 n,.string t,.string v,.string c]:=by
  rw[hw0];exact((Own.new4 w _ _ _ _ _).alloc _).alloc _
 have hB0:Below w.heap.size w w0:=by rw[hw0];exact(((Qh _ _).alloc (Qb _) _).alloc (by simp) _).alloc (by simp;omega) _
 clear hw0 hone
 have q0:=hO0.c 0 _ rfl
 have q1:=hO0.c 1 _ rfl
 have q2:=hO0.c 2 _ rfl
 have q3:=hO0.c 3 _ rfl
 go_wp2_with fail
 have hF:=Zd5 n (-1) (w.heap.size+1+1) 0 t v c hc hK hr 201 (λ_=>false) 0 w0 (Ze4 _ _) hS0 (by have:=(Z4 c).1;omega)
 refine hF.mono ?_
 rintro e w1 ⟨rfl,m,hS2,hB2,hF2⟩
 have hS3:=hS1.but hB2 (by omega)
 have hB3:Below w.heap.size w w1:=hB0.trans ((hB2.mono (by omega)).below (by omega))
 have hlive:Kp (∀j:Nat,m j=true↔(j:Int)<=half c∧Live c j):=⟨λj=>hF2.iff hr.out (λx hx=>by have hx:x=((0:Nat):Int):=hx;omega) j⟩
 clear q0 q1 q2 q3 hS0 hS1 hO0 hB0 hB2 hF2 hF
 have hw2:∃w2:World,w1.setCells (w.heap.size+1) 0 (big 201 (λj=>.bool (m j))).toList=w2:=⟨_,rfl⟩
 obtain⟨w2,hw2⟩:=hw2
 have hcell:Kp (∀j,j<201->w2.cell? ⟨w.heap.size+1,0+j,none⟩=some (.bool (m j))):=⟨by rw[<-hw2];exact ZA w1 (w.heap.size+1) 0 201 (λj=>.bool (m j)) (λj hj=>by rw[hS3.c j hj];rfl)⟩
 have hB4:Below w.heap.size w w2:=by rw[<-hw2];exact Zai hB3 (b:=w.heap.size+1) (by omega) (big 201 (λj=>.bool (m j))).toList 0
 replace hw2:=Z_ hw2
 rename_i K1 a1 K0 a0
 refine a0 _ _ ?_
 repeat (first|refine Zbr 134 (.tmp 3) rfl (w.heap.size+1+1) 0 201 (λj=>.bool (m j)) rfl _ Tryz.underlying134 rfl (by kernel_rfl) hS2.c ?_|(refine Zm 134 (.tmp 2) (.tmp 7) rfl (w.heap.size+1) 0 201 (λj=>.bool (m j)) rfl rfl (by kernel_rfl) (λj hj=>by rw[hS3.c j hj];rfl) hS3.f (λ_ _=>rfl) ?_;rw[hw2.out])|go_step)
 refine Qi (v:=.agg (big 201 (λj=>.bool (m j)))) (ZaK rfl _ w2 (w.heap.size+1) 0 201 (λj=>.bool (m j)) _ rfl Tryz.underlying134 rfl (by kernel_rfl) hcell.out) rfl ⟨m,rfl,hlive,hB4⟩
theorem row4(w w1:World)(o1 o2 o3:Obj)(hb:Below ((w.alloc o1).alloc o2).heap.size ((w.alloc o1).alloc o2) w1):(w1.alloc o3).heap[w.heap.size+1]?=some o2:=by
 have hsz:=hb.size
 rw[Below.heap_alloc w1 o3 (w.heap.size+1) (by simp at hsz;omega),hb.block _ (by simp)]
 have h:=heap_alloc_last (w.alloc o1) o2
 rw[show (w.alloc o1).heap.size=w.heap.size+1 from by simp]at h
 exact h
theorem Zlb(n jn:Int)(i:Nat)(t v c:ZB)(w:World)(hc:c.size<=maxLen)(hK:half c<=200)(hr:Kp (Ranged c))(hi:(i:Int)<half c) :
  Calls prog 124 #[.agg #[.int .i64 n,.string t,.string v,.string c],.int .i64 i,.int .i64 jn] w λe w'=>
   ∃m:Nat->Bool,e=.returned (.agg (big 201 (λj=>.bool (m j))))∧Kp (∀j:Nat,m j=true↔(j:Int)<=half c∧Reach c (λx=>x∈nxt c i) jn j)∧Below w.heap.size w w':=by
 have hone:Tryz.zeroCells134.all (·.oneCell')=true:=by rw[ZcR];exact Zl6 _ _ rfl
 obtain⟨⟨n1,n2⟩,n3,n4⟩:=ZkT hr.out (k:=i) (by omega) (by omega)
 have e1:Kp (nx1 c i=((nx1 c i).toNat:Nat)):=⟨by omega⟩
 have e2:Kp (nx2 c i=((nx2 c i).toNat:Nat)):=⟨by omega⟩
 go_enter func124,ntmps124
 go_wp2_with fail
 refine(Za0 n i t v c _ hc hK (by omega) (by omega)).mono ?_
 rintro e w1 ⟨rfl,hb1⟩
 have hsz1:=hb1.size
 have hO1:=((Own.new4 w (.int .i64 n) (.string t) (.string v) (.string c) 76).alloc (.cells Tryz.zeroCells134 134)).step hb1
 have hR1:=λo3=>row4 w w1 _ _ o3 hb1
 have hB1:Below w.heap.size w w1:=(((Qh _ _).alloc (Qb _) _).alloc (by simp) _).trans (hb1.mono (by simp;omega))
 clear hb1
 rw[show (((w.alloc (.cells #[.int .i64 n,.string t,.string v,.string c] 76)).alloc (.cells Tryz.zeroCells134 134)).heap.size)=w.heap.size+2 from by simp]at hsz1
 go_wp2_with fail
 rw[Zga _ _ _ 134 (heap_alloc_last w1 _) hone]
 obtain⟨w0,hw0⟩:∃w0,w0=w1.alloc (.cells Tryz.zeroCells134 134):=⟨_,rfl⟩
 have hS0:Zal w0 w1.heap.size 0 (λ_=>false):=by rw[hw0];exact Zal.of_row (t:=134) (by rw[heap_alloc_last,ZcR])
 have hS1:Zal w0 (w.heap.size+1) 0 (λ_=>false):=by rw[hw0];exact Zal.of_row (t:=134) (by rw[hR1,ZcR])
 have hO0:=hO1.alloc (.cells Tryz.zeroCells134 134)
 have hB0:Below w.heap.size w w0:=by rw[hw0];exact hB1.alloc hB1.size _
 rw[<-hw0]at hO0 ⊢
 clear hw0 hone hR1 hO1 hB1
 have q0:=hO0.c 0 _ rfl
 have q1:=hO0.c 1 _ rfl
 have q2:=hO0.c 2 _ rfl
 have q3:=hO0.c 3 _ rfl
 go_wp2_with fail
 rw[e1.out]
 refine(Zd5 n jn w1.heap.size 0 t v c hc hK hr 201 (λ_=>false) (nx1 c i).toNat w0 (Ze4 _ _) hS0 (by omega)).mono ?_
 rintro e w2 ⟨rfl,m2,hS2,hB2,hF2⟩
 have hO2:=hO0.but hB2 (by omega)
 have hS12:=hS1.but hB2 (by omega)
 have hBB2:Below w.heap.size w w2:=hB0.trans ((hB2.mono hB0.size).below (by omega))
 replace hF2:=Z_ hF2
 clear q0 q1 q2 q3 hO0 hS0 hS1 hB2 hB0
 have q0:=hO2.c 0 _ rfl
 have q1:=hO2.c 1 _ rfl
 have q2:=hO2.c 2 _ rfl
 have q3:=hO2.c 3 _ rfl
 go_wp2_with fail
 rw[e2.out]
 refine(Zd5 n jn w1.heap.size 0 t v c hc hK hr 201 m2 (nx2 c i).toNat w2 (Ze4 _ _) hS2 (by omega)).mono ?_
 rintro e w3 ⟨rfl,m,hS3,hB3,hF3⟩
 have hS13:=hS12.but hB3 (by omega)
 have hBB3:Below w.heap.size w w3:=hBB2.trans ((hB3.mono hBB2.size).below (by omega))
 have hreg:Kp (∀j:Nat,m j=true↔(j:Int)<=half c∧Reach c (λx=>x∈nxt c i) jn j):=⟨λj=>by
  have hu:=(hF2.out.union hF3).iff hr.out (λx hx=>by rcases hx with hx|hx<;>(have hx:x=_:=hx;omega)) j
  rw[hu]
  have hS:∀x,(One ((nx1 c i).toNat:Nat) x∨One ((nx2 c i).toNat:Nat) x)↔x∈nxt c i:=λx=>by
   rw[Zah hi]
   show (x=_∨x=_)↔_
   rw[<-e1.out,<-e2.out]
  constructor
  ·rintro⟨h1,h2⟩;exact⟨h1,h2.congr (λx hx=>(hS x).1 hx)⟩
  ·rintro⟨h1,h2⟩;exact⟨h1,h2.congr (λx hx=>(hS x).2 hx)⟩⟩
 clear q0 q1 q2 q3 hO2 hS2 hS12 hBB2 hB3 hF2 hF3
 obtain⟨w4,hw4⟩:∃w4:World,w3.setCells (w.heap.size+1) 0 (big 201 (λj=>.bool (m j))).toList=w4:=⟨_,rfl⟩
 have hcell:Kp (∀j,j<201->w4.cell? ⟨w.heap.size+1,0+j,none⟩=some (.bool (m j))):=⟨by rw[<-hw4];exact ZA w3 (w.heap.size+1) 0 201 (λj=>.bool (m j)) (λj hj=>by rw[hS13.c j hj];rfl)⟩
 have hB4:Below w.heap.size w w4:=by rw[<-hw4];exact Zai hBB3 (b:=w.heap.size+1) (by omega) (big 201 (λj=>.bool (m j))).toList 0
 replace hw4:=Z_ hw4
 dsimp only
 repeat (first|refine Zbr 134 (.tmp 9) rfl w1.heap.size 0 201 (λj=>.bool (m j)) rfl _ Tryz.underlying134 rfl (by kernel_rfl) hS3.c ?_|(refine Zm 134 (.tmp 6) (.tmp 25) rfl (w.heap.size+1) 0 201 (λj=>.bool (m j)) rfl rfl (by kernel_rfl) (λj hj=>by rw[hS13.c j hj];rfl) hS13.f (λ_ _=>rfl) ?_;rw[hw4.out])|go_step)
 refine Qi (v:=.agg (big 201 (λj=>.bool (m j)))) (ZaK rfl _ w4 (w.heap.size+1) 0 201 (λj=>.bool (m j)) _ rfl Tryz.underlying134 rfl (by kernel_rfl) hcell.out) rfl ⟨m,rfl,hreg,hB4⟩
theorem Zu.but{b':Nat}{k:Int}(h:Zu w b n t v c k T A)(hb:But b' w.heap.size w w1)(hne:b≠b'):Zu w1 b n t v c k T A:=by
 have e:∀j,w1.cell? ⟨b,j,none⟩=w.cell? ⟨b,j,none⟩:=λj=>hb.cell (p:=⟨b,j,none⟩) h.lt hne
 exact⟨Qq h.lt hb.size,by rw[e];exact h.c0,by rw[e];exact h.c1,by rw[e];exact h.c2,by rw[e];exact h.c3,by rw[e];exact h.k,λj hj=>by rw[e];exact h.t j hj,λj hj=>by rw[e];exact h.a j hj,λj hj=>by rw[hb.frozen (p:=⟨b,j,none⟩) h.lt hne];exact h.f j hj⟩
theorem ZgV(H:WOk c T A)(h:Reach c (One x) (-1) (half c)):0<T x:=by
 have:=h (λy=>0<T y->0<T x) (λy hy _=>by rw[show y=x from hy];exact id) (λy z hy he _ hz=>hy (H.full y z he.1 he.2.1 he.2.2 hz))
 exact this (by rw[H.fin];omega)
def setR(R:Nat->Nat->Bool)(p:Nat)(m:Nat->Bool):Nat->Nat->Bool:=λi j=>if i=p then m j else R i j
theorem ZP.setR(h:ZP w b n t v c hb R L W)(p:Nat)(hp:p<201)(m:Nat->Bool):ZP (w.setCells b (5+p*201) (big 201 (λj=>.bool (m j))).toList) b n t v c hb (setR R p m) L W:=by
 have far:∀j,(j<5+p*201∨5+p*201+201<=j)->(w.setCells b (5+p*201) (big 201 (λj=>.bool (m j))).toList).cell? ⟨b,j,none⟩=w.cell? ⟨b,j,none⟩:=λj hj=>
  World.cell?_setCells_out b _ (5+p*201) w ⟨b,j,none⟩ (λ_ _=>by rw[Zde];exact hj)
 refine⟨?_,?_,?_,?_,?_,?_,λi j hi hj=>?_,λj hj=>?_,λj e hj he=>?_,λj hj=>?_,λj hj=>by rw[QQ];exact h.f j hj⟩
 ·have:=(Z2 (But.refl b 0 w) (big 201 (λj=>Value.bool (m j))).toList (5+p*201)).size
  exact Qq h.lt this
 ·rw[far 0 (by omega)];exact h.c0
 ·rw[far 1 (by omega)];exact h.c1
 ·rw[far 2 (by omega)];exact h.c2
 ·rw[far 3 (by omega)];exact h.c3
 ·rw[far 4 (by omega)];exact h.hp
 ·by_cases e:i=p
  ·subst e
   rw[ZA w b (5+i*201) 201 (λj=>.bool (m j)) (λj hj=>by rw[h.r i j hi hj];rfl) j hj]
   simp[Go.Proofs.YtcnbifdlkalimabGreat.setR]
  ·rw[far _ (by omega),h.r i j hi hj]
   simp[Go.Proofs.YtcnbifdlkalimabGreat.setR,e]
 ·rw[far _ (by omega)];exact h.pl j hj
 ·rw[far _ (by omega)];exact h.vl j e hj he
 ·rw[far _ (by omega)];exact h.wt j hj
structure Zrd(c:ZB)(T A:Int->Int)(lm:Nat->Bool):Prop where
 nar:Narrow c T A
 rng:Ranged c
 live:∀j:Nat,lm j=true↔(j:Int)<=half c∧Live c j
 ends:∀x,Live c x->Reach c (One x) (-1) (half c)
theorem Zrd.reg(F:Zrd c T A lm){z:Nat}(hz:(z:Int)<half c)(hl:Live c z)(m:Nat->Bool)(hm:∀j:Nat,m j=true↔(j:Int)<=half c∧Reach c (λx=>x∈nxt c z) (A z) j)(p:Nat):m p=true↔(p:Int)<=half c∧Reg c z p:=by
 have hlive:∀x,Reach c (One z) (-1) x->Live c x:=λx hx=>hl.trans hx
 have hJ:=ZfS F.rng F.nar (i:=z) (by omega) hz (λx hx=>ZgV F.nar.w (F.ends x (hlive x hx)))
 rw[hm p]
 constructor
 ·rintro⟨h1,h2⟩;exact⟨h1,A z,hJ,h2⟩
 ·rintro⟨h1,j,hj,h2⟩
  have e:=IsJ.unique (F.ends z hl) hJ hj
  exact⟨h1,by rw[e];exact h2⟩
structure ZiA(c:ZB)(lm:Nat->Bool)(R:Nat->Nat->Bool)(W:Nat->Bool)(q:Nat):Prop where
 reg:∀z p:Nat,z<q->(z:Int)<half c->Live c z->bv c (2*z)=9->p<201->(R z p=true↔(p:Int)<=half c∧Reg c z p)
 wait:∀j:Nat,j<201->(W j=true↔j<q∧lm j=true)
def Zq2(b:Nat)(n:Int)(t v c:ZB)(hb:Nat)(L:Int->Int->Int)(lm:Nat->Bool)(w:World)(e:Ending)(w':World):Prop:=
 ∃(R:Nat->Nat->Bool) (W:Nat->Bool),e=.returned (.tuple #[])∧ZP w' b n t v c hb R L W∧But b w.heap.size w w'∧Kp (ZiA c lm R W 201)
theorem ZiA.skip(F:Zrd c T A lm)(S:ZiA c lm R W q)(h:lm q=false):ZiA c lm R W (q+1):=by
 refine⟨λz p hz h1 h2 h3 h4=>?_,λj hj=>?_⟩
 ·by_cases e:z=q
  ·subst e
   rw[(F.live z).2 ⟨by omega,h2⟩]at h
   exact absurd h (by simp)
  ·exact S.reg z p (by omega) h1 h2 h3 h4
 ·rw[S.wait j hj]
  constructor
  ·rintro⟨k1,k2⟩;exact⟨by omega,k2⟩
  ·rintro⟨k1,k2⟩
   by_cases e:j=q
   ·subst e;rw[h]at k2;exact absurd k2 (by simp)
   ·exact⟨by omega,k2⟩
theorem Zh1(S:∀j:Nat,j<201->(W j=true↔j<q∧lm j=true))(h:lm q=true):∀j:Nat,j<201->((if j=q then true else W j)=true↔j<q+1∧lm j=true):=by
 intro j hj
 by_cases e:j=q
 ·subst e;simp[h]
 ·simp[e]
  rw[S j hj]
  constructor
  ·rintro⟨k1,k2⟩;exact⟨by omega,k2⟩
  ·rintro⟨k1,k2⟩;exact⟨by omega,k2⟩
theorem ZiA.plain(S:ZiA c lm R W q)(h:lm q=true)(h9:(q:Int)<half c->bv c (2*q)≠9):ZiA c lm R (λj=>if j=q then true else W j) (q+1):=by
 refine⟨λz p hz h1 h2 h3 h4=>?_,Zh1 S.wait h⟩
 by_cases e:z=q
 ·subst e;exact absurd h3 (h9 h1)
 ·exact S.reg z p (by omega) h1 h2 h3 h4
theorem ZiA.zero(F:Zrd c T A lm)(S:ZiA c lm R W q)(h:lm q=true)(m:Nat->Bool)(hm:∀j:Nat,m j=true↔(j:Int)<=half c∧Reach c (λx=>x∈nxt c q) (A q) j):ZiA c lm (Go.Proofs.YtcnbifdlkalimabGreat.setR R q m) (λj=>if j=q then true else W j) (q+1):=by
 refine⟨λz p hz h1 h2 h3 h4=>?_,Zh1 S.wait h⟩
 by_cases e:z=q
 ·subst e
  rw[<-F.reg h1 h2 m hm p]
  simp[Go.Proofs.YtcnbifdlkalimabGreat.setR]
 ·rw[<-S.reg z p (by omega) h1 h2 h3 h4]
  simp[Go.Proofs.YtcnbifdlkalimabGreat.setR,e]
theorem Zi9(b lb wb:Nat)(n k:Int)(t v c:ZB)(hb:Nat)(T A:Int->Int)(lm:Nat->Bool)(L:Int->Int->Int)(w:World)(hc:c.size<=maxLen)(hK:half c<=200)(H0:ZP w b n t v c hb (λ_ _=>false) L (λ_=>false))(hLm:Zal w lb 0 lm)(hWy:Zu w wb n t v c k T A)(n1:lb≠b)(n2:wb≠b)(F:Kp (Zrd c T A lm)) :
  Calls prog 65 #[.pointer (some ⟨b,0,none⟩),.pointer (some ⟨lb,0,none⟩),.pointer (some ⟨wb,0,none⟩)] w (Zq2 b n t v c hb L lm w):=by
 have hh:=(Z4 c).1
 have hr:Kp (Ranged c):=⟨F.out.rng⟩
 go_enter func65,ntmps65
 go_wp2_with fail
 have hB0:=But.refl b w.heap.size w
 have hS0:Kp (ZiA c lm (λ_ _=>false) (λ_=>false) 0):=⟨λz p hz=>absurd hz (by omega),λj hj=>by simp⟩
 go_loopw [9] (λi wr=>∃(p:Nat) (R:Nat->Nat->Bool) (W:Nat->Bool),i=.int .i64 p∧p<=201∧ZP wr b n t v c hb R L W∧But b w.heap.size w wr∧Kp (ZiA c lm R W p)) (λi _=>201-(intOf i).toNat)
 case atStart=>exact⟨0,_,_,rfl,by omega,H0,hB0,hS0⟩
 case round=>
  clear H0 hB0 hS0
  obtain⟨p,R,W,rfl,hp,H,hB,hS⟩:=hrel
  by_cases hlt:p<201
  ·have hlt2:(p:Int)<201:=by omega
   have hL1:=hLm.but hB n1
   have hW1:=hWy.but hB n2
   cases hlm:lm p with
   | false=>
    have hS2:Kp (ZiA c lm R W (p+1)):=⟨hS.out.skip F.out hlm⟩
    go_wp2_with fail
    refine(Za1 lb 0 lm p _ hL1 hlt).mono ?_
    rintro e w1 ⟨rfl,rfl⟩
    rw[hlm]
    go_wp2_with fail
    go_roundw
    case rel=>exact⟨p+1,R,W,by go_num,by omega,H,hB,hS2⟩
    case measure=>simp[intOf];omega
   | true=>
    have hlv:=(F.out.live p).1 hlm
    have hpK:=hlv.1
    replace hlv:=Z_ hlv
    have hWp:W p=false:=by
     cases hx:W p
     ·rfl
     ·have:=(hS.out.wait p hlt).1 hx;omega
    go_wp2_with fail
    refine(Za1 lb 0 lm p _ hL1 hlt).mono ?_
    rintro e w1 ⟨rfl,rfl⟩
    rw[hlm]
    go_wp2_with fail
    refine(Ze3 b 42215 W p _ H.wait hlt hWp).mono ?_
    rintro e w2 ⟨rfl,hw2⟩
    have H2:=H.setW p hlt true
    have hB2:=hB.setCell (42215+p) (.bool true)
    rw[<-hw2]at H2 hB2
    clear hw2 H hB hL1 hW1
    have q0:=H2.c0
    have q1:=H2.c1
    have q2:=H2.c2
    have q3:=H2.c3
    go_wp2_with fail
    refine(ZpC n p t v c _ hc (by omega) hpK).mono ?_
    rintro e w3 ⟨rfl,hb3⟩
    have H3:=H2.step hb3
    have hB3:=hB2.trans (But.of (hb3.mono hB2.size))
    clear q0 q1 q2 q3 H2 hB2 hb3
    by_cases h9:opP c p=9
    ·have hpK2:(p:Int)<half c:=by
      by_cases e:(p:Int)=half c
      ·unfold opP at h9;rw[if_pos e]at h9;omega
      ·omega
     rw[h9]
     have q0:=H3.c0
     have q1:=H3.c1
     have q2:=H3.c2
     have q3:=H3.c3
     have hW3:=hWy.but hB3 n2
     have hTp:0<T p:=ZgV F.out.nar.w (F.out.ends p hlv.out.2)
     have hd:Below w3.heap.size w3 w3.drew:=(Qh _ _).drew
     have H4:=H3.step hd
     have hW4:=hW3.step hd
     have hB4:=hB3.trans (But.of (hd.mono hB3.size))
     have hbs:∀m:Nat->Bool,(big 201 (λj=>Value.bool (m j))).size=201:=λm=>ZgI _ _
     have hbn:∀m:Nat->Bool,¬big 201 (λj=>Value.bool (m j))=#[]:=λm=>Zrt _ _ (by decide)
     go_wp2_with fail
     go_region_with (first
      | (go_at_call 125;refine(ZgL wb n t v c k T A p _ hW4 hlt hTp).mono ?_;rintro e w5 ⟨rfl,rfl⟩)
      | (go_at_call 124;refine(Zlb n (A p) p t v c _ hc hK hr hpK2).mono ?_;rintro e w6 ⟨mr,rfl,hreg,hb6⟩;have H6:=H4.step hb6)
      | (rw[Zpc _ b (5+p*201) 201 (λj=>.bool (mr j)) (λj hj=>by rw[H6.r p j hlt hj];rfl) (λj hj=>H6.f _ (by omega)) (λ_ _=>rfl)]))
     all_goals
      have H7:=H6.setR p hlt mr
      have hB7:=Z2 (hB4.trans (But.of (hb6.mono hB4.size))) (big 201 (λj=>Value.bool (mr j))).toList (5+p*201)
      have hS2:Kp (ZiA c lm (setR R p mr) (λj=>if j=p then true else W j) (p+1)):=⟨hS.out.zero F.out hlm mr hreg.out⟩
      obtain⟨w7,hw7⟩:∃w7,w6.setCells b (5+p*201) (big 201 (λj=>Value.bool (mr j))).toList=w7:=⟨_,rfl⟩
      rw[hw7]at H7 hB7 ⊢
      clear hw7 H6 hb6 hB4 hB3 H3 H4 hW3 hW4 q0 q1 q2 q3 hreg hbs hbn hd
      go_wp2_with fail
      go_roundw
      case rel=>exact⟨p+1,_,_,by go_num,by omega,H7,hB7,hS2⟩
      case measure=>simp[intOf];omega
    ·have h9':(opP c p==9)=false:=Qf.2 h9
     have hS2:Kp (ZiA c lm R (λj=>if j=p then true else W j) (p+1)):=⟨hS.out.plain hlm (λk1 k2=>h9 (by unfold opP;rw[if_neg (by omega)];exact k2))⟩
     go_wp2_with fail
     go_roundw
     case rel=>exact⟨p+1,R,_,by go_num,by omega,H3,hB3,hS2⟩
     case measure=>simp[intOf];omega
  ·have e:p=201:=by omega
   subst e
   go_wp2_with fail
   first|go_end0|refine Qi (Qp rfl _ _ _) rfl ?_
   exact⟨R,W,rfl,H,hB,hS⟩
theorem Zmz(b:Nat)(n:Int)(t v c:ZB)(hb:Nat)(R:Nat->Nat->Bool)(L:Int->Int->Int)(W:Nat->Bool)(m:Nat->Bool)(h:Nat->Int)(p:Nat)(w:World)(S:LS w b n t v c hb R m h L W)(F:Kp (Zdj c v t n h))(hr:Kp (∀p d,Lv n (L p d)))(hp:(p:Int)<half c)(hl:Kp (Live c p)) :
  Calls prog 127 #[.pointer (some ⟨b,0,none⟩),.int .i64 p] w λe w'=>e=.returned (.bool (ZcK c v t n h L p))∧Below w.heap.size w w':=by
 have hK:=F.out.hK
 have hc:=F.out.hc
 have hv:=F.out.hv
 have hI:=F.out.ins (i:=p) (by omega) hp
 have hP:=F.out.pops hp hl.out
 have hT:=F.out.lat
 have ho:=Zag c (2*p)
 have q0:=S.lab.c0
 have q1:=S.lab.c1
 have q2:=S.lab.c2
 have q3:=S.lab.c3
 have hleak:Kp (ZcK c v t n h L p=if bv c (2*p)=2 then !(le t n (zeroLev t n h L p) (bv v (bv c (2*p+1)))) else if bv c (2*p)=11 then !(le t n (zeroLev t n h L p) (bv c (2*p+1))) else if bv c (2*p)=10 then !(le t n (L p (-1)) (bv c (2*p+1))) else false):=⟨rfl⟩
 have htk:Kp (bv c (2*p)=2∨bv c (2*p)=11->1<=h p):=⟨λk=>by
  have:takesAt c p=1:=by unfold takesAt takesF;rw[if_pos (by omega)]
  omega⟩
 have i1:=hI.hi
 have i2:Kp _:=⟨hI.vr⟩
 have i3:Kp _:=⟨hI.lv⟩
 have ha0:=(Zag c (2*p+1)).1
 clear hI F hl
 go_enter func127,ntmps127
 go_wp2_with fail
 refine(Za7 n p t v c _ hc (by omega) hp).mono ?_
 rintro e w1 ⟨rfl,hb1⟩
 have S1:=S.step hb1
 clear q0 q1 q2 q3 S
 go_wp2_with fail
 refine(Zda b n t v c hb R L W p _ S1.lab (by omega)).mono ?_
 rintro e w2 ⟨rfl,rfl⟩
 obtain⟨op,hop⟩:∃op,bv c (2*p)=op:=⟨_,rfl⟩
 obtain⟨arg,harg⟩:∃arg,bv c (2*p+1)=arg:=⟨_,rfl⟩
 rw[hop]at hleak htk i1 i2 i3 ho ⊢
 rw[harg]at hleak i2 i3 ha0 ⊢
 clear hop harg
 have q0:=S1.lab.c0
 have q1:=S1.lab.c1
 have q2:=S1.lab.c2
 have q3:=S1.lab.c3
 obtain⟨o0,_⟩:=ho
 have hcs:op=2∨op=11∨op=10∨(op=0∨op=1∨op=3∨op=4∨op=5∨op=6∨op=7∨op=8∨op=9):=by omega
 rcases hcs with rfl|rfl|rfl|hcs
 ·obtain⟨a1,a2⟩:=i2.out (.inr rfl)
  have hpl:=hleak.out
  rw[if_pos rfl]at hpl
  replace hpl:=Z_ hpl
  have h1:=htk.out (.inl rfl)
  obtain⟨_,h0,h8⟩:=hP
  obtain⟨d1,hd1⟩:∃d1:Nat,h p-((1:Nat):Int)=d1:=⟨(h p-1).toNat,by omega⟩
  have hd1':d1<8:=by omega
  clear htk hleak i2 i3
  go_wp2_with fail
  refine(ZbY b 1 d1 n t v c hb R L W m h p _ S1.lab S1.ht (by omega) hd1 hd1' (by omega)).mono ?_
  rintro e w3 ⟨rfl,rfl⟩
  go_wp2_with fail
  refine(ZaS b n (L p (-1)) (L p (h p-((1:Nat):Int))) t v c hb R L W _ S1.lab hT (hr.out _ _) (hr.out _ _)).mono ?_
  rintro e w4 ⟨rfl,hb4⟩
  have S4:=S1.step hb4
  have hbb:=hb1.trans (hb4.mono hb1.size)
  have hz:Lv n (zeroLev t n h L p):=hT.lat.jin _ _ (hr.out _ _) (hr.out _ _)
  rw[show jn t n (L p (-1)) (L p (h p-((1:Nat):Int)))=zeroLev t n h L p from rfl]
  obtain⟨z,hzz⟩:∃z,zeroLev t n h L p=z:=⟨_,rfl⟩
  rw[hzz]at hz hpl ⊢
  clear q0 q1 q2 q3 S1 hb1 hb4 hzz
  have q0:=S4.lab.c0
  have q1:=S4.lab.c1
  have q2:=S4.lab.c2
  have q3:=S4.lab.c3
  have hlt4:=S4.lab.lt
  go_wp2_with fail
  go_region_with (first
   | (go_at_call 189;refine(ZhL n arg t v c _ hv ha0 a1).mono ?_;rintro e w5 ⟨rfl,hb5⟩;have r0:w5.cell? ⟨b,0,none⟩=some (.int .i64 n):=(by rw[hb5.cell (p:=⟨b,0,none⟩) (by simpa using hlt4)];simpa using q0);have r1:w5.cell? ⟨b,1,none⟩=some (.string t):=(by rw[hb5.cell (p:=⟨b,1,none⟩) (by simpa using hlt4)];simpa using q1))
   | (go_at_call 101;refine(ZF hT.tab z (bv v arg) _ hz.1 hz.2 a2.1 a2.2).mono ?_;rintro e w6 ⟨rfl,hb6⟩))
  all_goals
   have hd:Below w4.heap.size w4 w4.drew:=(Qh _ _).drew
   have b1:=hbb.trans (hd.mono hbb.size)
   have b2:=b1.trans (hb5.mono b1.size)
   have b3:=b2.trans (hb6.mono b2.size)
   clear hd b1 b2 hb5 hb6 hbb q0 q1 q2 q3 r0 r1 S4
   go_wp2
   go_ret
   exact⟨Zd hpl.out.symm,b3⟩
 ·have a2:=i3.out (.inr rfl)
  have hpl:=hleak.out
  rw[if_neg (by decide),if_pos rfl]at hpl
  replace hpl:=Z_ hpl
  have h1:=htk.out (.inr rfl)
  obtain⟨_,h0,h8⟩:=hP
  obtain⟨d1,hd1⟩:∃d1:Nat,h p-((1:Nat):Int)=d1:=⟨(h p-1).toNat,by omega⟩
  have hd1':d1<8:=by omega
  clear htk hleak i2 i3
  go_wp2_with fail
  refine(ZbY b 1 d1 n t v c hb R L W m h p _ S1.lab S1.ht (by omega) hd1 hd1' (by omega)).mono ?_
  rintro e w3 ⟨rfl,rfl⟩
  go_wp2_with fail
  refine(ZaS b n (L p (-1)) (L p (h p-((1:Nat):Int))) t v c hb R L W _ S1.lab hT (hr.out _ _) (hr.out _ _)).mono ?_
  rintro e w4 ⟨rfl,hb4⟩
  have S4:=S1.step hb4
  have hbb:=hb1.trans (hb4.mono hb1.size)
  have hz:Lv n (zeroLev t n h L p):=hT.lat.jin _ _ (hr.out _ _) (hr.out _ _)
  rw[show jn t n (L p (-1)) (L p (h p-((1:Nat):Int)))=zeroLev t n h L p from rfl]
  obtain⟨z,hzz⟩:∃z,zeroLev t n h L p=z:=⟨_,rfl⟩
  rw[hzz]at hz hpl ⊢
  clear q0 q1 q2 q3 S1 hb1 hb4 hzz
  have q0:=S4.lab.c0
  have q1:=S4.lab.c1
  go_wp2_with fail
  refine(ZF hT.tab z arg _ hz.1 hz.2 a2.1 a2.2).mono ?_
  rintro e w6 ⟨rfl,hb6⟩
  go_wp2
  go_ret
  exact⟨Zd hpl.out.symm,hbb.trans (hb6.mono hbb.size)⟩
 ·have a2:=i3.out (.inl rfl)
  have hpl:=hleak.out
  rw[if_neg (by decide),if_neg (by decide),if_pos rfl]at hpl
  replace hpl:=Z_ hpl
  have hz:=hr.out p (-1)
  clear htk hleak i2 i3
  go_wp2_with fail
  refine(ZF hT.tab (L p (-1)) arg _ hz.1 hz.2 a2.1 a2.2).mono ?_
  rintro e w6 ⟨rfl,hb6⟩
  go_wp2
  go_ret
  exact⟨Zd hpl.out.symm,hb1.trans (hb6.mono hb1.size)⟩
 ·have hpl:=hleak.out
  rw[if_neg (by omega),if_neg (by omega),if_neg (by omega)]at hpl
  replace hpl:=Z_ hpl
  clear htk hleak i2 i3
  rcases hcs with rfl|rfl|rfl|rfl|rfl|rfl|rfl|rfl|rfl
  all_goals
   go_wp2
   go_ret
   exact⟨Zd hpl.out.symm,hb1⟩
def ZeA(f:Nat->Bool)(K x:Int)(ok:Bool):Prop:=
 (ok=true∧0<=x∧x<K∧f x.toNat=true∧∀q:Nat,(q:Int)<x->f q=false)∨(ok=false∧x=0∧∀q:Nat,(q:Int)<K->f q=false)
def ZkF(f:Nat->Bool)(K:Int)(w:World)(e:Ending)(w':World):Prop:=
 ∃(x:Int) (ok:Bool),e=.returned (.tuple #[.int .i64 x,.bool ok])∧Kp (ZeA f K x ok)∧Below w.heap.size w w'
theorem ZcU{f:Nat->Bool}{p:Nat}(h:∀q:Nat,q<p->f q=false)(hp:f p=false):∀q:Nat,q<p+1->f q=false:=by
 intro q hq
 by_cases e:q=p
 ·subst e;exact hp
 ·exact h q (by omega)
theorem Zh2(b lb:Nat)(n:Int)(t v c:ZB)(hb:Nat)(R:Nat->Nat->Bool)(L:Int->Int->Int)(W:Nat->Bool)(m lm:Nat->Bool)(h:Nat->Int)(w:World)(S0:LS w b n t v c hb R m h L W)(hLm:Zal w lb 0 lm)(F:Kp (Zdj c v t n h))(hr:Kp (∀p d,Lv n (L p d)))(hlive:Kp (∀j:Nat,lm j=true->Live c j)) :
  Calls prog 67 #[.pointer (some ⟨b,0,none⟩),.pointer (some ⟨lb,0,none⟩)] w (ZkF (λq=>lm q&&ZcK c v t n h L q) (half c) w):=by
 have hh:=(Z4 c).1
 have hK:=F.out.hK
 have hc:=F.out.hc
 go_enter func67,ntmps67
 go_wp2_with fail
 have hB0:=Qh w.heap.size w
 go_loopw [6] (λi wr=>∃(p:Nat),i=.int .i64 p∧(p:Int)<=half c∧LS wr b n t v c hb R m h L W∧Zal wr lb 0 lm∧Below w.heap.size w wr∧Kp (∀q:Nat,q<p->(lm q&&ZcK c v t n h L q)=false)) (λi _=>(half c).toNat-(intOf i).toNat)
 case atStart=>exact⟨0,rfl,by omega,S0,hLm,hB0,⟨λq hq=>absurd hq (by omega)⟩⟩
 case round=>
  clear S0 hLm hB0
  obtain⟨p,rfl,hp,S,hLm,hB,hN⟩:=hrel
  have q0:=S.lab.c0
  have q1:=S.lab.c1
  have q2:=S.lab.c2
  have q3:=S.lab.c3
  go_wp2_with fail
  refine(ZT n t v c _ hc).mono ?_
  rintro e w4 ⟨rfl,hb4⟩
  have S4:=S.step hb4
  have hL4:=hLm.step hb4
  have hB4:=hB.trans (hb4.mono hB.size)
  clear q0 q1 q2 q3 S hB hb4 hLm
  by_cases hlt:(p:Int)<half c
  ·cases hlm:lm p with
   | false=>
    have hN2:Kp (∀q:Nat,q<p+1->(lm q&&ZcK c v t n h L q)=false):=⟨ZcU (f:=λq=>lm q&&ZcK c v t n h L q) hN.out (by simp[hlm])⟩
    go_wp2_with fail
    refine(Za1 lb 0 lm p _ hL4 (by omega)).mono ?_
    rintro e w1 ⟨rfl,rfl⟩
    rw[hlm]
    go_wp2_with fail
    go_roundw
    case rel=>exact⟨p+1,by go_num,by omega,S4,hL4,hB4,hN2⟩
    case measure=>simp[intOf];omega
   | true=>
    have hlv:Kp (Live c p):=⟨hlive.out p hlm⟩
    go_wp2_with fail
    refine(Za1 lb 0 lm p _ hL4 (by omega)).mono ?_
    rintro e w1 ⟨rfl,rfl⟩
    rw[hlm]
    go_wp2_with fail
    refine(Zmz b n t v c hb R L W m h p _ S4 F hr hlt hlv).mono ?_
    rintro e w5 ⟨rfl,hb5⟩
    have S5:=S4.step hb5
    have hL5:=hL4.step hb5
    have hB5:=hB4.trans (hb5.mono hB4.size)
    clear S4 hL4 hB4 hb5
    cases hk:ZcK c v t n h L p with
    | false=>
     have hN2:Kp (∀q:Nat,q<p+1->(lm q&&ZcK c v t n h L q)=false):=⟨ZcU (f:=λq=>lm q&&ZcK c v t n h L q) hN.out (by simp[hk])⟩
     replace hk:=Z_ hk
     go_wp2_with fail
     go_roundw
     case rel=>exact⟨p+1,by go_num,by omega,S5,hL5,hB5,hN2⟩
     case measure=>simp[intOf];omega
    | true=>
     have hF:Kp (ZeA (λq=>lm q&&ZcK c v t n h L q) (half c) p true):=⟨.inl ⟨rfl,by omega,hlt,by rw[Int.toNat_natCast];simp[hlm,hk],λq hq=>hN.out q (by omega)⟩⟩
     replace hk:=Z_ hk
     go_wp2
     go_ret2
     exact⟨p,true,rfl,hF,hB5⟩
  ·have hF:Kp (ZeA (λq=>lm q&&ZcK c v t n h L q) (half c) 0 false):=⟨.inr ⟨rfl,rfl,λq hq=>hN.out q (by omega)⟩⟩
   go_wp2
   go_ret2
   exact⟨0,false,rfl,hF,hB4⟩
theorem Zh3(lb wb:Nat)(n k:Int)(t v c:ZB)(T A:Int->Int)(lm:Nat->Bool)(w:World)(hc:c.size<=maxLen)(hK:half c<=200)(hLm:Zal w lb 0 lm)(hWy:Zu w wb n t v c k T A) :
  Calls prog 62 #[.agg #[.int .i64 n,.string t,.string v,.string c],.pointer (some ⟨lb,0,none⟩),.pointer (some ⟨wb,0,none⟩)] w (ZkF (λq=>lm q&&!(decide (0<T q))) (half c) w):=by
 have hh:=(Z4 c).1
 have bl:=λo=>(Qh w.heap.size w).alloc (Qb _) o
 have hO0:=Own.new4 w (.int .i64 n) (.string t) (.string v) (.string c) 76
 have hL0:=hLm.step (bl (.cells #[.int .i64 n,.string t,.string v,.string c] 76))
 have hW0:=hWy.step (bl (.cells #[.int .i64 n,.string t,.string v,.string c] 76))
 have hB0:=bl (.cells #[.int .i64 n,.string t,.string v,.string c] 76)
 clear bl hLm hWy
 go_enter func62,ntmps62
 go_wp2_with fail
 go_loopw [8] (λi wr=>∃(p:Nat),i=.int .i64 p∧(p:Int)<=half c∧Own wr w.heap.size [.int .i64 n,.string t,.string v,.string c]∧Zal wr lb 0 lm∧Zu wr wb n t v c k T A∧Below w.heap.size w wr∧Kp (∀q:Nat,q<p->(lm q&&!(decide (0<T q)))=false)) (λi _=>(half c).toNat-(intOf i).toNat)
 case atStart=>exact⟨0,rfl,by omega,hO0,hL0,hW0,hB0,⟨λq hq=>absurd hq (by omega)⟩⟩
 case round=>
  clear hO0 hL0 hW0 hB0
  obtain⟨p,rfl,hp,hO,hL,hW,hB,hN⟩:=hrel
  have q0:=hO.c 0 _ rfl
  have q1:=hO.c 1 _ rfl
  have q2:=hO.c 2 _ rfl
  have q3:=hO.c 3 _ rfl
  go_wp2_with fail
  refine(ZT n t v c _ hc).mono ?_
  rintro e w4 ⟨rfl,hb4⟩
  have hO4:=hO.step hb4
  have hL4:=hL.step hb4
  have hW4:=hW.step hb4
  have hB4:=hB.trans (hb4.mono hB.size)
  clear q0 q1 q2 q3 hO hL hW hB hb4
  by_cases hlt:(p:Int)<half c
  ·cases hlm:lm p with
   | false=>
    have hN2:Kp (∀q:Nat,q<p+1->(lm q&&!(decide (0<T q)))=false):=⟨ZcU (f:=λq=>lm q&&!(decide (0<T q))) hN.out (by simp[hlm])⟩
    go_wp2_with fail
    refine(Za1 lb 0 lm p _ hL4 (by omega)).mono ?_
    rintro e w1 ⟨rfl,rfl⟩
    rw[hlm]
    go_wp2_with fail
    go_roundw
    case rel=>exact⟨p+1,by go_num,by omega,hO4,hL4,hW4,hB4,hN2⟩
    case measure=>simp[intOf];omega
   | true=>
    go_wp2_with fail
    refine(Za1 lb 0 lm p _ hL4 (by omega)).mono ?_
    rintro e w1 ⟨rfl,rfl⟩
    rw[hlm]
    go_wp2_with fail
    refine(ZcS wb n t v c k T A p _ hW4 (by omega)).mono ?_
    rintro e w5 ⟨rfl,rfl⟩
    cases hk:decide (0<T p) with
    | true=>
     have hN2:Kp (∀q:Nat,q<p+1->(lm q&&!(decide (0<T q)))=false):=⟨ZcU (f:=λq=>lm q&&!(decide (0<T q))) hN.out (by simp only[hk];simp)⟩
     replace hk:=Z_ hk
     go_wp2_with fail
     go_roundw
     case rel=>exact⟨p+1,by go_num,by omega,hO4,hL4,hW4,hB4,hN2⟩
     case measure=>simp[intOf];omega
    | false=>
     have hF:Kp (ZeA (λq=>lm q&&!(decide (0<T q))) (half c) p true):=⟨.inl ⟨rfl,by omega,hlt,by rw[QC];simp only[hlm,hk];rfl,λq hq=>hN.out q (by omega)⟩⟩
     replace hk:=Z_ hk
     go_wp2
     go_ret2
     exact⟨p,true,rfl,hF,hB4⟩
  ·have hF:Kp (ZeA (λq=>lm q&&!(decide (0<T q))) (half c) 0 false):=⟨.inr ⟨rfl,rfl,λq hq=>hN.out q (by omega)⟩⟩
   go_wp2
   go_ret2
   exact⟨0,false,rfl,hF,hB4⟩
theorem Zop(hr:Ranged c)(h:Live c x):0<=x∧x<=half c:=
 h (λx=>0<=x∧x<=half c) (λx hx _=>by have hx:x=0:=hx;have:=(Z4 c).1;omega) (λx y _ he _=>hr x y he)
theorem Zlc(H:WOk c T A)(hl:∀j:Nat,lm j=true↔(j:Int)<=half c∧Live c j)(h:ZeA (λq=>lm q&&!(decide (0<T q))) (half c) x true):Trap c x∧∀q,q<x->¬Trap c q:=by
 rcases h with ⟨_,h0,h1,h2,h3⟩|⟨h,_⟩
 ·have e:((x.toNat:Nat):Int)=x:=Qj h0
  simp only[Qr,Bool.not_eq_true',decide_eq_false_iff_not]at h2
  have hlv:=(hl x.toNat).1 h2.1
  rw[e]at hlv h2
  refine⟨⟨⟨h0,by omega⟩,hlv.2,λhR=>h2.2 (ZgV H hR)⟩,λq hq ht=>?_⟩
  have e2:((q.toNat:Nat):Int)=q:=Qj ht.1.1
  have h4:=h3 q.toNat (by omega)
  have h5:=(hl q.toNat).2 ⟨by omega,by rw[e2];exact ht.2.1⟩
  simp only[h5,Un,Bool.not_eq_false',decide_eq_true_iff]at h4
  rw[e2]at h4
  exact ht.2.2 (H.ends q h4)
 ·exact absurd h (by simp)
theorem ZmA(H:WOk c T A)(hl:∀j:Nat,lm j=true↔(j:Int)<=half c∧Live c j)(h:ZeA (λq=>lm q&&!(decide (0<T q))) (half c) x false):∀q,¬Trap c q:=by
 rcases h with ⟨h,_⟩|⟨_,_,h3⟩
 ·exact absurd h (by simp)
 ·intro q ht
  have h0:=ht.1.1
  have e2:((q.toNat:Nat):Int)=q:=Qj h0
  by_cases k:q=half c
  ·exact ht.2.2 (Reach.start k.symm (by omega))
  ·have h4:=h3 q.toNat (by have:=ht.1.2;omega)
   have h5:=(hl q.toNat).2 ⟨by have:=ht.1.2;omega,by rw[e2];exact ht.2.1⟩
   simp only[h5,Un,Bool.not_eq_false',decide_eq_true_iff]at h4
   rw[e2]at h4
   exact ht.2.2 (H.ends q h4)
theorem ZP.congrW(h:ZP w b n t v c hb R L W)(e:∀j,j<201->W j=W' j):ZP w b n t v c hb R L W':=
 ⟨h.lt,h.c0,h.c1,h.c2,h.c3,h.hp,h.r,h.pl,h.vl,λj hj=>by rw[<-e j hj];exact h.wt j hj,h.f⟩
structure Zf2(c v t:ZB)(n:Int):Prop where
 hc:c.size<=maxLen
 hv:v.size<=maxLen
 hK:half c<=200
 ok:Zc8 c v n=true
 vars:∀k:Int,0<=k->k<v.size->Lv n (bv v k)
 lat:Zq9 t n
theorem Zf2.code(F:Zf2 c v t n)(H:Zr c h):Zdj c v t n h:=⟨F.hc,F.hv,F.hK,F.ok,F.vars,H,F.lat⟩
theorem Zoq(F:Zf2 c v t n)(H:Zr c h)(hl:∀j:Nat,lm j=true↔(j:Int)<=half c∧Live c j)(S:ZiA c lm R W 201) :
  Zbz c v t n h (λ_ _=>(ZD (pBot t n) n.toNat).getD 0) (λj=>if j<201 then W j else false) (λ_ _=>(ZD (pBot t n) n.toNat).getD 0) (λj=>if j<201 then W j else false) false 0∧ZlC c R:=by
 have hK:=F.hK
 have hb:=ZrD F.lat.lat
 refine⟨⟨⟨λ_ _=>hb.1,λ_ _ u hu _=>hb.2 u hu⟩,λi hi hlv hw=>?_,λj hj=>?_,λ_=>⟨rfl,rfl,λi hi=>absurd hi (by omega)⟩,λh=>absurd h (by simp),Qb _⟩,λz p h1 h2 h3 h4=>S.reg z p (by omega) h1 h2 h3 h4⟩
 ·have:W i=true:=(S.wait i (by omega)).2 ⟨by omega,(hl i).2 ⟨by omega,hlv⟩⟩
  rw[if_pos (by omega),this]at hw
  exact absurd hw (by simp)
 ·by_cases k:j<201
  ·rw[if_pos k]at hj
   exact(hl j).1 ((S.wait j k).1 hj).2
  ·rw[if_neg k]at hj
   exact absurd hj (by simp)
theorem Zld(F:Zf2 c v t n)(H:Zr c h)(hl:∀j:Nat,lm j=true↔(j:Int)<=half c∧Live c j)(S:Settled c v t n h L) :
  ∀q:Nat,(q:Int)<half c->((lm q&&ZcK c v t n h L q)=true↔Breaks c v t n h q):=by
 have F2:=F.code H
 have full:∀a p d,Lv n a->Flow c v h a p d->(d=-1∧¬p<half c)∨le t n a (L p d)=true:=λa p d hla hf=>
  ZiL F.lat.lat S.ok H (λi h0 h1 k=>((F2.ins h0 h1).vr (.inl k)).2) (λi h0 h1 k=>(F2.ins h0 h1).lv (.inl k)) S.all hla hf
 intro q hq
 have key:=λhlv=>ZnU F.lat.lat S.ok H (λi h0 h1 k=>((F2.ins h0 h1).vr (.inr k)).2) (λi h0 h1 k=>(F2.ins h0 h1).lv k) full (i:=q) (by omega) hq hlv
 rw[Qr]
 constructor
 ·rintro⟨k1,k2⟩
  exact(key ((hl q).1 k1).2).1 k2
 ·intro k
  exact⟨(hl q).2 ⟨by omega,k.2.1⟩,(key k.2.1).2 k⟩
theorem ZgW{ok:Bool}(F:Zf2 c v t n)(H:Zr c h)(hl:∀j:Nat,lm j=true↔(j:Int)<=half c∧Live c j)(S:Settled c v t n h L)(hno:∀q,¬Trap c q)(hf:ZeA (λq=>lm q&&ZcK c v t n h L q) (half c) x ok):ZdW c v t n x (if ok then 9 else 0):=by
 have key:=Zld F H hl S
 refine .inr ⟨hno,.inr ⟨h,H,?_⟩⟩
 rcases hf with ⟨rfl,h0,h1,h2,h3⟩|⟨rfl,rfl,h3⟩
 ·refine .inl ⟨rfl,?_,λq hq hb=>?_⟩
  ·have e:((x.toNat:Nat):Int)=x:=Qj h0
   have:=(key x.toNat (by rw[e];exact h1)).1 h2
   rwa [e]at this
  ·have e:((q.toNat:Nat):Int)=q:=Qj hb.1.1
   have h4:(lm q.toNat&&ZcK c v t n h L (q.toNat:Nat))=false:=h3 q.toNat (by rw[e];exact hq)
   have h5:=(key q.toNat (by rw[e];exact hb.1.2)).2 (by rw[e];exact hb)
   rw[h5]at h4
   exact absurd h4 (by simp)
 ·refine .inr ⟨rfl,rfl,λq hb=>?_⟩
  have e:((q.toNat:Nat):Int)=q:=Qj hb.1.1
  have h4:(lm q.toNat&&ZcK c v t n h L (q.toNat:Nat))=false:=h3 q.toNat (by rw[e];exact hb.1.2)
  have h5:=(key q.toNat (by rw[e];exact hb.1.2)).2 (by rw[e];exact hb)
  rw[h5]at h4
  exact absurd h4 (by simp)
def ZnC(c v t:ZB)(n:Int)(w:World)(e:Ending)(w':World):Prop:=
 ∃p x:Int,e=.returned (.tuple #[.int .i64 p,.int .i64 x])∧Kp (ZdW c v t n p x)∧Below w.heap.size w w'
theorem Zle(n:Int)(t v c:ZB)(w:World)(F:Kp (Zf2 c v t n)) :
  Calls prog 25 #[.agg #[.int .i64 n,.string t,.string v,.string c]] w (ZnC c v t n w):=by
 have hh:=(Z4 c).1
 have hc:=F.out.hc
 have hK:=F.out.hK
 have hr:Kp (Ranged c):=⟨ZbX F.out.ok⟩
 have hop:Kp (∀i:Int,0<=i->i<half c->bv c (2*i)<=11):=⟨λi h0 h1=>by have:=QB (Zo5 F.out.ok h0 h1);omega⟩
 have hO0:=Own.new4 w (.int .i64 n) (.string t) (.string v) (.string c) 76
 have hB0:=(Qh w.heap.size w).alloc (Qb _) (.cells #[.int .i64 n,.string t,.string v,.string c] 76)
 go_enter func25,ntmps25
 go_wp2_with fail
 refine(Zoo n t v c _ hc hK hr).mono ?_
 rintro e w1 ⟨lm,rfl,hlm,hb1⟩
 have hO1:=hO0.step hb1
 have hB1:=hB0.trans (hb1.mono hB0.size)
 have hz1:=hO1.lt
 clear hO0 hB0 hb1
 -- live
 obtain⟨w2,hw2⟩:∃w2,w2=w1.alloc (.cells Tryz.zeroCells134 134):=⟨_,rfl⟩
 have hR2:Room w2 w1.heap.size 201:=by rw[hw2];exact Room.of_row (heap_alloc_last _ _) (by kernel_rfl)
 have hb2:Below w1.heap.size w1 w2:=by rw[hw2];exact(Qh _ _).alloc (Qb _) _
 obtain⟨w3,hw3⟩:∃w3,w3=w2.setCells w1.heap.size 0 (big 201 (λj=>.bool (lm j))).toList:=⟨_,rfl⟩
 have hb3:Below w1.heap.size w2 w3:=by rw[hw3];exact Zai (Qh _ _) (Qb _) _ 0
 have hLm3:Zal w3 w1.heap.size 0 lm:=by
  rw[hw3]
  refine⟨?_,λj hj=>ZA w2 w1.heap.size 0 201 (λj=>.bool (lm j)) hR2.c j hj,λj hj=>by rw[QQ];exact hR2.f j hj⟩
  have:=(Z2 (But.refl w1.heap.size 0 w2) (big 201 (λj=>Value.bool (lm j))).toList 0).size
  exact Qq hR2.lt this
 have hO3:=hO1.step (hb2.trans hb3)
 have hB3:=hB1.trans ((hb2.trans hb3).mono hB1.size)
 replace hw2:=Z_ hw2
 replace hw3:=Z_ hw3
 dsimp only
 have q0:=hO3.c 0 _ rfl
 have q1:=hO3.c 1 _ rfl
 have q2:=hO3.c 2 _ rfl
 have q3:=hO3.c 3 _ rfl
 clear hO1 hB1 hb2 hb3
 repeat (first|(refine Zm 134 (.tmp 4) (.tmp 12) rfl w1.heap.size 0 201 (λj=>.bool (lm j)) rfl rfl (by kernel_rfl) (by rw[<-hw2.out];exact hR2.c) (by rw[<-hw2.out];exact hR2.f) (λ_ _=>rfl) ?_;rw[<-hw2.out,<-hw3.out];dsimp only [Act.put])|go_step)
 refine(ZkY n t v c _ hc hK hr).mono ?_
 rintro e w4 ⟨k,T,A,rfl,hN,hb4⟩
 have hO4:=hO3.step hb4
 have hLm4:=hLm3.step hb4
 have hB4:=hB3.trans (hb4.mono hB3.size)
 have hz4:=hLm4.lt
 clear q0 q1 q2 q3 hO3 hB3 hLm3 hb4 hw2 hw3 hR2
 -- ways
 obtain⟨w5,hw5⟩:∃w5,w5=w4.alloc (.cells Tryz.zeroCells138 138):=⟨_,rfl⟩
 have hR5:Room w5 w4.heap.size 407:=by rw[hw5];exact Room.of_row (heap_alloc_last _ _) (by kernel_rfl)
 have hb5:Below w4.heap.size w4 w5:=by rw[hw5];exact(Qh _ _).alloc (Qb _) _
 obtain⟨w6,hw6⟩:∃w6,w6=w5.setCells w4.heap.size 0 (big 407 (ZI n t v c k T A)).toList:=⟨_,rfl⟩
 have hb6:Below w4.heap.size w5 w6:=by rw[hw6];exact Zai (Qh _ _) (Qb _) _ 0
 have hWy6:Zu w6 w4.heap.size n t v c k T A:=by rw[hw6];exact Zgc hR5 n t v c k T A
 have hO6:=hO4.step (hb5.trans hb6)
 have hLm6:=hLm4.step (hb5.trans hb6)
 have hB6:=hB4.trans ((hb5.trans hb6).mono hB4.size)
 replace hw5:=Z_ hw5
 replace hw6:=Z_ hw6
 dsimp only
 have q0:=hO6.c 0 _ rfl
 have q1:=hO6.c 1 _ rfl
 have q2:=hO6.c 2 _ rfl
 have q3:=hO6.c 3 _ rfl
 clear hO4 hB4 hb5 hb6 hLm4
 repeat (first|(refine Zm 138 (.tmp 5) (.tmp 14) rfl w4.heap.size 0 407 (ZI n t v c k T A) rfl rfl (by kernel_rfl) (by rw[<-hw5.out];exact hR5.c) (by rw[<-hw5.out];exact hR5.f) (λj _=>ZiX _ _ _ _ _ _ _ j) ?_;rw[<-hw5.out,<-hw6.out];dsimp only [Act.put])|go_step)
 refine(Zh3 w1.heap.size w4.heap.size n k t v c T A lm _ hc hK hLm6 hWy6).mono ?_
 rintro e w7 ⟨x,ok,rfl,hF7,hb7⟩
 have hO7:=hO6.step hb7
 have hLm7:=hLm6.step hb7
 have hWy7:=hWy6.step hb7
 have hB7:=hB6.trans (hb7.mono hB6.size)
 clear q0 q1 q2 q3 hO6 hB6 hLm6 hWy6 hb7 hw5 hw6 hR5
 cases ok with
 | true=>
  have hA:Kp (ZdW c v t n x 7):=⟨.inl ⟨rfl,Zlc hN.out.w hlm.out hF7.out⟩⟩
  go_wp2
  go_ret2
  exact⟨x,7,rfl,hA,hB7⟩
 | false=>
  have hno:Kp (∀q,¬Trap c q):=⟨ZmA hN.out.w hlm.out hF7.out⟩
  have hWF:Kp (Zrd c T A lm):=⟨hN.out,hr.out,hlm.out,λx hx=>by
   have hx2:=Zop hr.out hx
   by_cases hR:Reach c (One x) (-1) (half c)
   ·exact hR
   ·exact absurd ⟨hx2,hx,hR⟩ (hno.out x)⟩
  have q0:=hO7.c 0 _ rfl
  have q1:=hO7.c 1 _ rfl
  have q2:=hO7.c 2 _ rfl
  have q3:=hO7.c 3 _ rfl
  go_wp2_with fail
  refine(ZgB n t v c _ hc hK hr hop).mono ?_
  rintro e w8 ⟨m,h,hE8,hb8⟩
  have hO8:=hO7.step hb8
  have hLm8:=hLm7.step hb8
  have hWy8:=hWy7.step hb8
  have hB8:=hB7.trans (hb8.mono hB7.size)
  clear q0 q1 q2 q3 hO7 hB7 hLm7 hWy7 hb8
  -- heights
  obtain⟨w9,hw9⟩:∃w9,w9=w8.alloc (.cells Tryz.zeroCells144 144):=⟨_,rfl⟩
  have hR9:Room w9 w8.heap.size 402:=by rw[hw9];exact Room.of_row (heap_alloc_last _ _) (by kernel_rfl)
  have hb9:Below w8.heap.size w8 w9:=by rw[hw9];exact(Qh _ _).alloc (Qb _) _
  obtain⟨wa,hwa⟩:∃wa,wa=w9.setCells w8.heap.size 0 (big 402 (ZE m h)).toList:=⟨_,rfl⟩
  have hba:Below w8.heap.size w9 wa:=by rw[hwa];exact Zai (Qh _ _) (Qb _) _ 0
  have hHt:ZeG wa w8.heap.size m h:=by rw[hwa];exact ZjO hR9 m h
  have hOa:=hO8.step (hb9.trans hba)
  have hLma:=hLm8.step (hb9.trans hba)
  have hWya:=hWy8.step (hb9.trans hba)
  have hBa:=hB8.trans ((hb9.trans hba).mono hB8.size)
  have hzl:=hLm8.lt
  have hzw:=hWy8.lt
  replace hw9:=Z_ hw9
  replace hwa:=Z_ hwa
  have q0:=hOa.c 0 _ rfl
  have q1:=hOa.c 1 _ rfl
  have q2:=hOa.c 2 _ rfl
  have q3:=hOa.c 3 _ rfl
  clear hO8 hB8 hb9 hba hLm8 hWy8
  rcases hE8 with ⟨rfl,hH⟩|⟨rfl,hH⟩
  ·dsimp only
   repeat (first|(refine Zm 144 (.tmp 8) (.tmp 25) rfl w8.heap.size 0 402 (ZE m h) rfl rfl (by kernel_rfl) (by rw[<-hw9.out];exact hR9.c) (by rw[<-hw9.out];exact hR9.f) (λj _=>ZhD _ _ j) ?_;rw[<-hw9.out,<-hwa.out];dsimp only [Act.put])|go_step)
   have hCF:Kp (Zdj c v t n h):=⟨F.out.code hH.out⟩
   have hza:=hHt.s.lt
   refine(ZgU n t v c w8.heap.size wa F.out.lat).mono ?_
   rintro e wb ⟨rfl,hLab,hbb⟩
   have hHtb:=hHt.step hbb
   have hLmb:=hLma.step hbb
   have hWyb:=hWya.step hbb
   have hBb:=hBa.trans (hbb.mono hBa.size)
   clear q0 q1 q2 q3 hOa hBa hLma hWya hHt hbb hw9 hwa hR9
   go_wp2_with fail
   refine(Zi9 (wa.heap.size+1) w1.heap.size w4.heap.size n k t v c w8.heap.size T A lm _ wb hc hK hLab hLmb hWyb (by omega) (by omega) hWF).mono ?_
   rintro e wc ⟨R,W,rfl,hLabc,hbc,hRS⟩
   have hLmc:=hLmb.but hbc (by omega)
   have hHtc:=hHtb.but hbc (by omega)
   have hzb:w.heap.size<=wb.heap.size:=hBb.size
   have hzww:w.heap.size<=wa.heap.size+1:=by omega
   have hBc:=hBb.trans ((hbc.mono hzb).below hzww)
   have hbeg:Kp _:=⟨Zoq F.out hH.out hlm.out hRS.out⟩
   have hRO:Kp (ZlC c R):=⟨hbeg.out.2⟩
   have hLS:LS wc (wa.heap.size+1) n t v c w8.heap.size R m h (λ_ _=>(ZD (pBot t n) n.toNat).getD 0) (λj=>if j<201 then W j else false):=⟨hLabc.congrW (λj hj=>by rw[if_pos hj]),hHtc,by omega⟩
   clear hLab hLmb hWyb hHtb hBb hbc hLabc hHtc
   go_wp2_with fail
   refine(Zla (wa.heap.size+1) n t v c w8.heap.size R m h _ _ wc hLS hCF hRO ⟨hbeg.out.1⟩).mono ?_
   rintro e wd ⟨L,Wd,rfl,hLSd,hbd,hSet⟩
   have hLmd:=hLmc.but hbd (by omega)
   have hzc:w.heap.size<=wc.heap.size:=hBc.size
   have hBd:=hBc.trans ((hbd.mono hzc).below hzww)
   clear hLS hLmc hBc hbd hbeg
   go_wp2_with fail
   refine(Zh2 (wa.heap.size+1) w1.heap.size n t v c w8.heap.size R L Wd m lm h wd hLSd hLmd hCF ⟨hSet.out.ok.rng⟩ ⟨λj hj=>((hlm.out j).1 hj).2⟩).mono ?_
   rintro e we ⟨y,ok,rfl,hFe,hbe⟩
   have hBe:=hBd.trans (hbe.mono hBd.size)
   have hA:Kp (ZdW c v t n y (if ok then 9 else 0)):=⟨ZgW F.out hH.out hlm.out hSet.out hno.out hFe.out⟩
   have hy:Kp (ok=false->y=0):=⟨λk=>by
    rcases hFe.out with ⟨h1,_⟩|⟨_,h2,_⟩
    ·rw[k]at h1;exact absurd h1 (by simp)
    ·exact h2⟩
   clear hLSd hLmd hBd hbe hFe
   cases ok with
   | true=>
    go_wp2
    go_ret2
    exact⟨y,9,rfl,hA,hBe⟩
   | false=>
    have h0:=hy.out rfl
    subst h0
    go_wp2
    go_ret2
    exact⟨0,0,rfl,hA,hBe⟩
  ·have hA:Kp (ZdW c v t n 0 8):=⟨.inr ⟨hno.out,.inl ⟨rfl,rfl,hH.out⟩⟩⟩
   dsimp only
   repeat (first|(refine Zm 144 (.tmp 8) (.tmp 25) rfl w8.heap.size 0 402 (ZE m h) rfl rfl (by kernel_rfl) (by rw[<-hw9.out];exact hR9.c) (by rw[<-hw9.out];exact hR9.f) (λj _=>ZhD _ _ j) ?_;rw[<-hw9.out,<-hwa.out];dsimp only [Act.put])|go_step)
   go_wp2
   go_ret2
   exact⟨0,8,rfl,hA,hBa⟩
theorem ZmB{s:ZB}(hs:s.size<=maxLen)(h:scanE s=0):Zf2 (ZQ s) (ZZ s) (fTab s) (bv s 1):=by
 have hps:=Zc9 hs
 rcases ZcP s with ⟨_,k⟩|⟨_,_,k⟩|⟨_,_,k3,k⟩|⟨_,_,_,_,k⟩|⟨k1,k2,k3,k4,k5⟩
 ·omega
 ·omega
 ·omega
 ·omega
 ·unfold fOk at k2
  rw[Qr,Qr,Qr]at k2
  obtain⟨f1,f2,f3,_⟩:=k2
  obtain⟨t1,t2,_⟩:=ZeJ f1
  unfold vOk at f2
  rw[Qr]at f2
  obtain⟨c1,c2,c3⟩:=Zn0 f3
  have hsz:((ZQ s).size:Int)=2*bv (fR2 s) 0:=ZiP (by have:=(Zag (fR2 s) 0).1;omega) c3
  have hlat:=Zo4 k3
  rw[t2]at hlat
  refine⟨hps.2.2,hps.2.1,?_,k4,λk h0 h1=>⟨(Zag _ _).1,?_⟩,⟨t1,?_,hlat⟩⟩
  ·unfold half;omega
  ·have:=Za.1 f2.2 k.toNat (by have h1:k<((ZZ s).size:Int):=h1;unfold ZZ at h1;omega)
   rw[Qj h0]at this
   exact QB this
  ·have:=(ZhJ k3).2.1
   rw[t2]at this
   rw[Zbo]
   exact this
end Go.Proofs.YtcnbifdlkalimabGreat
