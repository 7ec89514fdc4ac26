import Derived.Test.YtcnbifdlkalimabGreatTrnB
import Derived.Test.YtcnbifdlkalimabGreatTrnC
import Derived.Test.YtcnbifdlkalimabGreatTrn15
import Derived.Test.YtcnbifdlkalimabGreatTrnF
import Derived.Test.YtcnbifdlkalimabGreatLatM
import Derived.Lib.AppendStr
import Derived.Deep.AppendSrc
/- Lemmas for the statement Means; their conditions stand in each. -/
namespace Go.Proofs.YtcnbifdlkalimabGreat
open Go.RowKit Go.Proofs.Tryz
set_option linter.unusedVariables false
set_option maxRecDepth 100000
variable{b:Nat}{S:Nat->Value}{q:Tq}{w:World}{s:ZB}
theorem ZqP{wa w3:World}{v':Value}{t:Int}(H:Zv w b s q S)(ha:Below w.heap.size w wa)(hg:wa.grownBy w3 (S 0).ownBlock)(hown:w3.ownsRow (b+1) 5 1 v' (q.ls.length+1) (q.ls.map (Value.int .u8)++[.int .u8 t]))(hat:v'.ownBlock=(S 0).ownBlock∨v'.ownBlock=some wa.heap.size) :
  Zv (w3.setCell ⟨b,41,none⟩ v') b s {q with ls:=q.ls++[t]} (λj=>if j=0 then v' else S j)∧Zn b b S (λj=>if j=0 then v' else S j) w (w3.setCell ⟨b,41,none⟩ v'):=
 Zv.told (l:=0) H (by omega) ha hg (by
  have e1:ZjJ {q with ls:=q.ls++[t]} 0=q.ls.length+1:=by show (q.ls++[t]).length=_;rw[Qe];rfl
  have e2:ZjK {q with ls:=q.ls++[t]} 0=q.ls.map (Value.int .u8)++[.int .u8 t]:=by show (q.ls++[t]).map _=_;rw[QK];rfl
  rw[e1,e2]
  exact hown) hat rfl rfl rfl rfl rfl rfl (λj hj hne=>by unfold ZjJ;rw[if_neg hne,if_neg hne]) (λj hj hne=>by unfold ZjK;rw[if_neg hne,if_neg hne])
theorem ZqQ{wa w3:World}{v':Value}{t:Int}(H:Zv w b s q S)(ha:Below w.heap.size w wa)(hg:wa.grownBy w3 (S 1).ownBlock)(hown:w3.ownsRow (b+1) 5 1 v' (q.vs.length+1) (q.vs.map (Value.int .u8)++[.int .u8 t]))(hat:v'.ownBlock=(S 1).ownBlock∨v'.ownBlock=some wa.heap.size) :
  Zv (w3.setCell ⟨b,42,none⟩ v') b s {q with vs:=q.vs++[t]} (λj=>if j=1 then v' else S j)∧Zn b b S (λj=>if j=1 then v' else S j) w (w3.setCell ⟨b,42,none⟩ v'):=
 Zv.told (l:=1) H (by omega) ha hg (by
  have e1:ZjJ {q with vs:=q.vs++[t]} 1=q.vs.length+1:=by show (q.vs++[t]).length=_;rw[Qe];rfl
  have e2:ZjK {q with vs:=q.vs++[t]} 1=q.vs.map (Value.int .u8)++[.int .u8 t]:=by show (q.vs++[t]).map _=_;rw[QK];rfl
  rw[e1,e2]
  exact hown) hat rfl rfl rfl rfl rfl rfl (λj hj hne=>by
  match j,hj with
  | 0,_=>rfl
  | 1,_=>exact absurd rfl hne
  | 2,_=>rfl
  | 3,_=>rfl) (λj hj hne=>by
  match j,hj with
  | 0,_=>rfl
  | 1,_=>exact absurd rfl hne
  | 2,_=>rfl
  | 3,_=>rfl)
set_option maxHeartbeats 6400000
theorem ZjC(b:Nat)(s:ZB)(hs:s.size<=300)(q:Tq)(S:Nat->Value)(w:World)(H:Zv w b s q S)(G:Gd s q)(hp:pot s q<=6000)(hl:q.ls.length<=900) :
  Calls prog 93 #[.pointer (some ⟨b,0,none⟩)] w (Zaw b s S w (decQ s q)):=by
 have hP:=Zac b s q.r w H.rdAt (G.ok hs)
 have hA:Kp (∀w1 r1,Zi w w1 b r1->Zv w1 b s {q with r:=r1} S):=⟨λw1 r1 T=>H.rd T⟩
 have Ga:Gd s {q with r:=adv s q.r}:=G.r (Ze G.le)
 have pa:pot s {q with r:=adv s q.r}<=6000:=ZaA (Zh _ _) hp
 have hF:Kp (∀w1 r1,Zi w w1 b r1->Calls prog 162 #[.pointer (some ⟨b,0,none⟩),.int .u8 (tok s q.r)] w1 λe w'=>e=.returned (.tuple #[.int .i64 (fnI (tok s q.r) q.ls:Nat),.bool (fnB (tok s q.r) q.ls)])∧w'=w1):=⟨λw1 r1 T=>Zkf b s {q with r:=r1} S (tok s q.r) w1 (H.rd T) ⟨(G.sml (by omega)).cd,G.h0,G.h1,(G.sml (by omega)).ss,G.ll,G.vl⟩⟩
 have hL:=λw1=>Zeu (tok s q.r) w1
 replace hP:=Z_ hP
 cases hq:isL (tok s q.r) with
 | false=>
  have e3:decQ s q={q with r:=rfs (adv s q.r) 11}:=by unfold decQ;rw[if_pos hq]
  rw[e3]
  rw[hq]at hL
  have hR:Kp (∀w1,Zi w w1 b (adv s q.r)->Calls prog 159 #[.pointer (some ⟨b,0,none⟩),.int .i64 11] w1 λe w'=>e=.returned (.tuple #[])∧Zi w1 w' b (rfs (adv s q.r) 11)):=⟨λw1 T=>Zat b s (adv s q.r) 11 w1 (hA.out w1 _ T).rdAt⟩
  clear e3 H G hF hp hl pa Ga hq
  generalize tok s q.r=t at *
  replace hL:=Z_ hL
  go_enter func93,ntmps93
  go_wp2_with fail
  refine hP.out.mono ?_
  rintro e w1 ⟨rfl,T1⟩
  replace T1:=Z_ T1
  go_wp2_with fail
  refine(hL.out _).mono ?_
  rintro e w2 ⟨rfl,hw⟩
  subst hw
  go_wp2_with fail
  refine(hR.out _ T1.out).mono ?_
  rintro e w3 ⟨rfl,T3⟩
  have T4:Kp _:=⟨T1.out.trans T3⟩
  clear T3
  go_wp2_with fail
  first|go_end0|refine Qi (Qp rfl _ _ _) rfl ?_
  exact⟨rfl,S,hA.out _ _ T4.out,Zn.rd T4.out⟩
 | true=>
  rw[hq]at hL
  by_cases hf:fnd (tok s q.r) q.ls<q.ls.length
  ·have e3:decQ s q={q with r:=rfs (adv s q.r) 12}:=by unfold decQ;rw[if_neg (by rw[hq];simp),if_pos hf]
   rw[e3]
   rw[(Zew rfl hf).1,(Zew rfl hf).2]at hF
   have hR:Kp (∀w1,Zi w w1 b (adv s q.r)->Calls prog 159 #[.pointer (some ⟨b,0,none⟩),.int .i64 12] w1 λe w'=>e=.returned (.tuple #[])∧Zi w1 w' b (rfs (adv s q.r) 12)):=⟨λw1 T=>Zat b s (adv s q.r) 12 w1 (hA.out w1 _ T).rdAt⟩
   clear e3 H G hp hl pa Ga hq hf
   generalize fnd (tok s q.r) q.ls=i at *
   generalize tok s q.r=t at *
   replace hL:=Z_ hL
   go_enter func93,ntmps93
   go_wp2_with fail
   refine hP.out.mono ?_
   rintro e w1 ⟨rfl,T1⟩
   replace T1:=Z_ T1
   go_wp2_with fail
   refine(hL.out _).mono ?_
   rintro e w2 ⟨rfl,hw⟩
   subst hw
   go_wp2_with fail
   refine(hF.out _ _ T1.out).mono ?_
   rintro e w2 ⟨rfl,hw⟩
   subst hw
   go_wp2_with fail
   refine(hR.out _ T1.out).mono ?_
   rintro e w3 ⟨rfl,T3⟩
   have T4:Kp _:=⟨T1.out.trans T3⟩
   clear T3
   go_wp2_with fail
   first|go_end0|refine Qi (Qp rfl _ _ _) rfl ?_
   exact⟨rfl,S,hA.out _ _ T4.out,Zn.rd T4.out⟩
  ·have ht:97<=tok s q.r∧tok s q.r<=104:=by unfold isL at hq;exact QB hq
   obtain⟨r2,hr2⟩:∃r2,digR s (nx (adv s q.r)) 0 (q.n-1)=r2:=⟨_,rfl⟩
   obtain⟨lv,hlv⟩:∃lv,dig s (nx (adv s q.r)) 0 (q.n-1)=lv:=⟨_,rfl⟩
   have e3:decQ s q={q with r:=r2,ls:=q.ls++[tok s q.r],vs:=q.vs++[lv]}:=by unfold decQ;rw[if_neg (by rw[hq];simp),if_neg hf,hr2,hlv]
   rw[e3]
   have hfe:fnd (tok s q.r) q.ls=q.ls.length:=by have:=Zf8 (tok s q.r) q.ls;omega
   rw[(ZeE hfe).1,(ZeE hfe).2]at hF
   have hS:Kp (∀w1,Zi w w1 b (adv s q.r)->Calls prog 160 #[.pointer (some ⟨b,0,none⟩)] w1 λe w'=>e=.returned (.tuple #[])∧Zi w1 w' b (nx (adv s q.r))):=⟨λw1 T=>Za9 b s (adv s q.r) w1 (hA.out w1 _ T).rdAt (Ga.ok hs)⟩
   have hV:Kp (∀w1,Zi w w1 b (nx (adv s q.r))->Calls prog 90 #[.pointer (some ⟨b,0,none⟩)] w1 λe w'=>e=.returned (.int .i64 lv)∧Zi w1 w' b r2):=⟨λw1 T=>by
    rw[<-hlv,<-hr2]
    exact Zbj b s {q with r:=nx (adv s q.r)} S w1 (hA.out w1 _ T) ⟨hs,Zak (by omega)⟩ ⟨G.n0,G.n6⟩⟩
   have hlb:=ZjL (s:=s) (r:=nx (adv s q.r)) G.n6
   rw[hlv]at hlb
   obtain⟨l0,l6⟩:=hlb
   have hw8:IntKind.u8.wrap lv=lv:=by rw[wrap8];omega
   have hvl:q.vs.length<=900:=by have:=G.vl;omega
   obtain⟨i0,hi0,hz0,hz1,hz2⟩:=infoParts Zg6
   have hbl:=H.lt
   clear e3 G hp pa Ga hq hf hfe hr2 hlv H ht
   generalize tok s q.r=t at *
   replace hL:=Z_ hL
   go_enter func93,ntmps93
   go_wp2_with fail
   refine hP.out.mono ?_
   rintro e w1 ⟨rfl,T1⟩
   replace T1:=Z_ T1
   go_wp2_with fail
   refine(hL.out _).mono ?_
   rintro e w2 ⟨rfl,hw⟩
   subst hw
   go_wp2_with fail
   refine(hF.out _ _ T1.out).mono ?_
   rintro e w2 ⟨rfl,hw⟩
   subst hw
   go_wp2_with fail
   refine(hS.out _ T1.out).mono ?_
   rintro e w3 ⟨rfl,T3⟩
   have T4:Kp _:=⟨T1.out.trans T3⟩
   clear T3
   go_wp2_with fail
   refine(hV.out _ T4.out).mono ?_
   rintro e w4 ⟨rfl,T5⟩
   have T6:Kp _:=⟨T4.out.trans T5⟩
   have A6:=hA.out _ _ T6.out
   have c41:w4.cell? ⟨b,41,none⟩=some (S 0):=A6.c 0 (by omega)
   have f41:=A6.f 41 (by omega)
   have hlt:=A6.lt
   have hrow:w4.ownsRow (b+1) 5 1 (S 0) q.ls.length (q.ls.map (Value.int .u8)):=A6.o 0 (by omega)
   have hnb:some b≠(S 0).ownBlock:=λe=>by have:=(hrow.lt _ e.symm).1;omega
   replace hrow:=Z_ hrow
   replace hnb:=Z_ hnb
   replace A6:=Z_ A6
   clear T5
   go_wp2_with (at_builtin;refine wpList_append_own_at _ rfl _ _ 56 rfl (b+1) 5 i0 (.int .u8 0) 1 1 Tryz.underlying56 hi0 hz0 hz1 hz2 rfl (by decide) _ _ _ rfl (hrow.out.alloc _) ⟨w4.heap.size,0,none⟩ 1 1 [.int .u8 t] rfl rfl ?a1 ?a2 ?a3 ?a4 ?a5 ?_)
   case a1=>
    intro j u hj
    match j,hj with
    | 0,hj=>simp at hj;subst hj;simp[Addr.add]
   case a2=>intro u hu;simp at hu;subst hu;rfl
   case a3=>unfold maxLen;omega
   case a4=>omega
   case a5=>simp;omega
   intro v' w5 hown hgrow _ hat
   have bel:Below w4.heap.size w4 (w4.alloc (.cells #[.int .u8 t] 5)):=(Qh _ _).alloc (Qb _) _
   have hR:=ZqP A6.out bel hgrow hown (by simpa using hat)
   have a1:w5.cell? ⟨b,41,none⟩=some (S 0):=by
    rw[Qo (w:=w4.alloc (.cells #[.int .u8 t] 5)) (hgrow.block b (by simp;omega) hnb.out),bel.cell (p:=⟨b,41,none⟩) hlt]
    exact c41
   have f1:w5.frozen? ⟨b,41,none⟩=false:=by
    rw[Qz (w:=w4.alloc (.cells #[.int .u8 t] 5)) (hgrow.block b (by simp;omega) hnb.out),bel.frozen (p:=⟨b,41,none⟩) hlt]
    exact f41
   obtain⟨pp,cc,hv⟩:=Zb hown
   subst hv
   obtain⟨S2,hS2⟩:∃S2,S2=λj=>if j=0 then .slice pp (q.ls.length+1) cc else S j:=⟨_,rfl⟩
   rw[<-hS2]at hR
   obtain⟨w6,hw6⟩:∃w6,w6=w5.setCell ⟨b,41,none⟩ (.slice pp (q.ls.length+1) cc):=⟨_,rfl⟩
   rw[<-hw6]at hR
   obtain⟨A7,T7⟩:=hR
   have c42:w6.cell? ⟨b,42,none⟩=some (S2 1):=A7.c 1 (by omega)
   have f42:=A7.f 42 (by omega)
   have hlt6:=A7.lt
   have hrow2:w6.ownsRow (b+1) 5 1 (S2 1) q.vs.length (q.vs.map (Value.int .u8)):=A7.o 1 (by omega)
   have hnb2:some b≠(S2 1).ownBlock:=λe=>by have:=(hrow2.lt _ e.symm).1;omega
   have T8:Kp (Zn b b S S2 w w6):=⟨(Zn.rd T6.out).trans T7⟩
   replace hrow2:=Z_ hrow2
   replace hnb2:=Z_ hnb2
   replace A7:=Z_ A7
   replace hS2:=Z_ hS2
   replace hw6:=Z_ hw6
   clear hown hgrow hat hrow hnb T7 A6 c41 f41
   have c42':(w5.setCell ⟨b,41,none⟩ (.slice pp (q.ls.length+1) cc)).cell? ⟨b,42,none⟩=some (S2 1):=by rw[<-hw6.out];exact c42
   have hrow2u:Kp ((w5.setCell ⟨b,41,none⟩ (.slice pp (q.ls.length+1) cc)).ownsRow (b+1) 5 1 (S2 1) q.vs.length (q.vs.map (Value.int .u8))):=⟨by rw[<-hw6.out];exact hrow2.out⟩
   go_wp2_with (at_builtin;refine wpList_append_own_at _ rfl _ _ 56 rfl (b+1) 5 i0 (.int .u8 0) 1 1 Tryz.underlying56 hi0 hz0 hz1 hz2 rfl (by decide) _ _ _ rfl (hrow2u.out.alloc _) ⟨w5.heap.size,0,none⟩ 1 1 [.int .u8 lv] rfl rfl ?b1 ?b2 ?b3 ?b4 ?b5 ?_)
   case b2=>rfl
   case b3=>unfold maxLen;omega
   case b4=>omega
   case b5=>have:=hlt6;rw[hw6.out]at this;simp at this;omega
   intro v2 w7 hown2 hgrow2 _ hat2
   rw[<-hw6.out]at hgrow2
   have hsz6:w5.heap.size=w6.heap.size:=by rw[hw6.out];simp
   have bel2:Below w6.heap.size w6 (w6.alloc (.cells #[.int .u8 lv] 5)):=(Qh _ _).alloc (Qb _) _
   have hR2:=ZqQ A7.out bel2 hgrow2 hown2 (by rw[show (w6.alloc (.cells #[.int .u8 lv] 5)).heap.size=w5.heap.size+1 from by rw[hsz6];simp];simpa using hat2)
   have a2:w7.cell? ⟨b,42,none⟩=some (S2 1):=by
    rw[Qo (w:=w6.alloc (.cells #[.int .u8 lv] 5)) (hgrow2.block b (by simp;omega) hnb2.out),bel2.cell (p:=⟨b,42,none⟩) hlt6]
    exact c42
   have f2:w7.frozen? ⟨b,42,none⟩=false:=by
    rw[Qz (w:=w6.alloc (.cells #[.int .u8 lv] 5)) (hgrow2.block b (by simp;omega) hnb2.out),bel2.frozen (p:=⟨b,42,none⟩) hlt6]
    exact f42
   obtain⟨p2,cc2,hv2⟩:=Zb hown2
   subst hv2
   replace hR2:=Z_ hR2
   clear hown2 hgrow2 hat2 hrow2 hnb2
   go_wp2_with fail
   first|go_end0|refine Qi (Qp rfl _ _ _) rfl ?_
   exact⟨rfl,_,hR2.out.1,T8.out.trans hR2.out.2⟩
theorem Zv.prAt(H:Zv w b s q S):Zc4 w b 4 q.pn q.pr:=
 ⟨H.lt,H.c4,λi j hi hj=>H.cp i j hi hj,λk hk=>H.f (4+k) (by omega)⟩
theorem Zv.pairs{w':World}{f:Nat->Nat->Bool}(H:Zv w b s q S)(P:Zc4 w' b 4 q.pn f)(T:ZnB w w' b 4):Zv w' b s {q with pr:=f} S∧Zn b b S S w w':=by
 have hc:∀j,4+37<=trC j:=λj=>by have:=Zg5 j;omega
 refine⟨⟨by rw[T.size];exact H.lt,(T.cell 0 (by omega)).trans H.c0,(T.cell 1 (by omega)).trans H.c1,(T.cell 2 (by omega)).trans H.c2,(T.cell 3 (by omega)).trans H.c3,(T.cell 4 (by omega)).trans H.c4,λi j hi hj=>P.c i j hi hj,(T.cell 44 (by omega)).trans H.ch,(T.cell 45 (by omega)).trans H.ci,λj hj=>(T.cell _ (.inr (hc j))).trans (H.c j hj),λj hj=>ZJ (H.o j hj) λg hg=>T.block g (by have:=((H.o j hj).lt g hg).1;omega),H.d,λj hj=>(T.frozen j).trans (H.f j hj)⟩,⟨T.os,T.tape,T.output,by rw[T.size];exact Qb _,λk _ hb _ _=>T.block k hb,λ_ _=>.inl rfl⟩⟩
theorem Zv.newPr(H:Zv w b s q S)(n:Int)(f:Nat->Nat->Bool):Zv (w.setCells b 4 (big 37 (ZN n f)).toList) b s {q with pn:=n,pr:=f} S∧Zn b b S S w (w.setCells b 4 (big 37 (ZN n f)).toList):=by
 have hB:But b w.heap.size w (w.setCells b 4 (big 37 (ZN n f)).toList):=Z2 (But.refl _ _ _) _ _
 have hin:∀j,j<37->(w.cell? ⟨b,4+j,none⟩).isSome=true:=λj hj=>by rw[H.prAt.cells j hj];rfl
 have out:∀k,(k<4∨41<=k)->(w.setCells b 4 (big 37 (ZN n f)).toList).cell? ⟨b,k,none⟩=w.cell? ⟨b,k,none⟩:=λk hk=>World.cell?_setCells_out b _ 4 w ⟨b,k,none⟩ (λ_ _=>by rw[Zde];show k<4∨4+37<=k;omega)
 have fr:∀k,(w.setCells b 4 (big 37 (ZN n f)).toList).frozen? ⟨b,k,none⟩=w.frozen? ⟨b,k,none⟩:=λk=>by rw[QQ]
 have hl:b<(w.setCells b 4 (big 37 (ZN n f)).toList).heap.size:=Qq H.lt hB.size
 have P:Zc4 (w.setCells b 4 (big 37 (ZN n f)).toList) b 4 n f:=Zc4.of_cells hl (ZA w b 4 37 _ hin) (λj hj=>(fr _).trans (H.f (4+j) (by omega)))
 have hc:∀j,41<=trC j:=λj=>by have:=Zg5 j;omega
 exact⟨⟨hl,(out 0 (by omega)).trans H.c0,(out 1 (by omega)).trans H.c1,(out 2 (by omega)).trans H.c2,(out 3 (by omega)).trans H.c3,P.c0,λi j hi hj=>P.c i j hi hj,(out 44 (by omega)).trans H.ch,(out 45 (by omega)).trans H.ci,λj hj=>(out _ (.inr (hc j))).trans (H.c j hj),λj hj=>ZJ (H.o j hj) λg hg=>hB.block g ((H.o j hj).lt g hg).2 (by have:=((H.o j hj).lt g hg).1;omega),H.d,λj hj=>(fr j).trans (H.f j hj)⟩,⟨hB.os,hB.tape,hB.output,hB.size,λk hk hb _ _=>hB.block k hk hb,λ_ _=>.inl rfl⟩⟩
theorem Zv.prEq{f:Nat->Nat->Bool}(H:Zv w b s q S)(h:∀i j,i<6->j<6->q.pr i j=f i j):Zv w b s {q with pr:=f} S:=
 ⟨H.lt,H.c0,H.c1,H.c2,H.c3,H.c4,λi j hi hj=>by show _=some (Value.bool (f i j));rw[<-h i j hi hj];exact H.cp i j hi hj,H.ch,H.ci,H.c,H.o,H.d,H.f⟩
theorem ZrZ{r r':Rd}(h:rem s r'<=rem s r)(he:r'.er=0->r.er=0):muR s r'<=muR s r:=by
 unfold muR
 by_cases h1:r'.er=0
 ·rw[if_pos h1,if_pos (he h1)];omega
 ·rw[if_neg h1];split<;>omega
theorem Znr(s:ZB)(r:Rd)(a b:Int):muR s (digR s r a b)<=muR s r:=ZrZ (Zci s r a b) Zea
theorem Zr0{r:Rd}{a b:Int}(h0:0<=a)(he:r.er=0):muR s (digR s r a b)<muR s r:=by
 have hm:muR s r=rem s r+1:=by unfold muR;rw[if_pos he]
 cases h:isD s r a b with
 | true=>
  have:=Zdd (s:=s) (r:=r) (ok:=isD s r a b) (e:=11) h (ZiU h0 h)
  have h2:rem s (digR s r a b)<rem s r:=this
  unfold muR at *
  split<;>omega
 | false=>
  have e1:digR s r a b=rfs (adv s r) 11:=by unfold digR Zbn;rw[if_neg (by rw[h];simp)]
  have hb:(rfs (adv s r) 11).er≠0:=Zan (by omega)
  rw[e1]
  have:muR s (rfs (adv s r) 11)=0:=by unfold muR;rw[Zdc hb,if_neg hb]
  omega
theorem Zr1(s:ZB)(r:Rd):muR s (adv s r)<=muR s r:=ZrZ (Zt s r) (λh=>by rw[Zk]at h;exact h)
theorem Zr2(he:q.r.er=0):muR s (decQ s {q with r:=adv s q.r}).r<muR s q.r:=by
 have hm:muR s q.r=rem s q.r+1:=by unfold muR;rw[if_pos he]
 have bad:∀e:Int,e≠0->muR s (rfs (adv s (adv s q.r)) e)=0:=λe h=>by
  have hb:(rfs (adv s (adv s q.r)) e).er≠0:=Zan h
  unfold muR
  rw[Zdc hb,if_neg hb]
 unfold decQ
 split
 ·show muR s (rfs (adv s (adv s q.r)) 11)<_
  rw[bad 11 (by omega)];omega
 ·rename_i hq
  split
  ·show muR s (rfs (adv s (adv s q.r)) 12)<_
   rw[bad 12 (by omega)];omega
  ·show muR s (digR s (nx (adv s (adv s q.r))) 0 (q.n-1))<_
   have ht:tok s q.r≠0:=by
    have hq:¬isL (tok s (adv s q.r))=false:=hq
    rw[Zp]at hq
    unfold isL at hq
    simp at hq
    omega
   have h1:=Znr s (nx (adv s (adv s q.r))) 0 (q.n-1)
   rw[ZY]at h1 ⊢
   have h2:=ZK ht
   have h3:muR s (nx (adv s q.r))<=rem s (nx (adv s q.r))+1:=by unfold muR;split<;>omega
   omega
theorem Zr3(G:Gd s q)(hl:q.ls.length<=900):Gd s (decQ s q):=by
 unfold decQ
 split
 ·exact G.r (by rw[ZkQ];exact Ze G.le)
 ·rename_i hq
  split
  ·exact G.r (by rw[ZkQ];exact Ze G.le)
  ·have ht:tok s q.r≠0:=by
    unfold isL at hq
    simp at hq
    omega
   refine⟨Zad (by omega) (Zak ht),G.n0,G.n6,λx hx=>?_,?_,?_,G.h0,G.h1,G.ev⟩
   ·have hx:x∈q.vs++[dig s (nx (adv s q.r)) 0 (q.n-1)]:=hx
    rw[QI,QA]at hx
    rcases hx with hx|hx
    ·exact G.vb x hx
    ·rw[hx];exact ZjL G.n6
   ·show (q.ls++_).length<=1000
    rw[Qe];show q.ls.length+1<=_;omega
   ·show (q.vs++_).length=(q.ls++_).length
    rw[Qe,Qe,G.vl];rfl
theorem Zns:pot s (decQ s q)<=pot s q:=by
 unfold decQ
 split
 ·exact ZaU (Zdi (by rw[ZeZ (by omega)];exact Q8 _) (λh=>absurd h (Zan (by omega))))
 ·split
  ·exact ZaU (Zdi (by rw[ZeZ (by omega)];exact Q8 _) (λh=>absurd h (Zan (by omega))))
  ·rename_i hq _
   have ht:tok s q.r≠0:=by
    unfold isL at hq
    simp at hq
    omega
   have h1:=Z3 s (nx (adv s q.r)) 0 (q.n-1)
   have h2:=Zs ht
   rw[ZaG,ZaG]
   show q.cd.length+q.ss.length+Zaa s (digR s (nx (adv s q.r)) 0 (q.n-1))<=_
   omega
theorem ZqR:(decQ s q).ls.length<=q.ls.length+1:=by
 unfold decQ
 split
 ·exact Nat.le_succ _
 ·split
  ·exact Nat.le_succ _
  ·show (q.ls++_).length<=_
   rw[Qe];exact Qb _
def Zsh(b:Nat)(s:ZB)(S:Nat->Value)(w:World)(y:Tq)(e:Ending)(w':World):Prop:=
 e=.returned (.tuple #[])∧∃S',Zv w' b s y S'∧Zn b b S S' w w'∧Gd s y∧pot s y<=5000
theorem ZoP(b:Nat)(s:ZB)(hs:s.size<=300)(q:Tq)(S:Nat->Value)(w:World)(H:Zv w b s q S)(G:Gd s q)(hp:pot s q<=5000)(hl:q.ls=[]) :
  Calls prog 38 #[.pointer (some ⟨b,0,none⟩)] w (Zsh b s S w (headQ s q)):=by
 have hD:=ZdM b s q.r 1 6 w H.rdAt (G.ok hs)
 obtain⟨n,hn⟩:∃n,dig s q.r 1 6=n:=⟨_,rfl⟩
 obtain⟨r1,hr1⟩:∃r1,digR s q.r 1 6=r1:=⟨_,rfl⟩
 rw[hn,hr1]at hD
 have hnb:0<=n∧n<=6∧(r1.er=0->1<=n):=by
  rw[<-hn,<-hr1]
  unfold dig
  refine⟨?_,?_,λh=>?_⟩
  ·split
   ·rename_i h;have:=QB h;omega
   ·omega
  ·split
   ·rename_i h;have:=QB h;omega
   ·omega
  ·have h2:=(Zcz (by omega) h).2
   rw[if_pos h2]
   have:=QB h2
   omega
 obtain⟨n0,n6,n1⟩:=hnb
 obtain⟨q0,hq0⟩:∃q0:Tq,q0={q with r:=r1,n:=n,pn:=n,pr:=λi j=>decide (i=j)}:=⟨_,rfl⟩
 obtain⟨q1,hq1⟩:∃q1,prsQ s (s.size+1) q0=q1:=⟨_,rfl⟩
 obtain⟨q2,hq2⟩:∃q2,decsQ s (s.size+1) {q1 with r:=tk s q1.r 46}=q2:=⟨_,rfl⟩
 have hQ:headQ s q={q2 with r:=tk s q2.r 46}:=by unfold headQ;dsimp only;rw[hn,hr1,<-hq0,hq1,hq2]
 rw[hQ]
 have G0:Gd s q0:=by rw[hq0];exact⟨by show r1.a<=_;rw[<-hr1];exact Zad (by omega) G.le,n0,n6,G.vb,G.ll,G.vl,G.h0,G.h1,G.ev⟩
 have p0:pot s q0<=5000:=by
  have h1:Zaa s r1<=Zaa s q.r:=by rw[<-hr1];exact Z3 _ _ _ _
  have h2:=ZaG s q
  have h3:pot s q0=q.cd.length+q.ss.length+Zaa s r1:=by rw[hq0];exact ZaG _ _
  omega
 have m0:muR s q0.r<=s.size+1:=by have:=Z1 s q0.r;unfold muR;split<;>omega
 have l0:q0.ls=[]:=by rw[hq0];exact hl
 have hA1:Kp (∀w1,Zi w w1 b r1->Zv (w1.setCell ⟨b,3,none⟩ (.int .i64 n)) b s {q with r:=r1,n:=n} S∧Zn b b S S w (w1.setCell ⟨b,3,none⟩ (.int .i64 n))):=⟨λw1 T=>by
  have h:=(H.rd T).setN n
  exact⟨h.1,(Zn.rd T).trans h.2⟩⟩
 have hNP:=λw1=>ZhU n w1 n0 n6
 have hz0:Kp (q0.n=n∧q0.pn=n∧q0.r=r1):=⟨by rw[hq0];exact⟨rfl,rfl,rfl⟩⟩
 have hA2:Kp (∀w1,Zv w1 b s {q with r:=r1,n:=n} S->Zv (w1.setCells b 4 (big 37 (ZN n (λi j=>decide (i=j∧i<6)))).toList) b s q0 S∧Zn b b S S w1 (w1.setCells b 4 (big 37 (ZN n (λi j=>decide (i=j∧i<6)))).toList)):=⟨λw1 A=>by
  have h:=A.newPr n (λi j=>decide (i=j∧i<6))
  refine⟨?_,h.2⟩
  rw[hq0]
  refine h.1.prEq (f:=λi j=>decide (i=j)) λi j hi hj=>?_
  show decide (i=j∧i<6)=decide (i=j)
  apply QM.2
  rw[decide_eq_true_eq,decide_eq_true_eq]
  omega⟩
 have f3:Kp (∀w1,Zi w w1 b r1->(∃v,w1.cell? ⟨b,3,none⟩=some v)∧w1.frozen? ⟨b,3,none⟩=false):=⟨λw1 T=>⟨⟨_,(H.rd T).c3⟩,(H.rd T).f 3 (by omega)⟩⟩
 have hBf:Kp (∀(z:Tq) w1 S1,Zv w1 b s z S1->Gd s z->Calls prog 89 #[.pointer (some ⟨b,0,none⟩),.int .u8 46] w1 λe w'=>e=.returned (.bool (decide (z.r.er=0∧tok s z.r≠46)))∧Zi w1 w' b (adv s z.r)):=⟨λz w1 S1 A Gz=>Zev b s z.r 46 w1 A.rdAt (Gz.ok hs)⟩
 have hTk:Kp (∀(z:Tq) w1 S1,Zv w1 b s z S1->Gd s z->Calls prog 92 #[.pointer (some ⟨b,0,none⟩),.int .u8 46] w1 λe w'=>e=.returned (.tuple #[])∧Zi w1 w' b (tk s z.r 46)):=⟨λz w1 S1 A Gz=>Zau b s z.r 46 w1 A.rdAt (Gz.ok hs)⟩
 have hTL:Kp (∀(z:Tq) w1 S1,Zv w1 b s z S1->Gd s z->Calls prog 90 #[.pointer (some ⟨b,0,none⟩)] w1 λe w'=>e=.returned (.int .i64 (dig s z.r 0 (z.n-1)))∧Zi w1 w' b (digR s z.r 0 (z.n-1))):=⟨λz w1 S1 A Gz=>Zbj b s z S1 w1 A (Gz.ok hs) ⟨Gz.n0,Gz.n6⟩⟩
 replace hD:=Z_ hD
 replace hNP:=Z_ hNP
 replace hq1:=Z_ hq1
 replace hq2:=Z_ hq2
 replace G0:=Z_ G0
 replace p0:=Z_ p0
 replace m0:=Z_ m0
 replace l0:=Z_ l0
 replace n1:=Z_ n1
 clear H G hp hl hn hr1 hq0 hQ
 go_enter func38,ntmps38
 go_wp2_with fail
 refine hD.out.mono ?_
 rintro e w1 ⟨rfl,R1⟩
 obtain⟨⟨v3,c3⟩,e3⟩:=f3.out _ R1
 have A1:=hA1.out _ R1
 have d3:=A1.1.c3
 obtain⟨w2,hw2⟩:∃w2,w2=w1.setCell ⟨b,3,none⟩ (.int .i64 n):=⟨_,rfl⟩
 rw[<-hw2]at A1 d3
 have d3:w2.cell? ⟨b,3,none⟩=some (.int .i64 n):=d3
 replace A1:=Z_ A1
 replace R1:=Z_ R1
 clear hD hA1 f3
 go_wp2_with fail
 rw[<-hw2]
 refine(hNP.out _).mono ?_
 rintro e w3 ⟨rfl,hb3⟩
 have A3:=A1.out.1.step hb3
 have T3:Zn b b S S w w3:=A1.out.2.trans (Zn.below hb3)
 have A4:=hA2.out _ A3
 have hin:∀j,j<37->(w3.cell? ⟨b,4+j,none⟩).isSome=true:=λj hj=>by rw[A3.prAt.cells j hj];rfl
 have hfz:∀j,j<37->w3.frozen? ⟨b,4+j,none⟩=false:=λj hj=>A3.f (4+j) (by omega)
 obtain⟨w4,hw4⟩:∃w4,w4=w3.setCells b 4 (big 37 (ZN n (λi j=>decide (i=j∧i<6)))).toList:=⟨_,rfl⟩
 rw[<-hw4]at A4
 have T4:Kp (Zn b b S S w w4):=⟨T3.trans A4.2⟩
 have A5:Kp _:=⟨A4.1⟩
 replace hw4:=Z_ hw4
 clear A4 A3 T3 A1 hw2 hb3 c3 e3 d3
 dsimp only
 repeat (first|(refine Zm 100 (.tmp 18) (.tmp 16) rfl b 4 37 (ZN n (λi j=>decide (i=j∧i<6))) rfl rfl (by kernel_rfl) hin hfz (λj _=>Zml _ _ j) ?_;rw[<-hw4.out];dsimp only [Act.put])|go_step)
 clear hin hfz hw4
 go_loopg [2] (muR s q0.r) (λgm pv wr=>∃(j:Nat) (z:Tq) (S':Nat->Value),Kp (Zv wr b s z S')∧Kp (Gd s z)∧Kp (z.n=n∧z.pn=n∧(z.r.er=0->1<=n))∧Kp (z.ls=[])∧Kp (pot s z<=5000)∧Kp (muR s z.r<=j)∧Kp (prsQ s j z=q1)∧Kp (Zn b b S S' w wr)∧Kp (gm=muR s z.r))
 case atStart=>exact⟨s.size+1,q0,S,A5,G0,⟨hz0.out.1,hz0.out.2.1,λh=>n1.out (by rw[<-hz0.out.2.2];exact h)⟩,l0,p0,m0,hq1,T4,⟨rfl⟩⟩
 case round=>
  clear A5 T4 G0 p0 m0 l0 hq1 hA2 hNP hz0 n1
  obtain⟨j,z,S',hA,hG,hz,hls,hp,hj,hf,hT,hm⟩:=hrel
  have hI:=hBf.out z wr S' hA.out hG.out
  by_cases hc:z.r.er=0∧tok s z.r≠46
  ·rw[Qv hc]at hI
   have hmz:muR s z.r=rem s z.r+1:=by unfold muR;rw[if_pos hc.1]
   have hj1:=hj.out
   obtain⟨j,rfl⟩:∃i,j=i+1:=⟨j-1,by omega⟩
   have hn1:1<=n:=hz.out.2.2 hc.1
   have Ga:Gd s {z with r:=adv s z.r}:=hG.out.r (Ze hG.out.le)
   have pa:pot s {z with r:=adv s z.r}<=5000:=ZaA (Zh _ _) hp.out
   obtain⟨r2,hr2⟩:∃r2,digR s (adv s z.r) 0 (z.n-1)=r2:=⟨_,rfl⟩
   obtain⟨r3,hr3⟩:∃r3,digR s r2 0 (z.n-1)=r3:=⟨_,rfl⟩
   have hzn:z.n=n:=hz.out.1
   have hzp:z.pn=n:=hz.out.2.1
   have da:=ZcB (s:=s) (r:=adv s z.r) (n:=z.n) (by omega)
   have dc:=ZcB (s:=s) (r:=r2) (n:=z.n) (by omega)
   obtain⟨a,ha⟩:∃a:Nat,dig s (adv s z.r) 0 (z.n-1)=a:=⟨(dig s (adv s z.r) 0 (z.n-1)).toNat,by omega⟩
   obtain⟨c,hcc⟩:∃c:Nat,dig s r2 0 (z.n-1)=c:=⟨(dig s r2 0 (z.n-1)).toNat,by omega⟩
   rw[ha]at da
   rw[hcc]at dc
   have Gb:Gd s {z with r:=r2}:=by rw[<-hr2];exact hG.out.r (Zad (by omega) (Ze hG.out.le))
   have Gc:Gd s {z with r:=r3}:=by rw[<-hr3];exact hG.out.r (Zad (by omega) Gb.le)
   have h1:Kp (∀w1,Zi wr w1 b (adv s z.r)->Calls prog 90 #[.pointer (some ⟨b,0,none⟩)] w1 λe w'=>e=.returned (.int .i64 a)∧Zi w1 w' b r2):=⟨λw1 T=>by
    have:=hTL.out {z with r:=adv s z.r} w1 S' (hA.out.rd T) Ga
    have this:Calls prog 90 #[.pointer (some ⟨b,0,none⟩)] w1 λe w'=>e=.returned (.int .i64 (dig s (adv s z.r) 0 (z.n-1)))∧Zi w1 w' b (digR s (adv s z.r) 0 (z.n-1)):=this
    rw[ha,hr2]at this
    exact this⟩
   have h2:Kp (∀w1,Zi wr w1 b r2->Calls prog 90 #[.pointer (some ⟨b,0,none⟩)] w1 λe w'=>e=.returned (.int .i64 c)∧Zi w1 w' b r3):=⟨λw1 T=>by
    have:=hTL.out {z with r:=r2} w1 S' (hA.out.rd T) Gb
    have this:Calls prog 90 #[.pointer (some ⟨b,0,none⟩)] w1 λe w'=>e=.returned (.int .i64 (dig s r2 0 (z.n-1)))∧Zi w1 w' b (digR s r2 0 (z.n-1)):=this
    rw[hcc,hr3]at this
    exact this⟩
   have h3:Kp (∀w1,Zi wr w1 b r3->Calls prog 91 #[.pointer (some ⟨b,4,none⟩),.int .i64 a,.int .i64 c] w1 λe w'=>e=.returned (.tuple #[])∧Zv w' b s (pairQ {z with r:=r3} a c) S'∧Zn b b S' S' w1 w'):=⟨λw1 T=>by
    have A:=hA.out.rd T
    refine(Zoa b 4 a c z.pn z.pr w1 A.prAt (by omega) (by omega) (by omega)).mono ?_
    rintro e w2 ⟨rfl,P2,T2⟩
    have:=A.pairs P2 T2
    exact⟨rfl,this.1,this.2⟩⟩
   have Gn:Kp (Gd s (pairQ {z with r:=r3} a c)):=⟨⟨Gc.le,Gc.n0,Gc.n6,Gc.vb,Gc.ll,Gc.vl,Gc.h0,Gc.h1,Gc.ev⟩⟩
   have hp3:Zaa s r3<=Zaa s z.r:=by rw[<-hr3,<-hr2];exact Qg (Z3 _ _ _ _) (Qg (Z3 _ _ _ _) (Zh _ _))
   have pn:Kp (pot s (pairQ {z with r:=r3} a c)<=5000):=⟨Qg (ZaU (q:=z) hp3) hp.out⟩
   have hmu:muR s r3<muR s z.r:=by
    have k1:=Znr s r2 0 (z.n-1)
    have k2:=Zr0 (s:=s) (r:=adv s z.r) (a:=0) (b:=z.n-1) (by omega) (by rw[Zk];exact hc.1)
    have k3:=Zr1 s z.r
    rw[hr3]at k1
    rw[hr2]at k2
    omega
   have hf2:prsQ s j (pairQ {z with r:=r3} a c)=q1:=by
    rw[<-hf.out]
    simp only[prsQ]
    rw[if_pos hc,hr2,hr3,ha,hcc]
   have hz2:Kp ((pairQ {z with r:=r3} a c).n=n∧(pairQ {z with r:=r3} a c).pn=n∧((pairQ {z with r:=r3} a c).r.er=0->1<=n)):=⟨hzn,hzp,λ_=>hn1⟩
   have hl2:Kp ((pairQ {z with r:=r3} a c).ls=[]):=⟨hls.out⟩
   have jn:Kp (muR s (pairQ {z with r:=r3} a c).r<=j∧muR s (pairQ {z with r:=r3} a c).r<muR s z.r):=⟨by show muR s r3<=j∧muR s r3<muR s z.r;omega⟩
   replace hI:=Z_ hI
   replace hf2:=Z_ hf2
   generalize pairQ {z with r:=r3} a c=z2 at *
   clear hc hmz hj1 hn1 Ga pa hr2 hr3 hzn hzp da dc ha hcc Gb Gc hp3 hmu hf hG hz hls hp hj hTL
   go_wp2_with fail
   refine hI.out.mono ?_
   rintro e w2 ⟨rfl,R2⟩
   replace R2:=Z_ R2
   go_wp2_with fail
   refine(h1.out _ R2.out).mono ?_
   rintro e w3 ⟨rfl,R3⟩
   have R4:Kp _:=⟨R2.out.trans R3⟩
   clear R3
   go_wp2_with fail
   refine(h2.out _ R4.out).mono ?_
   rintro e w5 ⟨rfl,R5⟩
   have R6:Kp _:=⟨R4.out.trans R5⟩
   clear R5
   go_wp2_with fail
   refine(h3.out _ R6.out).mono ?_
   rintro e w7 ⟨rfl,A7,T7⟩
   replace A7:=Z_ A7
   have T8:Kp (Zn b b S S' w w7):=⟨hT.out.trans ((Zn.rd R6.out).trans T7)⟩
   clear T7
   go_wp2_with fail
   go_roundg (muR s z2.r)
   case measure=>have h1:=hm.out;have h2:=jn.out;omega
   case rel=>exact⟨j,z2,S',A7,Gn,hz2,hl2,pn,⟨jn.out.1⟩,hf2,T8,⟨rfl⟩⟩
  ·rw[Qx hc]at hI
   have hf2:{z with r:=adv s z.r}=q1:=by
    rw[<-hf.out]
    cases j with
    | zero=>rfl
    | succ j=>simp only[prsQ];rw[if_neg hc]
   have hA2:Kp (∀w1,Zi wr w1 b (adv s z.r)->Zv w1 b s q1 S'):=⟨λw1 T=>by rw[<-hf2];exact hA.out.rd T⟩
   have G1:Kp (Gd s q1):=⟨by rw[<-hf2];exact hG.out.r (Ze hG.out.le)⟩
   have G2:Kp (Gd s {q1 with r:=tk s q1.r 46}):=⟨G1.out.r (Z0 G1.out.le (by omega))⟩
   have p2:Kp (pot s {q1 with r:=tk s q1.r 46}<=5000):=⟨ZaA (ZM _ _ _) (by rw[<-hf2];exact ZaA (Zh _ _) hp.out)⟩
   have l2:Kp (({q1 with r:=tk s q1.r 46}:Tq).ls.length+muR s (tk s q1.r 46)<=400):=⟨by
    have h1:q1.ls=[]:=by rw[<-hf2];exact hls.out
    have h2:=Z1 s (tk s q1.r 46)
    have h3:muR s (tk s q1.r 46)<=rem s (tk s q1.r 46)+1:=by unfold muR;split<;>omega
    show q1.ls.length+_<=_
    rw[h1]
    show 0+_<=_
    omega⟩
   have m2:Kp (muR s (tk s q1.r 46)<=s.size+1):=⟨by have:=Z1 s (tk s q1.r 46);unfold muR;split<;>omega⟩
   replace hI:=Z_ hI
   clear hc hf2 hf hG hz hls hp hj hA hm hTL
   go_wp2_with fail
   refine hI.out.mono ?_
   rintro e w2 ⟨rfl,R2⟩
   have A2:=hA2.out _ R2
   have T2:Kp (Zn b b S S' w w2):=⟨hT.out.trans (Zn.rd R2)⟩
   replace A2:=Z_ A2
   clear hT hI hA2 R2
   go_wp2_with fail
   refine(hTk.out q1 _ _ A2.out G1.out).mono ?_
   rintro e w3 ⟨rfl,R3⟩
   have A3:Kp _:=⟨A2.out.rd R3⟩
   have T3:Kp (Zn b b S S' w w3):=⟨T2.out.trans (Zn.rd R3)⟩
   clear R3 A2 T2
   go_wp2_with fail
   obtain⟨wq,hwq⟩:∃x,x=wr:=⟨_,rfl⟩
   go_loopg [37] (muR s (tk s q1.r 46)) (λgm pv wr=>∃(j:Nat) (z:Tq) (S':Nat->Value),Kp (Zv wr b s z S')∧Kp (Gd s z)∧Kp (z.ls.length+muR s z.r<=400)∧Kp (pot s z<=5000)∧Kp (muR s z.r<=j)∧Kp (decsQ s j z=q2)∧Kp (Zn b b S S' w wr)∧Kp (gm=muR s z.r))
   case atStart=>exact⟨s.size+1,{q1 with r:=tk s q1.r 46},S',A3,G2,l2,p2,m2,hq2,T3,⟨rfl⟩⟩
   case round=>
    clear A3 T3 G1 G2 p2 l2 m2 hq2 hwq
    obtain⟨j,z,S',hA,hG,hls,hp,hj,hf,hT,hm⟩:=hrel
    have hI:=hBf.out z wr S' hA.out hG.out
    by_cases hc:z.r.er=0∧tok s z.r≠46
    ·rw[Qv hc]at hI
     have hmz:muR s z.r=rem s z.r+1:=by unfold muR;rw[if_pos hc.1]
     have hj1:=hj.out
     have hl1:=hls.out
     obtain⟨j,rfl⟩:∃i,j=i+1:=⟨j-1,by omega⟩
     have Ga:Gd s {z with r:=adv s z.r}:=hG.out.r (Ze hG.out.le)
     have pa:pot s {z with r:=adv s z.r}<=5000:=ZaA (Zh _ _) hp.out
     have hmu:=Zr2 (s:=s) (q:=z) hc.1
     have hle:=ZqR (s:=s) (q:={z with r:=adv s z.r})
     have hle:(decQ s {z with r:=adv s z.r}).ls.length<=z.ls.length+1:=hle
     have h1:Kp (∀w1,Zi wr w1 b (adv s z.r)->Calls prog 93 #[.pointer (some ⟨b,0,none⟩)] w1 (Zaw b s S' w1 (decQ s {z with r:=adv s z.r}))):=⟨λw1 T=>ZjC b s hs _ S' w1 (hA.out.rd T) Ga (by omega) (by show z.ls.length<=900;omega)⟩
     have hf2:decsQ s j (decQ s {z with r:=adv s z.r})=q2:=by
      rw[<-hf.out]
      simp only[decsQ]
      rw[if_pos hc]
     have Gn:Kp (Gd s (decQ s {z with r:=adv s z.r})):=⟨Zr3 Ga (by show z.ls.length<=900;omega)⟩
     have pn:Kp (pot s (decQ s {z with r:=adv s z.r})<=5000):=⟨Qg Zns pa⟩
     have ln:Kp ((decQ s {z with r:=adv s z.r}).ls.length+muR s (decQ s {z with r:=adv s z.r}).r<=400):=⟨by omega⟩
     have jn:Kp (muR s (decQ s {z with r:=adv s z.r}).r<=j∧muR s (decQ s {z with r:=adv s z.r}).r<muR s z.r):=⟨by omega⟩
     generalize decQ s {z with r:=adv s z.r}=z2 at *
     replace hI:=Z_ hI
     replace hf2:=Z_ hf2
     clear hc hmz hj1 hl1 Ga pa hmu hle hf hG hls hp hj
     go_wp2_with fail
     refine hI.out.mono ?_
     rintro e w2 ⟨rfl,R2⟩
     replace R2:=Z_ R2
     go_wp2_with fail
     refine(h1.out _ R2.out).mono ?_
     rintro e w3 ⟨rfl,S3,A3,T3⟩
     replace A3:=Z_ A3
     have T4:Kp (Zn b b S S3 w w3):=⟨hT.out.trans ((Zn.rd R2.out).trans T3)⟩
     clear T3
     go_wp2_with fail
     go_roundg (muR s z2.r)
     case measure=>have h1:=hm.out;have h2:=jn.out;omega
     case rel=>exact⟨j,z2,S3,A3,Gn,ln,pn,⟨jn.out.1⟩,hf2,T4,⟨rfl⟩⟩
    ·rw[Qx hc]at hI
     have hf2:{z with r:=adv s z.r}=q2:=by
      rw[<-hf.out]
      cases j with
      | zero=>rfl
      | succ j=>simp only[decsQ];rw[if_neg hc]
     have hA2:Kp (∀w1,Zi wr w1 b (adv s z.r)->Zv w1 b s q2 S'):=⟨λw1 T=>by rw[<-hf2];exact hA.out.rd T⟩
     have G2:Kp (Gd s q2):=⟨by rw[<-hf2];exact hG.out.r (Ze hG.out.le)⟩
     have G3:Kp (Gd s {q2 with r:=tk s q2.r 46}):=⟨G2.out.r (Z0 G2.out.le (by omega))⟩
     have p3:Kp (pot s {q2 with r:=tk s q2.r 46}<=5000):=⟨ZaA (ZM _ _ _) (by rw[<-hf2];exact ZaA (Zh _ _) hp.out)⟩
     replace hI:=Z_ hI
     clear hc hf2 hf hG hls hp hj hA hm
     go_wp2_with fail
     refine hI.out.mono ?_
     rintro e w2 ⟨rfl,R2⟩
     have A2:=hA2.out _ R2
     have T2:Kp (Zn b b S S' w w2):=⟨hT.out.trans (Zn.rd R2)⟩
     replace A2:=Z_ A2
     clear hT hI hA2 R2
     go_wp2_with fail
     refine(hTk.out q2 _ _ A2.out G2.out).mono ?_
     rintro e w3 ⟨rfl,R3⟩
     have A3:Kp _:=⟨A2.out.rd R3⟩
     have T3:Kp (Zn b b S S' w w3):=⟨T2.out.trans (Zn.rd R3)⟩
     clear R3 A2 T2
     go_wp2_with fail
     first|go_end0|refine Qi (Qp rfl _ _ _) rfl ?_
     exact⟨rfl,S',A3.out,T3.out,G3.out,p3.out⟩
theorem ZfY{P:Program}(w:World)(base B:Nat)(t ty e:TypeId)(i:TypeInfo)(z:Value)(ht:P.underlying t=some (.slice e))(hi:P.info? e=some i)(hz:i.zero=some z)
  (hsize:i.size=1) (hby:i.bytes=1) (hzs:z.cells.size=1) (v:Value) (n:Nat) (xs:List Value) (hown:w.ownsRow base e 1 v n xs) (V:Value) (m:Nat) (ys:List Value) (hV:w.ownsRow B e 1 V m ys) (h1:∀u∈ys,u.oneCell'=true)
  (h63:n+m<=maxLen) (hbytes:n+m<=140737488355328) (hbase:base<=w.heap.size) (hn:0<n) :
  ∃v' w',(Builtin.append_ #[t,t] ty #[v,V]).run P w=.ok v' w'∧w'.ownsRow base e 1 v' (n+m) (xs++ys)∧w.grownBy w' v.ownBlock:=by
 rcases hV.2 with ⟨rfl,rfl⟩|⟨g,cap,cur,rfl,hg,_⟩
 ·have hy:ys=[]:=List.eq_nil_of_length_eq_zero (by simpa using hV.1)
  subst hy
  rcases hown.2 with ⟨_,h0⟩|⟨gv,capv,curv,rfl,hbg,hgv,hnc,hcm,hcs,htake⟩
  ·omega
  ·have hr:=run_append_room_src (P:=P) w t t ty e i ht hi gv 0 n capv (.slice none 0 0) 0 [] (by rw[hsize];exact Src.ofNil w ht 0) (by omega) (by intro j hj;simp at hj) (by intro j hj;simp at hj)
   refine⟨_,_,hr,?_,⟨rfl,rfl,rfl,Qb _,λ_ _ _=>rfl⟩⟩
   rw[Nat.add_zero,QS]
   exact hown
 ·obtain⟨v',w',hr,h2,h3,_,_⟩:=run_append_own_at (P:=P) w base t ty e i z 1 1 ht hi hz hsize hby hzs (by omega) v n xs hown ⟨g,0,none⟩ m cap ys hV.1 (hV.cells rfl) h1 h63 (by omega) hbase
  exact⟨v',w',hr,h2,h3⟩
theorem Zb9{P:Program}(w:World){ops:Array Oper}{rest:List Oper}{o:Oper}{a:Act}{Q:Exit->Act->World->Prop}(hgd:o.guard=none)(s x:Operand)(t:TypeId)
  (ho:o.op=.call {callee:=.builtin .append,args:=#[s,x],argTypes:=#[t,t]})
  (base B:Nat) (e:TypeId) (i:TypeInfo) (z:Value) (ht:P.underlying t=some (.slice e)) (hi:P.info? e=some i) (hz:i.zero=some z)
  (hsize:i.size=1) (hby:i.bytes=1) (hzs:z.cells.size=1) (v:Value) (n:Nat) (xs:List Value) (hs:a.eval s=v) (hown:w.ownsRow base e 1 v n xs) (V:Value) (m:Nat) (ys:List Value) (hx:a.eval x=V) (hV:w.ownsRow B e 1 V m ys) (h1:∀u∈ys,u.oneCell'=true)
  (h63:n+m<=maxLen) (hbytes:n+m<=140737488355328) (hbase:base<=w.heap.size) (hn:0<n)
  (h:∀v' w',w'.ownsRow base e 1 v' (n+m) (xs++ys)->w.grownBy w' v.ownBlock->wpList P ops Q rest (a.put o.dst v') w'):wpList P ops Q (o::rest) a w:=by
 refine wpList_plain hgd λK hK=>?_
 obtain⟨v',w',hr,h2,h3⟩:=ZfY (P:=P) w base B t o.type e i z ht hi hz hsize hby hzs v n xs hown V m ys hV h1 h63 hbytes hbase hn
 unfold Oper.wp execOp
 simp only[ho,resolve,invoke,builtin,Ue,Sem.run_pure,Uo,List.map_toArray,List.map_cons,List.map_nil,hs,hx,hr]
 exact hK _ _ (h v' w' h2 h3)
def bl(s:ZB):List Int:=s.data.toList.map λb=>(b.toNat:Int)
theorem Zbx(s:ZB):(bl s).length=s.size:=by
 unfold bl
 rw[List.length_map]
 rfl
theorem ZqS(s:ZB):bs (bl s)=s:=by
 apply ByteArray.ext
 show ((s.data.toList.map λb=>(b.toNat:Int)).map λx=>UInt8.ofNat x.toNat).toArray=s.data
 rw[List.map_map]
 have:(λx:Int=>UInt8.ofNat x.toNat) ∘ (λb:UInt8=>(b.toNat:Int))=id:=by
  funext b
  simp
 rw[this]
 simp
theorem ZoQ(s:ZB):Go.Lib.strCells s=(bl s).map (Value.int .u8):=by
 unfold Go.Lib.strCells bl
 rw[List.map_map]
 rfl
theorem Zio(L:List Int):∀u∈L.map (Value.int .u8),u.oneCell'=true:=by
 intro u hu
 obtain⟨x,_,rfl⟩:=List.mem_map.1 hu
 rfl
theorem Zhn(n:Int)(T:ZB)(w:World):Calls prog 103 #[.agg #[.int .i64 n,.string T]] w λe w'=>e=.returned (.string T)∧Below w.heap.size w w':=by
 go_enter func103,ntmps103
 go_wp2
 go_ret
 exact⟨rfl,(Qh _ _).alloc (Qb _) _⟩
def wl2(n:Int):List Int:=[83,n%256]
def wl3(n:Int)(T:ZB):List Int:=wl2 n++bl T
def wl4(n:Int)(T:ZB)(vs:List Int):List Int:=wl3 n T++[(vs.length:Int)%256]
def wl5(n:Int)(T:ZB)(vs:List Int):List Int:=wl4 n T vs++vs
def wl6(n:Int)(T:ZB)(vs cd:List Int):List Int:=wl5 n T vs++[((cd.length/2:Nat):Int)%256]
def wl7(n:Int)(T:ZB)(vs cd:List Int):List Int:=wl6 n T vs cd++cd
theorem ZqT(n:Int)(T:ZB):(wl3 n T).length=2+T.size:=by unfold wl3 wl2;rw[Qe,Zbx];rfl
theorem ZqU(n:Int)(T:ZB)(vs:List Int):(wl4 n T vs).length=3+T.size:=by unfold wl4;rw[Qe,ZqT];simp;omega
theorem ZqV(n:Int)(T:ZB)(vs:List Int):(wl5 n T vs).length=3+T.size+vs.length:=by unfold wl5;rw[Qe,ZqU]
theorem ZqW(n:Int)(T:ZB)(vs cd:List Int):(wl6 n T vs cd).length=4+T.size+vs.length:=by unfold wl6;rw[Qe,ZqV];simp;omega
theorem Zr4(n:Int)(T:ZB)(vs cd:List Int):bs (wl7 n T vs cd)=bs [83,n%256]++T++bs [(vs.length:Int)%256]++bs vs++bs [((cd.length/2:Nat):Int)%256]++bs cd:=by
 unfold wl7 wl6 wl5 wl4 wl3 wl2
 rw[Zg,Zg,Zg,Zg,Zg,ZqS]
theorem Zlx(n:Int)(T:ZB)(V C:Value)(vs cd:List Int)(B:Nat)(w:World)(hV:w.ownsRow B 5 1 V vs.length (vs.map (Value.int .u8)))(hC:w.ownsRow B 5 1 C cd.length (cd.map (Value.int .u8)))(hT:T.size<=100)(hvs:vs.length<=1000)(hcd:cd.length<=100000) :
  Calls prog 47 #[.agg #[.int .i64 n,.string T],V,C] w λe w'=>e=.returned (.string (bs (wl7 n T vs cd)))∧Below w.heap.size w w':=by
 obtain⟨i0,hi0,hz0,hz1,hz2⟩:=infoParts Zg6
 obtain⟨pV,kV,rfl⟩:=Zb hV
 obtain⟨pC,kC,rfl⟩:=Zb hC
 have hw1:=wrap8 n
 have hw2:=wrap8 (vs.length:Int)
 have hw3:IntKind.u8.wrap ((cd.length:Int)/2)=((cd.length/2:Nat):Int)%256:=by rw[wrap8];omega
 obtain⟨w0,hw0⟩:∃w0,w0=(w.alloc (.cells #[.int .i64 n,.string T] 54)).alloc (.cells #[.int .u8 83,.int .u8 (n%256)] 5):=⟨_,rfl⟩
 have B0:Below w.heap.size w w0:=by rw[hw0];exact((Qh _ _).alloc (Qb _) _).alloc (by simp) _
 have R0:w0.ownsRow (w.heap.size+1) 5 1 (.slice (some ⟨w.heap.size+1,0,none⟩) 2 2) 2 ((wl2 n).map (Value.int .u8)):=by
  rw[hw0]
  have:=World.ownsRow_lit (base:=w.heap.size+1) (e:=5) (size:=1) (w.alloc (.cells #[.int .i64 n,.string T] 54)) #[.int .u8 83,.int .u8 (n%256)] 2 (by simp) (by unfold maxLen;omega) rfl
  simpa [wl2] using this
 have hx0:w0.heap.size=w.heap.size+2:=by rw[hw0];simp
 replace hV:=Z_ hV
 replace hC:=Z_ hC
 replace R0:=Z_ R0
 replace B0:=Z_ B0
 replace hw0:=Z_ hw0
 replace hx0:=Z_ hx0
 go_enter func47,ntmps47
 go_wp2_with fail
 rw[<-hw0.out]
 refine(Zhn n T _).mono ?_
 rintro e w1 ⟨rfl,b1⟩
 have R1:Kp (w1.ownsRow (w.heap.size+1) 5 1 (.slice (some ⟨w.heap.size+1,0,none⟩) 2 2) 2 ((wl2 n).map (Value.int .u8))):=⟨Zq R0.out b1⟩
 have B1:Kp (Below w.heap.size w w1):=⟨B0.out.trans (b1.mono (by rw[hx0.out];omega))⟩
 have z1:w.heap.size+2<=w1.heap.size:=by have:=b1.size;rw[hx0.out]at this;exact this
 clear R0 B0 b1
 go_wp2_with (at_builtin;refine Go.Lib.wpList_append_own_string _ rfl _ _ 56 9 rfl (w.heap.size+1) 5 i0 Tryz.underlying56 Tryz.underlying9 hi0 hz0 hz1 hz2 _ _ _ rfl R1.out T rfl (by unfold maxLen;omega) (by omega) (by omega) ?_)
 intro v2 w2 o2 g2 _
 have R2:Kp (w2.ownsRow (w.heap.size+1) 5 1 v2 (2+T.size) ((wl3 n T).map (Value.int .u8))):=⟨by unfold wl3;rw[QK,<-ZoQ];exact o2⟩
 have B2:Kp (Below w.heap.size w w2):=⟨B1.out.grown g2 (by omega) (λj hj=>by have:=(R1.out.lt j hj).1;omega)⟩
 have z2:w.heap.size+2<=w2.heap.size:=Qg z1 g2.size
 obtain⟨p2,c2,rfl⟩:=Zb R2.out
 clear R1 B1 o2 g2 z1
 go_wp2_with (at_builtin;refine wpList_append_own _ rfl _ _ 56 rfl (w.heap.size+1) 5 i0 (.int .u8 0) 1 1 Tryz.underlying56 hi0 hz0 hz1 hz2 rfl (by decide) _ _ _ rfl (R2.out.alloc _) ⟨w2.heap.size,0,none⟩ 1 1 [.int .u8 ((vs.length:Int)%256)] rfl rfl ?a1 ?a2 ?a3 ?a4 ?a5 ?_)
 case a1=>
  intro j u hj
  match j,hj with
  | 0,hj=>simp at hj;subst hj;simp[Addr.add]
 case a2=>intro u hu;simp at hu;subst hu;rfl
 case a3=>unfold maxLen;omega
 case a4=>omega
 case a5=>simp;omega
 intro v3 w3 o3 g3 _
 have R3:Kp (w3.ownsRow (w.heap.size+1) 5 1 v3 (3+T.size) ((wl4 n T vs).map (Value.int .u8))):=⟨by unfold wl4;rw[QK,show 3+T.size=2+T.size+1 from by omega];exact o3⟩
 have B3:Kp (Below w.heap.size w w3):=⟨(B2.out.alloc (by omega) _).grown g3 (by simp;omega) (λj hj=>by have:=(R2.out.lt j hj).1;omega)⟩
 have z3:w.heap.size+2<=w3.heap.size:=by have:=g3.size;simp at this;omega
 obtain⟨p3,c3,rfl⟩:=Zb R3.out
 have V3:Kp (w3.ownsRow B 5 1 (.slice pV vs.length kV) vs.length (vs.map (Value.int .u8))):=⟨Zq hV.out B3.out⟩
 clear R2 B2 o3 g3 z2
 go_wp2_with (at_builtin;refine Zb9 _ rfl _ _ 56 rfl (w.heap.size+1) B 5 i0 (.int .u8 0) Tryz.underlying56 hi0 hz0 hz1 hz2 rfl _ _ _ rfl R3.out _ _ _ rfl V3.out (Zio vs) (by unfold maxLen;omega) (by omega) (by omega) (by omega) ?_)
 intro v4 w4 o4 g4
 have R4:Kp (w4.ownsRow (w.heap.size+1) 5 1 v4 (3+T.size+vs.length) ((wl5 n T vs).map (Value.int .u8))):=⟨by unfold wl5;rw[QK];exact o4⟩
 have B4:Kp (Below w.heap.size w w4):=⟨B3.out.grown g4 (by omega) (λj hj=>by have:=(R3.out.lt j hj).1;omega)⟩
 have z4:w.heap.size+2<=w4.heap.size:=Qg z3 g4.size
 obtain⟨p4,c4,rfl⟩:=Zb R4.out
 clear R3 B3 o4 g4 z3 V3
 go_wp2_with (at_builtin;refine wpList_append_own _ rfl _ _ 56 rfl (w.heap.size+1) 5 i0 (.int .u8 0) 1 1 Tryz.underlying56 hi0 hz0 hz1 hz2 rfl (by decide) _ _ _ rfl (R4.out.alloc _) ⟨w4.heap.size,0,none⟩ 1 1 [.int .u8 (((cd.length/2:Nat):Int)%256)] rfl rfl ?c1 ?c2 ?c3 ?c4 ?c5 ?_)
 case c1=>
  intro j u hj
  match j,hj with
  | 0,hj=>simp at hj;subst hj;simp[Addr.add]
 case c2=>intro u hu;simp at hu;subst hu;rfl
 case c3=>unfold maxLen;omega
 case c4=>omega
 case c5=>simp;omega
 intro v5 w5 o5 g5 _
 have R5:Kp (w5.ownsRow (w.heap.size+1) 5 1 v5 (4+T.size+vs.length) ((wl6 n T vs cd).map (Value.int .u8))):=⟨by unfold wl6;rw[QK,show 4+T.size+vs.length=3+T.size+vs.length+1 from by omega];exact o5⟩
 have B5:Kp (Below w.heap.size w w5):=⟨(B4.out.alloc (by omega) _).grown g5 (by simp;omega) (λj hj=>by have:=(R4.out.lt j hj).1;omega)⟩
 have z5:w.heap.size+2<=w5.heap.size:=by have:=g5.size;simp at this;omega
 obtain⟨p5,c5,rfl⟩:=Zb R5.out
 have C5:Kp (w5.ownsRow B 5 1 (.slice pC cd.length kC) cd.length (cd.map (Value.int .u8))):=⟨Zq hC.out B5.out⟩
 clear R4 B4 o5 g5 z4
 go_wp2_with (at_builtin;refine Zb9 _ rfl _ _ 56 rfl (w.heap.size+1) B 5 i0 (.int .u8 0) Tryz.underlying56 hi0 hz0 hz1 hz2 rfl _ _ _ rfl R5.out _ _ _ rfl C5.out (Zio cd) (by unfold maxLen;omega) (by omega) (by omega) (by omega) ?_)
 intro v6 w6 o6 g6
 have R6:w6.ownsRow (w.heap.size+1) 5 1 v6 (wl7 n T vs cd).length ((wl7 n T vs cd).map (Value.int .u8)):=by
  unfold wl7
  rw[QK,Qe,ZqW]
  exact o6
 have B6:Kp (Below w.heap.size w w6):=⟨B5.out.grown g6 (by omega) (λj hj=>by have:=(R5.out.lt j hj).1;omega)⟩
 have hcv:=ZeN (wl7 n T vs cd) R6
 obtain⟨p6,c6,rfl⟩:=Zb R6
 obtain⟨y,hy⟩:∃y,bs (wl7 n T vs cd)=y:=⟨_,rfl⟩
 rw[hy]at hcv
 replace hy:=Z_ hy
 clear R5 B5 o6 g6 z5 C5 R6
 generalize (wl7 n T vs cd).length=len at *
 go_wp2
 go_ret
 exact⟨by rw[hy.out];rfl,B6.out⟩
def tabQ(s:ZB):ZB:=bs (cells (readQ s).pr (readQ s).pn.toNat)
def tqE(s:ZB):Int:=if 300<s.size then 1 else if (readQ s).r.er≠0 then (readQ s).r.er else if levE (tabQ s)≠0 then levE (tabQ s) else if 200<plQ (readQ s) then 13 else 0
def tqA(s:ZB):Int:=if 300<s.size then 0 else if (readQ s).r.er≠0 then (readQ s).r.a else 0
def ZsJ(w':World)(B:Nat)(s:ZB)(D:Value):Prop:=∃S:Nat->Value,D=.agg #[.int .i64 (levN (tabQ s)),.string (tabQ s),.int .i64 (readQ s).hi,S 3,S 1,S 2]∧w'.ownsRow B 5 1 (S 1) (readQ s).vs.length ((readQ s).vs.map (Value.int .u8))∧w'.ownsRow B 5 1 (S 2) (readQ s).cd.length ((readQ s).cd.map (Value.int .u8))∧w'.ownsRow B 109 16 (S 3) (readQ s).ss.length ((readQ s).ss.flatMap stV)
def ZkH(s:ZB)(w:World)(e:Ending)(w':World):Prop:=
 ∃(D:Value),e=.returned (.tuple #[D,.int .i64 (tqA s),.int .i64 (tqE s)])∧Below w.heap.size w w'∧Kp ((tqE s=0->ZsJ w' (w.heap.size+1) s D)∧(tqE s≠0->D=.agg #[.int .i64 0,.string {data:=#[]},.int .i64 0,.slice none 0 0,.slice none 0 0,.slice none 0 0]))
def Zdl(s:ZB)(k:Nat):Value:=if k=0 then .string s else if k<5 then .int .i64 0 else if k<41 then .bool false else if k<44 then .slice none 0 0 else if k<46 then .int .i64 0 else .slice none 0 0
theorem Zr5(s:ZB)(k:Nat):(Zdl s k).oneCell'=true:=by
 unfold Zdl
 repeat (split;rfl)
 rfl
theorem ZoR(hl:b<w.heap.size)(h:∀j,j<47->w.cell? ⟨b,0+j,none⟩=some (Zdl s j))(hf:∀j,j<47->w.frozen? ⟨b,0+j,none⟩=false):Zv w b s startQ (λ_=>.slice none 0 0):=by
 have e:∀j,j<47->w.cell? ⟨b,j,none⟩=some (Zdl s j):=λj hj=>by have:=h j hj;rwa [QT]at this
 refine⟨hl,e 0 (by omega),e 1 (by omega),e 2 (by omega),e 3 (by omega),e 4 (by omega),λi j hi hj=>?_,e 44 (by omega),e 45 (by omega),λj hj=>?_,λj hj=>?_,λi j _ _ _=>.inl rfl,λj hj=>by have:=hf j hj;rwa [QT]at this⟩
 ·rw[e _ (by omega)]
  unfold Zdl
  rw[if_neg (by omega),if_neg (by omega),if_pos (by omega)]
  rfl
 ·match j,hj with
  | 0,_=>exact e 41 (by omega)
  | 1,_=>exact e 42 (by omega)
  | 2,_=>exact e 43 (by omega)
  | 3,_=>exact e 46 (by omega)
 ·match j,hj with
  | 0,_=>exact Uq w _ _ _
  | 1,_=>exact Uq w _ _ _
  | 2,_=>exact Uq w _ _ _
  | 3,_=>exact Uq w _ _ _
theorem own6(w:World)(t:TypeId):Own (w.alloc (.cells #[.int .i64 0,.string {data:=#[]},.int .i64 0,.slice none 0 0,.slice none 0 0,.slice none 0 0] t)) w.heap.size [.int .i64 0,.string {data:=#[]},.int .i64 0,.slice none 0 0,.slice none 0 0,.slice none 0 0]:=by
 refine⟨by simp,?_,?_⟩
 ·intro i v hv
  match i,hv with
  | 0,hv=>simp at hv;subst hv;simp[go_sem]
  | 1,hv=>simp at hv;subst hv;simp[go_sem]
  | 2,hv=>simp at hv;subst hv;simp[go_sem]
  | 3,hv=>simp at hv;subst hv;simp[go_sem]
  | 4,hv=>simp at hv;subst hv;simp[go_sem]
  | 5,hv=>simp at hv;subst hv;simp[go_sem]
  | i+6,hv=>simp at hv
 ·intro i v hv
  match i,hv with
  | 0,hv=>simp[go_sem]
  | 1,hv=>simp[go_sem]
  | 2,hv=>simp[go_sem]
  | 3,hv=>simp[go_sem]
  | 4,hv=>simp[go_sem]
  | 5,hv=>simp[go_sem]
  | i+6,hv=>simp at hv
theorem ZfJ{B B':Nat}{e:TypeId}{z:Nat}{v:Value}{k:Nat}{xs:List Value}(h:w.ownsRow B e z v k xs)(hb:B'<=B):w.ownsRow B' e z v k xs:=
 ⟨h.1,h.2.imp id λ⟨g,cap,cur,h1,h2,h3⟩=>⟨g,cap,cur,h1,Qg hb h2,h3⟩⟩
theorem ZoS(s:ZB):Gd s startQ:=⟨Nat.zero_le _,by show (0:Int)<=0;omega,by show (0:Int)<=6;omega,λx hx=>by simp[startQ]at hx,by simp[startQ],rfl,by simp[startQ],by simp[startQ],rfl⟩
theorem Zip(hs:s.size<=300):pot s startQ<=5000:=by
 have h:=Z1 s ⟨0,0⟩
 have:pot s startQ=0+0+8*rem s ⟨0,0⟩+12:=rfl
 omega
theorem Zly(s:ZB)(w:World)(hs:s.size<=maxLen)(hl:300<s.size):Calls prog 17 #[.string s] w (ZkH s w):=by
 have e1:tqE s=1:=if_pos hl
 have e2:tqA s=0:=if_pos hl
 have hP:Kp (∀w',Below w.heap.size w w'->ZkH s w (.returned (.tuple #[.agg #[.int .i64 0,.string {data:=#[]},.int .i64 0,.slice none 0 0,.slice none 0 0,.slice none 0 0],.int .i64 0,.int .i64 1])) w'):=⟨λw' hb=>⟨_,by rw[e1,e2],hb,⟨λh=>by rw[e1]at h;omega,λ_=>rfl⟩⟩⟩
 unfold maxLen at hs
 have hli:(300:Int)<(s.size:Int):=by omega
 clear e1 e2
 go_enter func17,ntmps17
 go_wp2_with fail
 refine bodyPost_ret (v:=.tuple #[.agg #[.int .i64 0,.string {data:=#[]},.int .i64 0,.slice none 0 0,.slice none 0 0,.slice none 0 0],.int .i64 0,.int .i64 1]) (by simp[results,Tryz.results17,go_sem]) rfl (hP.out _ ?_)
 exact(Qh _ _).alloc (Qb _) _
theorem ZjD(s:ZB)(w:World)(hs:s.size<=300):Calls prog 17 #[.string s] w (ZkH s w):=by
 obtain⟨b,hb⟩:∃b,b=w.heap.size+1:=⟨_,rfl⟩
 obtain⟨w0,hw0⟩:∃w0,w0=((w.alloc (.cells #[.int .i64 0,.string {data:=#[]},.int .i64 0,.slice none 0 0,.slice none 0 0,.slice none 0 0] 58)).alloc (.cells #[.string {data:=#[]},.int .i64 0,.int .i64 0,.int .i64 0,.int .i64 0,.bool false,.bool false,.bool false,.bool false,.bool false,.bool false,.bool false,.bool false,.bool false,.bool false,.bool false,.bool false,.bool false,.bool false,.bool false,.bool false,.bool false,.bool false,.bool false,.bool false,.bool false,.bool false,.bool false,.bool false,.bool false,.bool false,.bool false,.bool false,.bool false,.bool false,.bool false,.bool false,.bool false,.bool false,.bool false,.bool false,.slice none 0 0,.slice none 0 0,.slice none 0 0,.int .i64 0,.int .i64 0,.slice none 0 0] 102)):=⟨_,rfl⟩
 have hsz:w0.heap.size=w.heap.size+2:=by rw[hw0];simp
 have hR0:Room w0 (w.heap.size+1) 47:=by rw[hw0];exact Room.of_row (ZsM _ _ _) (by rfl)
 have O0:Own w0 w.heap.size [.int .i64 0,.string {data:=#[]},.int .i64 0,.slice none 0 0,.slice none 0 0,.slice none 0 0]:=by rw[hw0];exact(own6 w _).alloc _
 have hB0:Below w.heap.size w w0:=by rw[hw0];exact((Qh _ _).alloc (Qb _) _).alloc (by simp) _
 obtain⟨w1,hw1⟩:∃w1,w1=w0.setCells (w.heap.size+1) 0 (big 47 (Zdl s)).toList:=⟨_,rfl⟩
 have hBt:But (w.heap.size+1) w0.heap.size w0 w1:=by rw[hw1];exact Z2 (But.refl _ _ _) _ _
 have A1:Zv w1 b s startQ (λ_=>.slice none 0 0):=ZoR (by have:=hBt.size;omega) (by rw[hw1,hb];exact ZA w0 _ 0 47 _ hR0.c) (λj hj=>by rw[hw1,hb,QQ];exact hR0.f j hj)
 have O1:=O0.but hBt (by omega)
 have hB1:Below w.heap.size w w1:=hB0.trans ((hBt.mono hB0.size).below (by omega))
 have F1:Fre w1 b (λ_=>.slice none 0 0) w.heap.size:=⟨O1.lt,by omega,λj hj e=>by simp[Value.ownBlock]at e⟩
 have hH:=ZoP b s hs startQ _ w1 A1 (ZoS s) (Zip hs) rfl
 obtain⟨hq,hhq⟩:∃hq,headQ s startQ=hq:=⟨_,rfl⟩
 rw[hhq]at hH
 have hRQ:bodyQ s (s.size+1) hq=readQ s:=by rw[<-hhq];rfl
 have hBo:Kp (∀w2 S2,Zv w2 b s hq S2->Gd s hq->pot s hq<=5000->Calls prog 39 #[.pointer (some ⟨b,0,none⟩)] w2 (Zaw b s S2 w2 (readQ s))):=⟨λw2 S2 A G hp=>by rw[<-hRQ];exact Zos b s hs hq S2 w2 A G (by omega)⟩
 have hGb:Kp (∀(G:Gd s hq) (hp:pot s hq<=5000),Gd s (readQ s)∧pot s (readQ s)<=5000):=⟨λG hp=>by
  rw[<-hRQ]
  have key:∀k (q:Tq),Gd s q->pot s q<=5000->Gd s (bodyQ s k q)∧pot s (bodyQ s k q)<=5000:=by
   intro k
   induction k with
   | zero=>intro q G hp;exact⟨G.r (Ze G.le),ZaA (Zh _ _) hp⟩
   | succ k ih=>
    intro q G hp
    simp only[bodyQ]
    split
    ·rename_i h
     exact ih _ (Zc6 _ _ _ (G.r (Ze G.le))) (Qg (ZbP s _ _ _ (by show (adv s q.r).er=0;rw[Zk];exact h.1)) (ZaA (Zh _ _) hp))
    ·exact⟨G.r (Ze G.le),ZaA (Zh _ _) hp⟩
  exact key _ hq G hp⟩
 replace hw0:=Z_ hw0
 replace hw1:=Z_ hw1
 replace hb:=Z_ hb
 replace hH:=Z_ hH
 replace A1:=Z_ A1
 replace O1:=Z_ O1
 replace hB1:=Z_ hB1
 replace F1:=Z_ F1
 clear hBt O0 hB0 hsz hhq hRQ
 have hsi:(s.size:Int)<=300:=by omega
 go_enter func17,ntmps17
 repeat (first|refine Zar 102 #[(0,.tmp 14)] rfl _ (built_tr s) ?_|(refine Zm 102 (.tmp 5) (.tmp 15) rfl (w.heap.size+1) 0 47 (Zdl s) rfl rfl (by kernel_rfl) (by rw[<-hw0.out];exact hR0.c) (by rw[<-hw0.out];exact hR0.f) (λj _=>Zr5 _ j) ?_;rw[<-hw0.out,<-hw1.out];dsimp only [Act.put])|go_step)
 rw[<-hb.out]
 refine hH.out.mono ?_
 rintro e w2 ⟨rfl,S2,A2,T2,G2,p2⟩
 have hG3:=hGb.out G2 p2
 have hBo2:=hBo.out w2 S2 A2 G2 p2
 replace hBo2:=Z_ hBo2
 replace T2:=Z_ T2
 replace hG3:=Z_ hG3
 clear hH hBo hGb A2 G2 p2 hR0 hw0 hw1
 go_wp2_with fail
 refine hBo2.out.mono ?_
 rintro e w3 ⟨rfl,S3,A3,T3⟩
 have T13:Zn b b (λ_=>.slice none 0 0) S3 w1 w3:=T2.out.trans T3
 have O3:Own w3 w.heap.size [.int .i64 0,.string {data:=#[]},.int .i64 0,.slice none 0 0,.slice none 0 0,.slice none 0 0]:=O1.out.same (F1.out.same T13) T13.size
 have F3:=F1.out.to T13
 have hB3:Below w.heap.size w w3:=hB1.out.trans ((T13.out A1.out (Qb _)).mono (by rw[hb.out];omega))
 have hwb:w.heap.size<b:=by rw[hb.out];omega
 have hS:=Zax s
 obtain⟨q,hq⟩:∃q,readQ s=q:=⟨_,rfl⟩
 have hE:=hq
 rw[hq]at A3 hG3
 have c1:=A3.c1
 have c2:=A3.c2
 have hbl:=A3.lt
 clear hBo2 T2 T3 T13 O1 F1 hB1 A1
 by_cases her:q.r.er=0
 ·have hz:=hS.ok (by rw[<-hS.r,hq];exact her)
  rw[hq]at hz
  obtain⟨_,hpn,_,_,_,n1,n6,_⟩:=hz
  obtain⟨m,hm⟩:∃m:Nat,q.pn=m:=⟨q.pn.toNat,by omega⟩
  have hm6:m<=6:=by omega
  have hTx:=Zmm b 4 m q.pr w3 (by rw[<-hm];exact A3.prAt) hm6
  have hTb:tabQ s=bs (cells q.pr m):=by unfold tabQ;rw[hq,hm];rfl
  rw[<-hTb]at hTx
  have hTs:(tabQ s).size=m*m:=by rw[hTb,Zc,ZcF]
  have hTs36:(tabQ s).size<=36:=by rw[hTs];exact Us hm6 hm6
  have hOp:=λw4=>Zog (tabQ s) w4 (by unfold maxLen;omega)
  rw[her]at c2
  have e300:¬300<s.size:=by omega
  have hA:tqA s=0:=by unfold tqA;rw[if_neg e300,hq,if_neg (by rw[her];simp)]
  have hEe:tqE s=if levE (tabQ s)≠0 then levE (tabQ s) else if 200<plQ q then 13 else 0:=by unfold tqE;rw[if_neg e300,hq,if_neg (by rw[her];simp)]
  have M3:=hG3.out.1.sml (by have:=hG3.out.2;omega)
  obtain⟨T,hT⟩:∃T,tabQ s=T:=⟨_,rfl⟩
  rw[hT]at hTx hOp hEe hTs36
  have hD:=hq
  obtain⟨er,hler⟩:∃er,levE T=er:=⟨_,rfl⟩
  obtain⟨ln,hln⟩:∃ln,levN T=ln:=⟨_,rfl⟩
  obtain⟨ls,hls⟩:∃ls,levS T=ls:=⟨_,rfl⟩
  rw[hler,hln,hls]at hOp
  rw[hler]at hEe
  replace hTx:=Z_ hTx
  replace hOp:=Z_ hOp
  replace hA:=Z_ hA
  replace hEe:=Z_ hEe
  replace A3:=Z_ A3
  replace O3:=Z_ O3
  replace hB3:=Z_ hB3
  replace hq:=Z_ hq
  replace hT:=Z_ hT
  replace hler:=Z_ hler
  replace hln:=Z_ hln
  replace hls:=Z_ hls
  replace M3:=Z_ M3
  clear hS hpn n1 n6 hm hTb hTs e300 F3 hE hD hm6
  go_wp2_with fail
  refine hTx.out.mono ?_
  rintro e w4 ⟨rfl,b4⟩
  have A4:Kp _:=⟨A3.out.step b4⟩
  have O4:Kp _:=⟨O3.out.step b4⟩
  have hB4:Kp (Below w.heap.size w w4):=⟨hB3.out.trans (b4.mono hB3.out.size)⟩
  clear hTx A3 O3 hB3 b4 c1 c2 hbl
  go_wp2_with fail
  refine(hOp.out _).mono ?_
  rintro e w5 ⟨rfl,b5⟩
  have b5a:Below w4.heap.size w4 (w5.alloc (.cells #[.int .i64 ln,.string ls] 54)):=b5.alloc b5.size _
  have A5:=A4.out.step b5a
  have O5:=O4.out.step b5a
  have hB5:Below w.heap.size w (w5.alloc (.cells #[.int .i64 ln,.string ls] 54)):=hB4.out.trans (b5a.mono hB4.out.size)
  have Ot:=Own.new2 w5 (.int .i64 ln) (.string ls) 54
  obtain⟨w6,hw6⟩:∃w6,w6=w5.alloc (.cells #[.int .i64 ln,.string ls] 54):=⟨_,rfl⟩
  rw[<-hw6]at A5 O5 hB5 Ot
  have o5l:=hB4.out.size
  have o5m:=b5.size
  clear A4 O4 hB4 b5 b5a hOp
  have x0:=O5.c 0 _ rfl
  have x1:=O5.c 1 _ rfl
  have x2:=O5.c 2 _ rfl
  have x3:=O5.c 3 _ rfl
  have x4:=O5.c 4 _ rfl
  have x5:=O5.c 5 _ rfl
  have y0:=O5.f 0 _ rfl
  have y1:=O5.f 1 _ rfl
  have y2:=O5.f 2 _ rfl
  have y3:=O5.f 3 _ rfl
  have y4:=O5.f 4 _ rfl
  have y5:=O5.f 5 _ rfl
  have xl:=O5.lt
  by_cases hk0:er=0
  ·subst hk0
   have hP:=Zb7 b s q S3 w6 A5 M3.out
   have hls2:ls=T:=by rw[<-hls.out];unfold levS;rw[if_pos hler.out]
   by_cases hbig:200<plQ q
   ·have hEf:Kp (tqE s=13):=⟨by rw[hEe.out,if_neg (by simp),if_pos hbig]⟩
    have hne0:Kp (¬(13:Int)=0):=⟨by omega⟩
    have hbi:(200:Int)<(plQ q:Int):=by omega
    generalize plQ q=pl at *
    replace hP:=Z_ hP
    replace hB5:=Z_ hB5
    replace hw6:=Z_ hw6
    clear A5 O5 Ot hEe hls2 M3 hG3
    go_wp2_with fail
    rw[<-hw6.out]
    refine hP.out.mono ?_
    rintro e w7 ⟨rfl,hw⟩
    subst hw
    go_wp2_with fail
    refine bodyPost_ret (v:=.tuple #[.agg #[.int .i64 0,.string {data:=#[]},.int .i64 0,.slice none 0 0,.slice none 0 0,.slice none 0 0],.int .i64 0,.int .i64 13]) (by simp[results,Tryz.results17,go_sem,x0,x1,x2,x3,x4,x5]) rfl ⟨_,by rw[hA.out,hEf.out],((((((hB5.out.setCell (Nat.le_refl _) _).setCell (Nat.le_refl _) _).setCell (Nat.le_refl _) _).setCell (Nat.le_refl _) _).setCell (Nat.le_refl _) _).setCell (Nat.le_refl _) _),⟨λh=>absurd (hEf.out.symm.trans h) hne0.out,λ_=>rfl⟩⟩
   ·have hEf:tqE s=0:=by rw[hEe.out,if_neg (by simp),if_neg hbig]
    have hbi:¬(200:Int)<(plQ q:Int):=by omega
    have t0:=Ot.c 0 _ rfl
    have t1:=Ot.c 1 _ rfl
    have ci:=A5.ci
    have r1:=A5.o 1 (by omega)
    have r2:=A5.o 2 (by omega)
    have r3:=A5.o 3 (by omega)
    have k1:=A5.c 1 (by omega)
    have k2:=A5.c 2 (by omega)
    have k3:=A5.c 3 (by omega)
    obtain⟨v1,u1,f1⟩:=Zb r1
    obtain⟨v2,u2,f2⟩:=Zb r2
    obtain⟨v3,u3,f3⟩:=Zb r3
    have r1:w6.ownsRow (b+1) 5 1 (S3 1) q.vs.length (q.vs.map (Value.int .u8)):=r1
    have r2:w6.ownsRow (b+1) 5 1 (S3 2) q.cd.length (q.cd.map (Value.int .u8)):=r2
    have r3:w6.ownsRow (b+1) 109 16 (S3 3) q.ss.length (q.ss.flatMap stV):=r3
    have f1:S3 1=.slice v1 q.vs.length u1:=f1
    have f2:S3 2=.slice v2 q.cd.length u2:=f2
    have f3:S3 3=.slice v3 q.ss.length u3:=f3
    have k1:w6.cell? ⟨b,42,none⟩=some (.slice v1 q.vs.length u1):=by rw[<-f1];exact k1
    have k2:w6.cell? ⟨b,43,none⟩=some (.slice v2 q.cd.length u2):=by rw[<-f2];exact k2
    have k3:w6.cell? ⟨b,46,none⟩=some (.slice v3 q.ss.length u3):=by rw[<-f3];exact k3
    have hsame:∀w8:World,(∀k,k≠w.heap.size->w8.heap[k]?=w6.heap[k]?)->ZsJ w8 (w.heap.size+1) s (.agg #[.int .i64 ln,.string T,.int .i64 q.hi,.slice v3 q.ss.length u3,.slice v1 q.vs.length u1,.slice v2 q.cd.length u2]):=λw8 h8=>by
     unfold ZsJ
     rw[hT.out,hq.out,hln.out]
     exact⟨S3,by rw[f1,f2,f3],(ZJ (ZfJ r1 (by omega)) λg hg=>h8 g (by have:=(r1.lt g hg).1;omega)),(ZJ (ZfJ r2 (by omega)) λg hg=>h8 g (by have:=(r2.lt g hg).1;omega)),(ZJ (ZfJ r3 (by omega)) λg hg=>h8 g (by have:=(r3.lt g hg).1;omega))⟩
    rw[hls2]at t1
    have hwb6:b<w6.heap.size:=A5.lt
    generalize plQ q=pl at *
    generalize q.vs.length=vl at *
    generalize q.cd.length=cl at *
    generalize q.ss.length=sl at *
    generalize q.hi=hgt at *
    replace hP:=Z_ hP
    replace hB5:=Z_ hB5
    replace hw6:=Z_ hw6
    replace hsame:=Z_ hsame
    replace hEf:=Z_ hEf
    have hl6:Kp (ls=T):=⟨hls2⟩
    clear A5 O5 Ot hEe hls2 M3 hG3 r1 r2 r3 f1 f2 f3 hls
    go_wp2_with fail
    rw[<-hw6.out]
    refine hP.out.mono ?_
    rintro e w7 ⟨rfl,hw⟩
    subst hw
    go_wp2_with fail
    refine bodyPost_ret (v:=.tuple #[.agg #[.int .i64 ln,.string T,.int .i64 hgt,.slice v3 sl u3,.slice v1 vl u1,.slice v2 cl u2],.int .i64 0,.int .i64 0]) (by simp[results,Tryz.results17,go_sem,x0,x1,x2,x3,x4,x5]) rfl ⟨_,by rw[hA.out,hEf.out],((((((hB5.out.setCell (Nat.le_refl _) _).setCell (Nat.le_refl _) _).setCell (Nat.le_refl _) _).setCell (Nat.le_refl _) _).setCell (Nat.le_refl _) _).setCell (Nat.le_refl _) _),⟨λ_=>hsame.out _ λk hk=>?_,λh=>absurd hEf.out h⟩⟩
    rw[QH _ ⟨w.heap.size,5,none⟩ _ k hk,QH _ ⟨w.heap.size,4,none⟩ _ k hk,QH _ ⟨w.heap.size,3,none⟩ _ k hk,QH _ ⟨w.heap.size,2,none⟩ _ k hk,QH _ ⟨w.heap.size,1,none⟩ _ k hk,QH _ ⟨w.heap.size,0,none⟩ _ k hk]
  ·have hEf:Kp (tqE s=er):=⟨by rw[hEe.out,if_pos hk0]⟩
   have hne0:Kp (¬er=0):=⟨hk0⟩
   have hkb:(er != 0)=true:=QO.2 hk0
   replace hB5:=Z_ hB5
   replace hw6:=Z_ hw6
   have z0:(w5.alloc (.cells #[.int .i64 ln,.string ls] 54))=w6:=hw6.out.symm
   clear A5 O5 Ot hEe M3 hG3 hk0
   go_wp2_with fail
   refine bodyPost_ret (v:=.tuple #[.agg #[.int .i64 0,.string {data:=#[]},.int .i64 0,.slice none 0 0,.slice none 0 0,.slice none 0 0],.int .i64 0,.int .i64 er]) (by simp[results,Tryz.results17,go_sem,x0,x1,x2,x3,x4,x5]) rfl ⟨_,by rw[hA.out,hEf.out],((((((hB5.out.setCell (Nat.le_refl _) _).setCell (Nat.le_refl _) _).setCell (Nat.le_refl _) _).setCell (Nat.le_refl _) _).setCell (Nat.le_refl _) _).setCell (Nat.le_refl _) _),⟨λh=>absurd (hEf.out.symm.trans h) hne0.out,λ_=>rfl⟩⟩
 ·have e300:¬300<s.size:=by omega
  have hA:Kp (tqA s=q.r.a):=⟨by unfold tqA;rw[if_neg e300,hq,if_pos her]⟩
  have hEf:Kp (tqE s=q.r.er):=⟨by unfold tqE;rw[if_neg e300,hq,if_pos her]⟩
  have hne0:Kp (¬q.r.er=0):=⟨her⟩
  have hkb:(q.r.er != 0)=true:=QO.2 her
  have x0:=O3.c 0 _ rfl
  have x1:=O3.c 1 _ rfl
  have x2:=O3.c 2 _ rfl
  have x3:=O3.c 3 _ rfl
  have x4:=O3.c 4 _ rfl
  have x5:=O3.c 5 _ rfl
  have y0:=O3.f 0 _ rfl
  have y1:=O3.f 1 _ rfl
  have y2:=O3.f 2 _ rfl
  have y3:=O3.f 3 _ rfl
  have y4:=O3.f 4 _ rfl
  have y5:=O3.f 5 _ rfl
  have xl:=O3.lt
  obtain⟨ra,hra⟩:∃ra,q.r.a=ra:=⟨_,rfl⟩
  obtain⟨re,hre⟩:∃re,q.r.er=re:=⟨_,rfl⟩
  rw[hra]at hA c1
  rw[hre]at hEf hne0 hkb c2
  replace hB3:=Z_ hB3
  have hbx:b≠w.heap.size:=by omega
  clear A3 O3 hS hq hE F3 hG3 her e300 hra hre
  go_wp2_with fail
  go_region
  all_goals
   go_wp2_with fail
   refine bodyPost_ret (v:=.tuple #[.agg #[.int .i64 0,.string {data:=#[]},.int .i64 0,.slice none 0 0,.slice none 0 0,.slice none 0 0],.int .i64 ra,.int .i64 re]) (by simp[results,Tryz.results17,go_sem,x0,x1,x2,x3,x4,x5]) rfl ⟨_,by rw[hA.out,hEf.out],((((((hB3.out.setCell (Nat.le_refl _) _).setCell (Nat.le_refl _) _).setCell (Nat.le_refl _) _).setCell (Nat.le_refl _) _).setCell (Nat.le_refl _) _).setCell (Nat.le_refl _) _).drew,⟨λh=>absurd (hEf.out.symm.trans h) hne0.out,λ_=>rfl⟩⟩
theorem Ziq(h:(readQ s).r.er=0):tabQ s=tabP s:=by
 have hS:=Zax s
 obtain⟨_,h2,_,h4,h5,_⟩:=hS.ok (by rw[<-hS.r];exact h)
 unfold tabQ tabP
 rw[h2,ZrO h4 h5]
theorem Zir:(tabP s).size=(nP s).toNat*(nP s).toNat:=by unfold tabP;rw[Zc,ZcF]
theorem Zr6(h:(readQ s).r.er=0)(hl:levE (tabP s)=0):levN (tabP s)=nP s:=by
 have hS:=Zax s
 obtain⟨_,_,_,_,_,n1,n6,_⟩:=hS.ok (by rw[<-hS.r];exact h)
 have h1:=ZhJ hl
 obtain⟨T,h2,_,_⟩:=Zce h1.1
 rw[ZhH hl]
 have a:=T.lo
 have b:=T.hi
 rw[Zir]at h2
 generalize tabN (tabP s)=x at *
 obtain⟨m,hm⟩:∃m:Nat,nP s=m:=⟨(nP s).toNat,by omega⟩
 rw[hm]at h2 n1 n6 ⊢
 simp only[QC]at h2
 have hx:x=1∨x=2∨x=3∨x=4∨x=5∨x=6:=by omega
 have hmm:m=1∨m=2∨m=3∨m=4∨m=5∨m=6:=by omega
 rcases hx with rfl|rfl|rfl|rfl|rfl|rfl<;>rcases hmm with rfl|rfl|rfl|rfl|rfl|rfl<;>omega
theorem ZkA(s:ZB):tqE s=transE s∧tqA s=transA s:=by
 have hS:=Zax s
 unfold tqE transE tqA transA
 rw[<-hS.r]
 by_cases h1:300<s.size
 ·simp[h1]
 ·by_cases h2:(readQ s).r.er=0
  ·obtain⟨_,_,_,_,_,_,_,_,_,_,h11⟩:=hS.ok (by rw[<-hS.r];exact h2)
   rw[Ziq h2]
   have:plQ (readQ s)=(Zbe s).length/2:=by unfold plQ Zbe;rw[h11]
   rw[this]
   exact⟨rfl,rfl⟩
  ·simp[h1,h2]
theorem ZqX(h:tqE s=0):bs (wl7 (levN (tabQ s)) (tabQ s) (readQ s).vs (readQ s).cd)=transF s:=by
 have hS:=Zax s
 have h300:¬300<s.size:=λc=>by unfold tqE at h;rw[if_pos c]at h;omega
 have her:(readQ s).r.er=0:=by
  unfold tqE at h
  rw[if_neg h300]at h
  by_cases c:(readQ s).r.er=0
  ·exact c
  ·rw[if_pos c]at h;exact absurd h c
 have hlv:levE (tabP s)=0:=by
  unfold tqE at h
  rw[if_neg h300,if_neg (by rw[her];simp),Ziq her]at h
  by_cases c:levE (tabP s)=0
  ·exact c
  ·rw[if_pos c]at h;exact absurd h c
 have hbg:¬200<plQ (readQ s):=λc=>by
  unfold tqE at h
  rw[if_neg h300,if_neg (by rw[her];simp),Ziq her,if_neg (by rw[hlv];simp),if_pos c]at h
  omega
 obtain⟨_,_,h3,_,_,n1,n6,_,_,_,h11⟩:=hS.ok (by rw[<-hS.r];exact her)
 have hcd:(readQ s).cd=Zbe s:=h11
 unfold plQ at hbg
 rw[hcd]at hbg
 unfold transF
 rw[if_neg (by
  rintro(c|c|c|c)
  ·exact h300 c
  ·rw[<-hS.r]at c;exact c her
  ·exact c hlv
  ·exact hbg c)]
 rw[Zr4,Ziq her,Zr6 her hlv,hcd,h3]
 unfold ZaI
 rw[show nP s%256=nP s from by omega]
theorem Znt(s:ZB)(w:World)(hs:s.size<=maxLen):Calls prog 17 #[.string s] w (ZkH s w):=by
 by_cases h:300<s.size
 ·exact Zly s w hs h
 ·exact ZjD s w (by omega)
theorem Zho(hs:s.size<=300):pot s (readQ s)<=5000∧(readQ s).vs.length<=1000:=by
 have key:∀k (q:Tq),pot s q<=5000->pot s (bodyQ s k q)<=5000∧(bodyQ s k q).vs=q.vs:=by
  intro k
  induction k with
  | zero=>intro q hp;exact⟨ZaA (Zh _ _) hp,rfl⟩
  | succ k ih=>
   intro q hp
   simp only[bodyQ]
   split
   ·rename_i h
    have hr:=Z1 s (adv s q.r)
    have hf:=(Zbc s (s.size+2) (-1) {q with r:=adv s q.r} ⟨adv s q.r,q.n,q.ls,q.vs,[],[]⟩ ⟨rfl,rfl,rfl,rfl⟩ (by show rem s (adv s q.r)<_;omega)).1.fq.vs
    have h2:=ih _ (Qg (ZbP s (s.size+2) (-1) {q with r:=adv s q.r} (by show (adv s q.r).er=0;rw[Zk];exact h.1)) (ZaA (Zh _ _) hp))
    exact⟨h2.1,h2.2.trans hf⟩
   ·exact⟨ZaA (Zh _ _) hp,rfl⟩
 have kp:∀k (q:Tq),pot s q<=5000->pot s (prsQ s k q)<=5000∧(prsQ s k q).vs=q.vs:=by
  intro k
  induction k with
  | zero=>intro q hp;exact⟨ZaA (Zh _ _) hp,rfl⟩
  | succ k ih=>
   intro q hp
   simp only[prsQ]
   split
   ·have h2:=ih (pairQ {q with r:=digR s (digR s (adv s q.r) 0 (q.n-1)) 0 (q.n-1)} (dig s (adv s q.r) 0 (q.n-1)) (dig s (digR s (adv s q.r) 0 (q.n-1)) 0 (q.n-1))) (Qg (ZaU (q:=q) (Qg (Z3 _ _ _ _) (Qg (Z3 _ _ _ _) (Zh _ _)))) hp)
    exact h2
   ·exact⟨ZaA (Zh _ _) hp,rfl⟩
 have kd:∀k (q:Tq),pot s q<=5000->pot s (decsQ s k q)<=5000∧(decsQ s k q).vs.length<=q.vs.length+k:=by
  intro k
  induction k with
  | zero=>intro q hp;exact⟨ZaA (Zh _ _) hp,Qb _⟩
  | succ k ih=>
   intro q hp
   simp only[decsQ]
   split
   ·have h2:=ih (decQ s {q with r:=adv s q.r}) (Qg Zns (ZaA (Zh _ _) hp))
    have h3:(decQ s {q with r:=adv s q.r}).vs.length<=q.vs.length+1:=by
     unfold decQ
     split
     ·exact Nat.le_succ _
     ·split
      ·exact Nat.le_succ _
      ·show (q.vs++_).length<=_
       rw[Qe];exact Qb _
    exact⟨h2.1,by omega⟩
   ·exact⟨ZaA (Zh _ _) hp,Nat.le_add_right _ _⟩
 have h0:pot s {startQ with r:=digR s startQ.r 1 6,n:=dig s startQ.r 1 6,pn:=dig s startQ.r 1 6,pr:=λi j=>decide (i=j)}<=5000:=by
  have h1:=Zip hs
  have h2:=Z3 s startQ.r 1 6
  have h3:=ZaG s startQ
  have h4:pot s {startQ with r:=digR s startQ.r 1 6,n:=dig s startQ.r 1 6,pn:=dig s startQ.r 1 6,pr:=λi j=>decide (i=j)}=startQ.cd.length+startQ.ss.length+Zaa s (digR s startQ.r 1 6):=ZaG _ _
  omega
 have h1:=kp (s.size+1) _ h0
 have h2:=kd (s.size+1) {prsQ s (s.size+1) {startQ with r:=digR s startQ.r 1 6,n:=dig s startQ.r 1 6,pn:=dig s startQ.r 1 6,pr:=λi j=>decide (i=j)} with r:=tk s (prsQ s (s.size+1) {startQ with r:=digR s startQ.r 1 6,n:=dig s startQ.r 1 6,pn:=dig s startQ.r 1 6,pr:=λi j=>decide (i=j)}).r 46} (ZaA (ZM _ _ _) h1.1)
 have h3:=key (s.size+1) (headQ s startQ) (ZaA (ZM _ _ _) h2.1)
 have h4:(readQ s)=bodyQ s (s.size+1) (headQ s startQ):=rfl
 rw[h4]
 constructor
 ·exact h3.1
 ·rw[h3.2]
  have h5:=h2.2
  have h6:({prsQ s (s.size+1) {startQ with r:=digR s startQ.r 1 6,n:=dig s startQ.r 1 6,pn:=dig s startQ.r 1 6,pr:=λi j=>decide (i=j)} with r:=tk s (prsQ s (s.size+1) {startQ with r:=digR s startQ.r 1 6,n:=dig s startQ.r 1 6,pn:=dig s startQ.r 1 6,pr:=λi j=>decide (i=j)}).r 46}:Tq).vs=[]:=h1.2
  rw[h6]at h5
  refine Qg h5 ?_
  show 0+(s.size+1)<=1000
  omega
theorem Zhp(hs:s.size<=300):(readQ s).cd.length<=5000∧(readQ s).vs.length<=1000:=⟨by have:=(Zho hs).1;unfold pot at this;omega,(Zho hs).2⟩
theorem ZoT(n h:Int)(T:ZB)(v1 v2 v3:Option Addr)(u1 u2 u3 sl:Nat)(vs cd:List Int)(B:Nat)(w:World)(hV:w.ownsRow B 5 1 (.slice v1 vs.length u1) vs.length (vs.map (Value.int .u8)))(hC:w.ownsRow B 5 1 (.slice v2 cd.length u2) cd.length (cd.map (Value.int .u8)))(hT:T.size<=100)(hvs:vs.length<=1000)(hcd:cd.length<=100000) :
  Calls prog 19 #[.agg #[.int .i64 n,.string T,.int .i64 h,.slice v3 sl u3,.slice v1 vs.length u1,.slice v2 cd.length u2]] w λe w'=>e=.returned (.string (bs (wl7 n T vs cd)))∧Below w.heap.size w w':=by
 obtain⟨w0,hw0⟩:∃w0,w0=w.alloc (.cells #[.int .i64 n,.string T,.int .i64 h,.slice v3 sl u3,.slice v1 vs.length u1,.slice v2 cd.length u2] 58):=⟨_,rfl⟩
 have B0:Below w.heap.size w w0:=by rw[hw0];exact(Qh _ _).alloc (Qb _) _
 have hW:=Zlx n T _ _ vs cd B w0 (Zq hV B0) (Zq hC B0) hT hvs hcd
 obtain⟨y,hy⟩:∃y,bs (wl7 n T vs cd)=y:=⟨_,rfl⟩
 rw[hy]at hW ⊢
 generalize vs.length=vl at *
 generalize cd.length=cl at *
 replace hW:=Z_ hW
 replace hw0:=Z_ hw0
 replace B0:=Z_ B0
 clear hV hC hy
 go_enter func19,ntmps19
 go_wp2_with fail
 rw[<-hw0.out]
 refine hW.out.mono ?_
 rintro e w1 ⟨rfl,b1⟩
 replace b1:=Z_ b1
 go_wp2
 go_ret
 exact⟨rfl,B0.out.trans (b1.out.mono B0.out.size)⟩
end Go.Proofs.YtcnbifdlkalimabGreat
