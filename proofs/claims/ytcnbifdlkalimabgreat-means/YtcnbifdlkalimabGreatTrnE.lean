import Derived.Test.YtcnbifdlkalimabGreatTrnF
import Derived.Test.YtcnbifdlkalimabGreatSrcB
import Derived.Deep.RegionLaw
/- Lemmas for the statement Means; their conditions stand in each. -/
namespace Go.Proofs.YtcnbifdlkalimabGreat
open Go.RowKit Go.Proofs.Tryz
set_option linter.unusedVariables false
set_option maxRecDepth 100000
variable{b g i:Nat}{S:Nat->Value}{q:Tq}{x:Tq×Sq}{w w':World}{s:ZB}
theorem Zv.setCode{c:Nat}(H:Zv w b s q S)(hS:S 2=.slice (some ⟨g,0,none⟩) q.cd.length c)(x:Int) :
  Zv (w.setCell ⟨g,i,none⟩ (.int .u8 x)) b s {q with cd:=q.cd.set i x} S∧Zn b b S S w (w.setCell ⟨g,i,none⟩ (.int .u8 x)):=by
 have hrow:w.ownsRow (b+1) 5 1 (S 2) q.cd.length (q.cd.map (Value.int .u8)):=H.o 2 (by omega)
 have hrow2:=hrow
 rw[hS]at hrow2
 obtain⟨st,gr⟩:=hrow2.stored i (.int .u8 x)
 have hgb:b+1<=g:=(hrow.lt g (by rw[hS];rfl)).1
 have blk:∀k,k≠g->(w.setCell ⟨g,i,none⟩ (.int .u8 x)).heap[k]?=w.heap[k]?:=λk hk=>QH w ⟨g,i,none⟩ _ k hk
 have key:∀k:Nat,(w.setCell ⟨g,i,none⟩ (.int .u8 x)).cell? ⟨b,k,none⟩=w.cell? ⟨b,k,none⟩:=λk=>Qo (w:=w) (a:=⟨b,k,none⟩) (blk b (by omega))
 refine⟨⟨by simpa using H.lt,(key _).trans H.c0,(key _).trans H.c1,(key _).trans H.c2,(key _).trans H.c3,(key _).trans H.c4,λi j hi hj=>(key _).trans (H.cp i j hi hj),(key _).trans H.ch,(key _).trans H.ci,λj hj=>(key _).trans (H.c j hj),λj hj=>?_,H.d,λj hj=>by rw[World.frozen?_setCell];exact H.f j hj⟩,⟨rfl,rfl,rfl,by simp,λk _ _ _ h3=>blk k (λe=>h3 2 (by omega) (by rw[hS,e];rfl)),λ_ _=>.inl rfl⟩⟩
 by_cases e:j=2
 ·subst e
  show (w.setCell ⟨g,i,none⟩ (.int .u8 x)).ownsRow (b+1) 5 1 (S 2) (q.cd.set i x).length ((q.cd.set i x).map (Value.int .u8))
  rw[hS,Um,List.map_set]
  exact st
 ·have e1:ZjJ {q with cd:=q.cd.set i x} j=ZjJ q j:=by unfold ZjJ;rw[if_neg e,if_neg e]
  have e2:ZjK {q with cd:=q.cd.set i x} j=ZjK q j:=by unfold ZjK;rw[if_neg e,if_neg e]
  rw[e1,e2]
  exact ZJ (H.o j hj) λk hk=>blk k (λe3=>by
   rcases H.d j 2 hj (by omega) e with c|c
   ·rw[c]at hk;simp at hk
   ·exact c (by rw[hk,hS,e3];rfl))
set_option maxHeartbeats 6400000
theorem Zgz(b:Nat)(s:ZB)(q:Tq)(S:Nat->Value)(z:Nat)(w:World)(H:Zv w b s q S)(M:Sml q)(hz:2*z+1<q.cd.length) :
  Calls prog 215 #[.pointer (some ⟨b,0,none⟩),.int .i64 z] w λe w'=>e=.returned (.tuple #[])∧Zv w' b s (aimQ q z) S∧Zn b b S S w w':=by
 have hl:=M.cd
 have c2:=H.c 2 (by omega)
 have hrow:w.ownsRow (b+1) 5 1 (S 2) q.cd.length (q.cd.map (Value.int .u8)):=H.o 2 (by omega)
 obtain⟨p,cp,e⟩:=Zb hrow
 rw[e]at c2 hrow
 have c2:w.cell? ⟨b,43,none⟩=some (.slice p q.cd.length cp):=c2
 obtain⟨g,rfl,x,hx,hc,hf⟩:=Zfq hrow hz
 have hR:=H.setCode (i:=2*z+1) e ((plQ q:Int)%256)
 have hP:=λw1 (h:Below w.heap.size w w1)=>Zb7 b s q S w1 (H.step h) M
 have hE:aimQ q z={q with cd:=q.cd.set (2*z+1) ((plQ q:Int)%256)}:=rfl
 rw[hE]
 have hw8:=wrap8 (plQ q)
 have hp2:((plQ q:Nat):Int)<=50000:=by unfold plQ;omega
 generalize plQ q=pl at *
 generalize q.cd.length=n at *
 obtain⟨k,hk⟩:∃k,2*z+1=k:=⟨_,rfl⟩
 have hki:2*(z:Int)+1=(k:Int):=by omega
 rw[hk]at hR hz hc hf ⊢
 have hkn:(k:Int)<(n:Int):=by omega
 obtain⟨hw1,hw2⟩:=i64w (x:=2*(z:Int)) (by omega) (by omega)
 obtain⟨hw3,hw4⟩:=i64w (x:=2*(z:Int)+1) (by omega) (by omega)
 replace hR:=Z_ hR
 replace hP:=Z_ hP
 have dlt:decide ((k:Int)<(n:Int))=true:=Qv hkn
 clear H M hrow hx e hE hk
 go_enter func215,ntmps215
 go_wp2_with fail
 go_region_with (go_at_call 42;refine(hP.out _ ((Qh _ _).drew)).mono ?_;rintro e w9 ⟨rfl,hw9⟩;subst hw9)
 all_goals
  go_wp2_with fail
  first|go_end0|refine Qi (Qp rfl _ _ _) rfl ?_
  exact⟨rfl,hR.out.1.step ⟨rfl,rfl,rfl,Qb _,λ_ _=>rfl⟩,hR.out.2.trans (Zn.below ⟨rfl,rfl,rfl,Qb _,λ_ _=>rfl⟩)⟩
theorem Own.same{vs:List Value}(h:Own w g vs)(hb:w'.heap[g]?=w.heap[g]?)(hs:w.heap.size<=w'.heap.size):Own w' g vs:=
 ⟨Qq h.lt hs,λi v hv=>by rw[Qo (w:=w) (a:=⟨g,i,none⟩) hb];exact h.c i v hv,λi v hv=>by rw[Qz (w:=w) (a:=⟨g,i,none⟩) hb];exact h.f i v hv⟩
theorem Own.setv{vs:List Value}(h:Own w g vs)(hi:i<vs.length)(x:Value):Own (w.setCell ⟨g,i,none⟩ x) g (vs.set i x):=by
 refine⟨by simpa using h.lt,λj v hv=>?_,λj v hv=>?_⟩
 ·by_cases e:i=j
  ·subst e
   rw[List.getElem?_set_self hi]at hv
   rw[<-Option.some.inj hv]
   exact Qk _ _ _ (h.c i _ (Qn hi))
  ·rw[List.getElem?_set_ne e]at hv
   rw[coff _ _ _ _ _ e]
   exact h.c j v hv
 ·rw[Qu]
  have hj:j<vs.length:=by
   have:=(Ql.1 hv).1
   simpa using this
  exact h.f j _ (Qn hj)
structure Zaf(w:World)(b:Nat)(s:ZB)(S:Nat->Value)(g:Nat)(x:Tq×Sq):Prop where
 H:Zv w b s x.1 S
 F:Fre w b S g
 W:Own w g (stV x.2)
def ZcI(b:Nat)(s:ZB)(S:Nat->Value)(g:Nat)(w:World)(y:Tq×Sq)(e:Ending)(w':World):Prop:=
 e=.returned (.tuple #[])∧∃S',Zaf w' b s S' g y∧Zn b g S S' w w'
theorem Zaf.rd{r:Rd}(E:Zaf w b s S g x)(h:Zi w w' b r):Zaf w' b s S g ({x.1 with r:=r},x.2):=
 ⟨E.H.rd h,E.F.to (Zn.rd (g:=b) h),E.W.same (h.block g E.F.ne) (by rw[h.size];exact Qb _)⟩
theorem Zaf.tr{S':Nat->Value}(E:Zaf w b s S g x)(H:Zv w' b s q S')(T:Zn b b S S' w w'):Zaf w' b s S' g (q,x.2):=
 ⟨H,E.F.to T,E.W.same (E.F.same T) T.size⟩
theorem Zo6{x:Sq}{l:Nat}(hl:l<6):stV {x with rd:=Zhs x.rd (l:Nat)}=(stV x).set (4+l) (.bool true):=by
 match l,hl with
 | 0,_=>rfl
 | 1,_=>rfl
 | 2,_=>rfl
 | 3,_=>rfl
 | 4,_=>rfl
 | 5,_=>rfl
theorem Zrm{x:Sq}{l:Nat}(hl:l<6):stV {x with tp:=Zhs x.tp (l:Nat)}=(stV x).set (10+l) (.bool true):=by
 match l,hl with
 | 0,_=>rfl
 | 1,_=>rfl
 | 2,_=>rfl
 | 3,_=>rfl
 | 4,_=>rfl
 | 5,_=>rfl
theorem Zaf.note{y:Sq}{v:Value}(E:Zaf w b s S g x)(hy:stV y=(stV x.2).set i v)(hi:i<16):Zaf (w.setCell ⟨g,i,none⟩ v) b s S g (x.1,y)∧Zn b g S S w (w.setCell ⟨g,i,none⟩ v):=by
 have blk:∀k,k≠g->(w.setCell ⟨g,i,none⟩ v).heap[k]?=w.heap[k]?:=λk hk=>QH w ⟨g,i,none⟩ _ k hk
 have hne:=E.F.ne
 have key:∀k:Nat,(w.setCell ⟨g,i,none⟩ v).cell? ⟨b,k,none⟩=w.cell? ⟨b,k,none⟩:=λk=>Qo (w:=w) (a:=⟨b,k,none⟩) (blk b (λe=>hne e.symm))
 have H:=E.H
 refine⟨⟨⟨by simpa using H.lt,(key _).trans H.c0,(key _).trans H.c1,(key _).trans H.c2,(key _).trans H.c3,(key _).trans H.c4,λi j hi hj=>(key _).trans (H.cp i j hi hj),(key _).trans H.ch,(key _).trans H.ci,λj hj=>(key _).trans (H.c j hj),λj hj=>ZJ (H.o j hj) λk hk=>blk k (λe=>E.F.no j hj (by rw[hk,e])),H.d,λj hj=>by rw[World.frozen?_setCell];exact H.f j hj⟩,⟨by simpa using E.F.lt,hne,E.F.no⟩,?_⟩,⟨rfl,rfl,rfl,by simp,λk _ _ hg _=>blk k hg,λ_ _=>.inl rfl⟩⟩
 show Own _ g (stV y)
 rw[hy]
 exact E.W.setv (by show i<16;exact hi) v
theorem Zd2(g o l:Nat)(vs:List Value)(w:World)(W:Own w g vs)(hl:l<6)(ho:o+l<vs.length) :
  Calls prog 241 #[.pointer (some ⟨g,o,none⟩),.int .i64 l] w λe w'=>e=.returned (.tuple #[])∧w'=w.setCell ⟨g,o+l,none⟩ (.bool true):=by
 have hc:=W.c (o+l) _ (Qn ho)
 have hf:=W.f (o+l) _ (Qn ho)
 have hl2:(l:Int)<6:=by omega
 generalize vs[o+l]=v at *
 clear W
 go_enter func241,ntmps241
 go_wp2_with fail
 first|go_end0|refine Qi (Qp rfl _ _ _) rfl ?_
 exact⟨rfl,rfl⟩
theorem ZeW(t:Int)(w:World):Calls prog 240 #[.int .u8 t] w λe w'=>e=.returned (.tuple #[.int .i64 (opOf t),.bool (opOf t != 0)])∧w'=w:=by
 by_cases h1:t=43
 ·subst h1
  go_enter func240,ntmps240
  go_wp2
  go_ret2
  exact⟨rfl,rfl⟩
 ·by_cases h2:t=45
  ·subst h2
   go_enter func240,ntmps240
   go_wp2
   go_ret2
   exact⟨rfl,rfl⟩
  ·by_cases h3:t=42
   ·subst h3
    go_enter func240,ntmps240
    go_wp2
    go_ret2
    exact⟨rfl,rfl⟩
   ·by_cases h4:t=60
    ·subst h4
     go_enter func240,ntmps240
     go_wp2
     go_ret2
     exact⟨rfl,rfl⟩
    ·by_cases h5:t=126
     ·subst h5
      go_enter func240,ntmps240
      go_wp2
      go_ret2
      exact⟨rfl,rfl⟩
     ·have e:opOf t=0:=by unfold opOf;rw[if_neg h1,if_neg h2,if_neg h3,if_neg h4,if_neg h5]
      rw[e]
      have k1:(t==43)=false:=Qf.2 h1
      have k2:(t==45)=false:=Qf.2 h2
      have k3:(t==42)=false:=Qf.2 h3
      have k4:(t==60)=false:=Qf.2 h4
      have k5:(t==126)=false:=Qf.2 h5
      clear h1 h2 h3 h4 h5 e
      go_enter func240,ntmps240
      go_wp2
      go_ret2
      exact⟨rfl,rfl⟩
def opR(s:ZB)(r:Rd):Rd:=if opOf (tok s r)=0 then adv s r else nx (adv s r)
theorem ZeD(b:Nat)(s:ZB)(r:Rd)(w:World)(H:Zct w b s r)(O:ZbV s r) :
  Calls prog 230 #[.pointer (some ⟨b,0,none⟩)] w λe w'=>e=.returned (.tuple #[.int .i64 (opOf (tok s r)),.bool (opOf (tok s r) != 0)])∧Zi w w' b (opR s r):=by
 have hP:=Zac b s r w H O
 have hA:=λ(w1:World) (T:Zi w w1 b (adv s r))=>H.to T
 have O1:=O.adv
 have hO:=λw1=>ZeW (tok s r) w1
 unfold opR
 by_cases h:opOf (tok s r)=0
 ·rw[if_pos h,h]
  rw[h]at hO
  generalize tok s r=t at *
  replace hP:=Z_ hP
  replace hO:=Z_ hO
  clear H O h hA
  go_enter func230,ntmps230
  go_wp2_with fail
  refine hP.out.mono ?_
  rintro e w1 ⟨rfl,T1⟩
  replace T1:=Z_ T1
  go_wp2_with fail
  refine(hO.out _).mono ?_
  rintro e w2 ⟨rfl,hw⟩
  subst hw
  go_wp2
  go_ret2
  exact⟨rfl,T1.out⟩
 ·rw[if_neg h]
  have hb:(opOf (tok s r) != 0)=true:=QO.2 h
  rw[hb]at hO ⊢
  generalize opOf (tok s r)=op at *
  generalize tok s r=t at *
  replace hP:=Z_ hP
  replace hO:=Z_ hO
  replace hA:=Z_ hA
  clear H O h hb
  go_enter func230,ntmps230
  go_wp2_with fail
  refine hP.out.mono ?_
  rintro e w1 ⟨rfl,T1⟩
  have hS:=Za9 b s (adv s r) w1 (hA.out w1 T1) O1
  replace hS:=Z_ hS
  replace T1:=Z_ T1
  clear hA hP
  go_wp2_with fail
  refine(hO.out _).mono ?_
  rintro e w2 ⟨rfl,hw⟩
  subst hw
  go_wp2_with fail
  refine hS.out.mono ?_
  rintro e w2 ⟨rfl,T2⟩
  go_wp2
  go_ret2
  exact⟨rfl,T1.out.trans T2⟩
theorem Gd.sml(G:Gd s q)(hp:pot s q<=9000):Sml q:=by
 unfold pot at hp
 exact⟨by omega,G.h0,G.h1,by omega,G.ll,G.vl⟩
theorem Gd.ok(G:Gd s q)(hs:s.size<=300):ZbV s q.r:=⟨hs,G.le⟩
theorem Zsl(G:Gd s q)(v:Nat):0<=lvOf q v∧lvOf q v<6:=by
 unfold lvOf
 rw[Qs]
 cases h:q.vs[v]? with
 | none=>exact⟨QP _,by show (0:Int)<6;omega⟩
 | some x=>exact G.vb x (Qw h)
theorem ZjL{r:Rd}{n:Int}(h6:n<=6):0<=dig s r 0 (n-1)∧dig s r 0 (n-1)<6:=by
 unfold dig
 split
 ·rename_i h
  have:=QB h
  omega
 ·omega
theorem ZnO(b g:Nat)(s:ZB)(x:Tq×Sq)(S:Nat->Value)(w:World)(E:Zaf w b s S g x)(G:Gd s x.1)(hs:s.size<=300)(hp:pot s x.1<=8000) :
  Calls prog 238 #[.pointer (some ⟨b,0,none⟩),.pointer (some ⟨g,0,none⟩)] w (ZcI b s S g w (Ziu s x)):=by
 have hT:=Zau b s x.1.r 36 w E.H.rdAt (G.ok hs)
 have O1:ZbV s (tk s x.1.r 36):=(G.ok hs).tk (by omega)
 have E0:Kp (Zaf w b s S g x):=⟨E⟩
 have hn:0<=x.1.n∧x.1.n<=6:=⟨G.n0,G.n6⟩
 obtain⟨l,hl⟩:∃l:Nat,dig s (tk s x.1.r 36) 0 (x.1.n-1)=l:=⟨(dig s (tk s x.1.r 36) 0 (x.1.n-1)).toNat,by have:=ZjL (s:=s) (r:=tk s x.1.r 36) G.n6;omega⟩
 have hl6:l<6:=by have:=ZjL (s:=s) (r:=tk s x.1.r 36) G.n6;omega
 have hQ:Ziu s x=(emitQ {x.1 with r:=digR s (tk s x.1.r 36) 0 (x.1.n-1)} 10 l,{x.2 with rd:=Zhs x.2.rd l,tp:=Zhs x.2.tp l}):=by unfold Ziu;rw[hl]
 rw[hQ]
 have G0:Kp (Gd s x.1):=⟨G⟩
 replace hp:=Z_ hp
 replace hT:=Z_ hT
 replace hl:=Z_ hl
 clear E G hQ
 go_enter func238,ntmps238
 go_wp2_with fail
 refine hT.out.mono ?_
 rintro e w1 ⟨rfl,T1⟩
 have E1:=E0.out.rd T1
 have hL:=Zbj b s {x.1 with r:=tk s x.1.r 36} S w1 E1.H O1 hn
 have hL:Calls prog 90 #[.pointer (some ⟨b,0,none⟩)] w1 λe w'=>e=.returned (.int .i64 (dig s (tk s x.1.r 36) 0 (x.1.n-1)))∧Zi w1 w' b (digR s (tk s x.1.r 36) 0 (x.1.n-1)):=hL
 rw[hl.out]at hL
 replace hL:=Z_ hL
 replace E1:=Z_ E1
 replace T1:=Z_ T1
 clear hT
 go_wp2_with fail
 refine hL.out.mono ?_
 rintro e w2 ⟨rfl,T2⟩
 have E2:=E1.out.rd T2
 have hS1:=Zd2 g 4 l (stV x.2) w2 E2.W hl6 (by show 4+l<16;omega)
 have N1:=E2.note (y:={x.2 with rd:=Zhs x.2.rd l}) (Zo6 hl6) (by omega)
 have hS2:=Zd2 g 10 l (stV {x.2 with rd:=Zhs x.2.rd l}) _ N1.1.W hl6 (by show 10+l<16;omega)
 have N2:=N1.1.note (y:={x.2 with rd:=Zhs x.2.rd l,tp:=Zhs x.2.tp l}) (Zrm (x:={x.2 with rd:=Zhs x.2.rd l}) hl6) (by omega)
 have Gr:Gd s {x.1 with r:=digR s (tk s x.1.r 36) 0 (x.1.n-1)}:=G0.out.r (Zad (by omega) (Z0 G0.out.le (by omega)))
 have Mr:=Gr.sml (by
  have h1:=ZaU (q:=x.1) (Qg (Z3 s (tk s x.1.r 36) 0 (x.1.n-1)) (ZM s x.1.r 36))
  have h2:=hp.out
  exact Qg h1 (by omega))
 have hE:=Za4 b s {x.1 with r:=digR s (tk s x.1.r 36) 0 (x.1.n-1)} S 10 l _ N2.1.H Mr (by omega)
 have TT:Zn b g S S w ((w2.setCell ⟨g,4+l,none⟩ (.bool true)).setCell ⟨g,10+l,none⟩ (.bool true)):=((Zn.rd T1.out).trans (Zn.rd T2)).trans (N1.2.trans N2.2)
 replace hS1:=Z_ hS1
 replace hS2:=Z_ hS2
 replace hE:=Z_ hE
 replace N2:=Z_ N2
 replace TT:=Z_ TT
 clear hL E1 T1 E2 N1 T2 Gr Mr
 go_wp2_with fail
 refine hS1.out.mono ?_
 rintro e w3 ⟨rfl,hw⟩
 subst hw
 go_wp2_with fail
 refine hS2.out.mono ?_
 rintro e w3 ⟨rfl,hw⟩
 subst hw
 go_wp2_with fail
 refine hE.out.mono ?_
 rintro e w3 ⟨rfl,S',A3,T3⟩
 have E3:=N2.out.1.tr A3 T3
 replace E3:=Z_ E3
 replace T3:=Z_ T3
 clear A3
 go_wp2_with fail
 first|go_end0|refine Qi (Qp rfl _ _ _) rfl ?_
 exact⟨rfl,S',E3.out,TT.out.trans T3.out.up⟩
theorem ZkL(b g:Nat)(s:ZB)(x:Tq×Sq)(S:Nat->Value)(w:World)(E:Zaf w b s S g x)(G:Gd s x.1)(hs:s.size<=300)(hp:pot s x.1<=8000) :
  Calls prog 239 #[.pointer (some ⟨b,0,none⟩),.pointer (some ⟨g,0,none⟩)] w (ZcI b s S g w (Ziv s x)):=by
 have hT:=Zcn b s x.1 S w E.H (G.sml (by omega)) (G.ok hs)
 have E0:Kp (Zaf w b s S g x):=⟨E⟩
 have hvv:=Zsl G (varI s x.1.r x.1.ls)
 obtain⟨l,hl⟩:∃l:Nat,lvOf x.1 (varI s x.1.r x.1.ls)=l:=⟨(lvOf x.1 (varI s x.1.r x.1.ls)).toNat,by omega⟩
 have hl6:l<6:=by omega
 have hQ:Ziv s x=(emitQ {x.1 with r:=varR s x.1.r x.1.ls} 1 (varI s x.1.r x.1.ls),{x.2 with rd:=Zhs x.2.rd l}):=by unfold Ziv;rw[hl]
 rw[hQ]
 have G0:Kp (Gd s x.1):=⟨G⟩
 obtain⟨vi,hvi⟩:∃vi,varI s x.1.r x.1.ls=vi:=⟨_,rfl⟩
 rw[hvi]at hT hl ⊢
 replace hp:=Z_ hp
 replace hT:=Z_ hT
 replace hl:=Z_ hl
 clear E G hQ hvv hvi
 go_enter func239,ntmps239
 go_wp2_with fail
 refine hT.out.mono ?_
 rintro e w1 ⟨rfl,T1⟩
 have E1:=E0.out.rd T1
 have Gr:Gd s {x.1 with r:=varR s x.1.r x.1.ls}:=G0.out.r (ZcD G0.out.le)
 have Mr:=Gr.sml (by
  have h1:=ZaU (q:=x.1) (ZcC s x.1.r x.1.ls)
  have h2:=hp.out
  exact Qg h1 (by omega))
 have hL:=Zfr b s {x.1 with r:=varR s x.1.r x.1.ls} S vi w1 E1.H Mr (λy hy=>by have:=G0.out.vb y hy;omega)
 have hL:Calls prog 217 #[.pointer (some ⟨b,0,none⟩),.int .i64 vi] w1 λe w'=>e=.returned (.int .i64 (lvOf x.1 vi))∧w'=w1:=hL
 rw[hl.out]at hL
 have hS1:=Zd2 g 4 l (stV x.2) w1 E1.W hl6 (by show 4+l<16;omega)
 have N1:=E1.note (y:={x.2 with rd:=Zhs x.2.rd l}) (Zo6 hl6) (by omega)
 have hE:=Za4 b s {x.1 with r:=varR s x.1.r x.1.ls} S 1 vi _ N1.1.H Mr (by omega)
 have TT:Zn b g S S w (w1.setCell ⟨g,4+l,none⟩ (.bool true)):=(Zn.rd T1).trans N1.2
 replace hL:=Z_ hL
 replace hS1:=Z_ hS1
 replace hE:=Z_ hE
 replace N1:=Z_ N1
 replace TT:=Z_ TT
 clear hT E1 T1 Gr Mr
 go_wp2_with fail
 refine hL.out.mono ?_
 rintro e w3 ⟨rfl,hw⟩
 subst hw
 go_wp2_with fail
 refine hS1.out.mono ?_
 rintro e w3 ⟨rfl,hw⟩
 subst hw
 go_wp2_with fail
 refine hE.out.mono ?_
 rintro e w3 ⟨rfl,S',A3,T3⟩
 have E3:=N1.out.1.tr A3 T3
 replace E3:=Z_ E3
 replace T3:=Z_ T3
 clear A3
 go_wp2_with fail
 first|go_end0|refine Qi (Qp rfl _ _ _) rfl ?_
 exact⟨rfl,S',E3.out,TT.out.trans T3.out.up⟩
def ZsC(b g:Nat)(s:ZB)(k:Nat):Prop:=∀(x:Tq×Sq) (S:Nat->Value) (w:World),Zaf w b s S g x->Gd s x.1->rem s x.1.r<k->pot s x.1<=7000->
 Calls prog 211 #[.pointer (some ⟨b,0,none⟩),.pointer (some ⟨g,0,none⟩)] w (ZcI b s S g w (exprQ s k x))
theorem ZjM(b g:Nat)(s:ZB)(hs:s.size<=300)(k:Nat)(ih:Kp (ZsC b g s k))(q:Tq)(x2:Sq)(S:Nat->Value)(w:World)(E:Zaf w b s S g (q,x2))(G:Gd s q)(hk:rem s q.r<=k)(hp:pot s q<=7002) :
  Calls prog 229 #[.pointer (some ⟨b,0,none⟩),.pointer (some ⟨g,0,none⟩)] w (ZcI b s S g w (termQ s (exprQ s k) (q,x2))):=by
 have hP:=Zac b s q.r w E.H.rdAt (G.ok hs)
 have E0:Kp (∀w1,Zi w w1 b (adv s q.r)->Zaf w1 b s S g ({q with r:=adv s q.r},x2)):=⟨λw1 T=>E.rd T⟩
 have Ga:Gd s {q with r:=adv s q.r}:=G.r (Ze G.le)
 have pa:pot s {q with r:=adv s q.r}<=7002:=Qg (ZaU (Zh s q.r)) hp
 have hD:=λw1=>Zdh (tok s q.r) w1
 obtain⟨y,hy⟩:∃y,termQ s (exprQ s k) (q,x2)=y:=⟨_,rfl⟩
 rw[hy]
 unfold termQ at hy
 dsimp only at hy
 by_cases h1:48<=tok s q.r∧tok s q.r<=57
 ·rw[if_pos h1]at hy
  rw[Qv h1]at hD
  obtain⟨h1,h2⟩:=h1
  obtain⟨nv,hnv⟩:∃nv,num s (adv s q.r)=nv:=⟨_,rfl⟩
  have hN:Kp (∀w1,Zi w w1 b (adv s q.r)->Calls prog 237 #[.pointer (some ⟨b,0,none⟩)] w1 λe w'=>e=.returned (.int .i64 nv.1)∧Zi w1 w' b nv.2):=⟨λw1 T=>by rw[<-hnv];exact ZfV b s (adv s q.r) w1 (E.rd T).H.rdAt (Ga.ok hs)⟩
  have Gn:Gd s {q with r:=nv.2}:=G.r (by rw[<-hnv];exact ZgG _ _ _ (Ze G.le))
  have pn:pot s {q with r:=nv.2}<=9000:=by
   have h3:=ZaU (q:=q) (Qg (Zhe s (adv s q.r)) (Zh s q.r))
   rw[hnv]at h3
   exact Qg h3 (by omega)
  have hE:Kp (∀w1,Zi w w1 b nv.2->Calls prog 212 #[.pointer (some ⟨b,0,none⟩),.int .i64 0,.int .i64 nv.1] w1 λe w'=>e=.returned (.tuple #[])∧∃S',Zv w' b s y.1 S'∧Zn b b S S' w1 w'):=⟨λw1 T=>by
   rw[<-hy,hnv]
   exact Za4 b s {q with r:=nv.2} S 0 nv.1 w1 (E.rd T).H (Gn.sml pn) (by omega)⟩
  have hy2:Kp (y.2=x2):=⟨by rw[<-hy]⟩
  have E1:Kp (∀w1,Zi w w1 b nv.2->Zaf w1 b s S g ({q with r:=nv.2},x2)):=⟨λw1 T=>E.rd T⟩
  replace hP:=Z_ hP
  replace hD:=Z_ hD
  clear Ga pa hy hnv Gn pn E G hk hp
  generalize tok s q.r=t at *
  go_enter func229,ntmps229
  go_wp2_with fail
  refine hP.out.mono ?_
  rintro e w1 ⟨rfl,T1⟩
  replace T1:=Z_ T1
  go_wp2_with fail
  refine(hD.out _).mono ?_
  rintro e w2 ⟨rfl,hw⟩
  subst hw
  go_wp2_with fail
  refine(hN.out _ T1.out).mono ?_
  rintro e w2 ⟨rfl,T2⟩
  have T12:Kp _:=⟨T1.out.trans T2⟩
  clear T2
  go_wp2_with fail
  refine(hE.out _ T12.out).mono ?_
  rintro e w3 ⟨rfl,S',A3,T3⟩
  have E3:=(E1.out _ T12.out).tr A3 T3
  replace E3:=Z_ E3
  replace T3:=Z_ T3
  clear A3
  go_wp2_with fail
  first|go_end0|refine Qi (Qp rfl _ _ _) rfl ?_
  exact⟨rfl,S',by have h:=E3.out;rw[<-hy2.out]at h;exact h,(Zn.rd T12.out).trans T3.out.up⟩
 ·rw[if_neg h1]at hy
  rw[Qx h1]at hD
  by_cases h2:tok s q.r=36
  ·rw[if_pos h2]at hy
   rw[h2]at hP hD
   have hT:Kp (∀w1,Zi w w1 b (adv s q.r)->Calls prog 238 #[.pointer (some ⟨b,0,none⟩),.pointer (some ⟨g,0,none⟩)] w1 (ZcI b s S g w1 y)):=⟨λw1 T=>by
    rw[<-hy]
    exact ZnO b g s ({q with r:=adv s q.r},x2) S w1 (E.rd T) Ga hs (by show pot s {q with r:=adv s q.r}<=8000;omega)⟩
   replace hP:=Z_ hP
   replace hD:=Z_ hD
   clear Ga pa hy E G hk hp h1 h2
   go_enter func229,ntmps229
   go_wp2_with fail
   refine hP.out.mono ?_
   rintro e w1 ⟨rfl,T1⟩
   replace T1:=Z_ T1
   go_wp2_with fail
   refine(hD.out _).mono ?_
   rintro e w2 ⟨rfl,hw⟩
   subst hw
   go_wp2_with fail
   refine(hT.out _ T1.out).mono ?_
   rintro e w2 ⟨rfl,S',E2,T2⟩
   replace E2:=Z_ E2
   replace T2:=Z_ T2
   go_wp2_with fail
   first|go_end0|refine Qi (Qp rfl _ _ _) rfl ?_
   exact⟨rfl,S',E2.out,(Zn.rd T1.out).trans T2.out⟩
  ·rw[if_neg h2]at hy
   have k2:(tok s q.r==36)=false:=Qf.2 h2
   by_cases h3:tok s q.r=40
   ·rw[if_pos h3]at hy
    have hlt:=ZK (s:=s) (r:=q.r) (by omega)
    have hpt:=Zs (s:=s) (r:=q.r) (by omega)
    have Gn:Gd s {q with r:=nx (adv s q.r)}:=G.r (Zak (by omega))
    have pn:pot s {q with r:=nx (adv s q.r)}<=7000:=by
     have:=ZaL s q (nx (adv s q.r))
     have:=ZaG s q
     omega
    obtain⟨u,hu⟩:∃u,exprQ s k ({q with r:=nx (adv s q.r)},x2)=u:=⟨_,rfl⟩
    rw[hu]at hy
    have hS:Kp (∀w1,Zi w w1 b (adv s q.r)->Calls prog 160 #[.pointer (some ⟨b,0,none⟩)] w1 λe w'=>e=.returned (.tuple #[])∧Zi w1 w' b (nx (adv s q.r))):=⟨λw1 T=>Za9 b s (adv s q.r) w1 (E.rd T).H.rdAt (Ga.ok hs)⟩
    have hX:Kp (∀w1,Zi w w1 b (nx (adv s q.r))->Calls prog 211 #[.pointer (some ⟨b,0,none⟩),.pointer (some ⟨g,0,none⟩)] w1 (ZcI b s S g w1 u)):=⟨λw1 T=>by
     rw[<-hu]
     exact ih.out ({q with r:=nx (adv s q.r)},x2) S w1 (E.rd T) Gn (by show rem s (nx (adv s q.r))<k;omega) pn⟩
    have Gu:Gd s u.1:=by rw[<-hu];exact Zee k _ Gn
    have hK:Kp (∀w1 S1,Zaf w1 b s S1 g u->Calls prog 92 #[.pointer (some ⟨b,0,none⟩),.int .u8 41] w1 λe w'=>e=.returned (.tuple #[])∧Zi w1 w' b (tk s u.1.r 41)):=⟨λw1 S1 E1=>Zau b s u.1.r 41 w1 E1.H.rdAt (Gu.ok hs)⟩
    rw[h3]at hP hD
    replace hP:=Z_ hP
    replace hD:=Z_ hD
    replace hy:=Z_ hy
    clear Ga pa E G hk hp h1 h2 h3 k2 Gn pn hu Gu hlt hpt E0
    go_enter func229,ntmps229
    go_wp2_with fail
    refine hP.out.mono ?_
    rintro e w1 ⟨rfl,T1⟩
    replace T1:=Z_ T1
    go_wp2_with fail
    refine(hD.out _).mono ?_
    rintro e w2 ⟨rfl,hw⟩
    subst hw
    go_wp2_with fail
    refine(hS.out _ T1.out).mono ?_
    rintro e w2 ⟨rfl,T2⟩
    have T12:Kp _:=⟨T1.out.trans T2⟩
    clear T1 T2
    go_wp2_with fail
    refine(hX.out _ T12.out).mono ?_
    rintro e w3 ⟨rfl,S',E3,T3⟩
    replace E3:=Z_ E3
    replace T3:=Z_ T3
    go_wp2_with fail
    refine(hK.out _ _ E3.out).mono ?_
    rintro e w4 ⟨rfl,T4⟩
    have E4:=E3.out.rd T4
    replace E4:=Z_ E4
    replace T4:=Z_ T4
    go_wp2_with fail
    first|go_end0|refine Qi (Qp rfl _ _ _) rfl ?_
    exact⟨rfl,S',by rw[<-hy.out];exact E4.out,((Zn.rd T12.out).trans T3.out).trans (Zn.rd T4.out)⟩
   ·rw[if_neg h3]at hy
    have k3:(tok s q.r==40)=false:=Qf.2 h3
    have hT:Kp (∀w1,Zi w w1 b (adv s q.r)->Calls prog 239 #[.pointer (some ⟨b,0,none⟩),.pointer (some ⟨g,0,none⟩)] w1 (ZcI b s S g w1 y)):=⟨λw1 T=>by
     rw[<-hy]
     exact ZkL b g s ({q with r:=adv s q.r},x2) S w1 (E.rd T) Ga hs (by show pot s {q with r:=adv s q.r}<=8000;omega)⟩
    generalize tok s q.r=t at *
    replace hP:=Z_ hP
    replace hD:=Z_ hD
    clear Ga pa hy E G hk hp h1 h2 h3
    go_enter func229,ntmps229
    go_wp2_with fail
    refine hP.out.mono ?_
    rintro e w1 ⟨rfl,T1⟩
    replace T1:=Z_ T1
    go_wp2_with fail
    refine(hD.out _).mono ?_
    rintro e w2 ⟨rfl,hw⟩
    subst hw
    go_wp2_with fail
    refine(hT.out _ T1.out).mono ?_
    rintro e w2 ⟨rfl,S',E2,T2⟩
    replace E2:=Z_ E2
    replace T2:=Z_ T2
    go_wp2_with fail
    first|go_end0|refine Qi (Qp rfl _ _ _) rfl ?_
    exact⟨rfl,S',E2.out,(Zn.rd T1.out).trans T2.out⟩
def muR(s:ZB)(r:Rd):Nat:=rem s r+(if r.er=0 then 1 else 0)
theorem ZaC(b g:Nat)(s:ZB)(hs:s.size<=300):∀k,ZsC b g s k
 | 0=>λx S w E G hk hp=>by omega
 | k+1=>by
  have ih:Kp (ZsC b g s k):=⟨ZaC b g s hs k⟩
  rintro⟨q,x2⟩ S w E G hk hp
  have hk:rem s q.r<k+1:=hk
  have hp:pot s q<=7000:=hp
  have G:Gd s q:=G
  obtain⟨y0,hy0⟩:∃y0,termQ s (exprQ s k) (q,x2)=y0:=⟨_,rfl⟩
  have hT:=ZjM b g s hs k ih q x2 S w E G (by omega) (by omega)
  rw[hy0]at hT
  have hQ:exprQ s (k+1) (q,x2)=moreQ s (termQ s (exprQ s k)) k y0:=by simp only[exprQ];rw[hy0]
  rw[hQ]
  have G0:Kp (Gd s y0.1):=⟨by rw[<-hy0];exact Zhf (Zee k) G⟩
  have p0:Kp (pot s y0.1<=7002):=⟨by rw[<-hy0];exact Qg (ZeT s _ (ZdQ s k) (q,x2)) (by show pot s q+2<=7002;omega)⟩
  have r0:Kp (rem s y0.1.r<=k):=⟨by
   have h:=(Zcj s k (ZbI s k) (q,x2) ⟨q.r,q.n,q.ls,q.vs,[],[]⟩ ⟨rfl,rfl,rfl,rfl⟩ (by show rem s q.r<=k;omega))
   rw[<-hy0,h.r]
   have:=h.le
   have c:rem s (⟨q.r,q.n,q.ls,q.vs,[],[]⟩:Rs).r=rem s q.r:=rfl
   omega⟩
  have hO:Kp (∀(x:Tq×Sq) w1 S1,Zaf w1 b s S1 g x->Gd s x.1->Calls prog 230 #[.pointer (some ⟨b,0,none⟩)] w1 λe w'=>e=.returned (.tuple #[.int .i64 (opOf (tok s x.1.r)),.bool (opOf (tok s x.1.r) != 0)])∧Zi w1 w' b (opR s x.1.r)):=⟨λx w1 S1 E1 G1=>ZeD b s x.1.r w1 E1.H.rdAt (G1.ok hs)⟩
  obtain⟨fin,hfin⟩:∃fin,moreQ s (termQ s (exprQ s k)) k y0=fin:=⟨_,rfl⟩
  rw[hfin]
  replace hT:=Z_ hT
  replace hfin:=Z_ hfin
  clear E G hk hp hy0 hQ
  go_enter func211,ntmps211
  go_wp2_with fail
  refine hT.out.mono ?_
  rintro e w1 ⟨rfl,S1,E1,T1⟩
  replace E1:=Z_ E1
  replace T1:=Z_ T1
  clear hT
  go_wp2_with fail
  refine(hO.out y0 _ _ E1.out G0.out).mono ?_
  rintro e w2 ⟨rfl,T2⟩
  replace T2:=Z_ T2
  go_wp2_with fail
  go_loopg [4,5] (rem s y0.1.r) (λgm ov kv wr=>∃(j:Nat) (x:Tq×Sq) (S':Nat->Value),ov=.int .i64 (opOf (tok s x.1.r))∧kv=.bool (opOf (tok s x.1.r) != 0)∧Kp (Zaf wr b s S' g ({x.1 with r:=opR s x.1.r},x.2))∧Kp (Gd s x.1)∧Kp (pot s x.1<=7002)∧Kp (rem s x.1.r<=j∧rem s x.1.r<=k)∧Kp (moreQ s (termQ s (exprQ s k)) j x=fin)∧Kp (Zn b g S S' w wr)∧Kp (gm=rem s x.1.r))
  case atStart=>exact⟨k,y0,S1,rfl,rfl,⟨E1.out.rd T2.out⟩,G0,p0,⟨r0.out,r0.out⟩,hfin,⟨T1.out.trans (Zn.rd T2.out)⟩,⟨rfl⟩⟩
  case round=>
   clear E1 T1 T2 G0 p0 r0 hfin
   obtain⟨j,⟨q1,x1⟩,S',rfl,rfl,hE,hG,hP,hR,hM,hT,hm⟩:=hrel
   have hE:Kp (Zaf wr b s S' g ({q1 with r:=opR s q1.r},x1)):=hE
   have hG:Kp (Gd s q1):=hG
   have hP:Kp (pot s q1<=7002):=hP
   have hR:Kp (rem s q1.r<=j∧rem s q1.r<=k):=hR
   have hm:Kp (gk=rem s q1.r):=hm
   by_cases h0:opOf (tok s q1.r)=0
   ·have e1:Kp (fin=({q1 with r:=adv s q1.r},x1)):=⟨by
     rw[<-hM.out]
     cases j with
     | zero=>rfl
     | succ j=>simp only[moreQ];rw[if_pos h0]⟩
    have hE2:Kp (Zaf wr b s S' g fin):=⟨by rw[e1.out];have:=hE.out;unfold opR at this;rw[if_pos h0]at this;exact this⟩
    have hq:(opOf (tok s q1.r) != 0)=false:=by rw[h0];rfl
    show Code.wp _ _ _ _ _
    rw[show (opOf (tok s (q1,x1).1.r) != 0)=false from hq]
    generalize opOf (tok s (q1,x1).1.r)=op at *
    clear hE hG hP hR hM hm h0 hq e1
    go_wp2_with fail
    first|go_end0|refine Qi (Qp rfl _ _ _) rfl ?_
    exact⟨rfl,S',hE2.out,hT.out⟩
   ·have hpos:=ZbG h0
    have hlt:=ZK (s:=s) (r:=q1.r) hpos.1
    have hpt:=Zs (s:=s) (r:=q1.r) hpos.1
    have hj:=hR.out
    obtain⟨j,rfl⟩:∃i,j=i+1:=⟨j-1,by omega⟩
    have Gn:Gd s {q1 with r:=nx (adv s q1.r)}:=hG.out.r (Zak hpos.1)
    have pn:pot s {q1 with r:=nx (adv s q1.r)}<=6994:=by
     have:=ZaL s q1 (nx (adv s q1.r))
     have:=ZaG s q1
     have:=hP.out
     omega
    have hE1:Zaf wr b s S' g ({q1 with r:=nx (adv s q1.r)},x1):=by have:=hE.out;unfold opR at this;rw[if_neg h0]at this;exact this
    have hT1:=ZjM b g s hs k ih {q1 with r:=nx (adv s q1.r)} x1 S' wr hE1 Gn (by show rem s (nx (adv s q1.r))<=k;omega) (by omega)
    obtain⟨u,hu⟩:∃u,termQ s (exprQ s k) ({q1 with r:=nx (adv s q1.r)},x1)=u:=⟨_,rfl⟩
    rw[hu]at hT1
    have Gu:Gd s u.1:=by rw[<-hu];exact Zhf (Zee k) Gn
    have pu:pot s u.1<=7000:=by rw[<-hu];exact Qg (ZeT s _ (ZdQ s k) ({q1 with r:=nx (adv s q1.r)},x1)) (by show pot s {q1 with r:=nx (adv s q1.r)}+2<=7000;omega)
    have ru:rem s u.1.r<=rem s (nx (adv s q1.r)):=by
     have h:=(Zcj s k (ZbI s k) ({q1 with r:=nx (adv s q1.r)},x1) ⟨nx (adv s q1.r),q1.n,q1.ls,q1.vs,[],[]⟩ ⟨rfl,rfl,rfl,rfl⟩ (by show rem s (nx (adv s q1.r))<=k;omega))
     rw[<-hu,h.r]
     exact h.le
    have hM2:moreQ s (termQ s (exprQ s k)) j (emitQ u.1 (opOf (tok s q1.r)) 0,u.2)=fin:=by
     rw[<-hM.out]
     simp only[moreQ]
     rw[if_neg h0,hu]
    have hEm:Kp (∀w1 S1,Zaf w1 b s S1 g u->Calls prog 212 #[.pointer (some ⟨b,0,none⟩),.int .i64 (opOf (tok s q1.r)),.int .i64 0] w1 λe w'=>e=.returned (.tuple #[])∧∃S',Zv w' b s (emitQ u.1 (opOf (tok s q1.r)) 0) S'∧Zn b b S1 S' w1 w'):=⟨λw1 S1 E1=>Za4 b s u.1 S1 _ 0 w1 E1.H (Gu.sml (by omega)) (by omega)⟩
    have Ge:Kp (Gd s (emitQ u.1 (opOf (tok s q1.r)) 0)):=⟨Gu.emit _ _⟩
    have pe:Kp (pot s (emitQ u.1 (opOf (tok s q1.r)) 0)<=7002):=⟨by rw[Zao];omega⟩
    have re:Kp (rem s u.1.r<=j∧rem s u.1.r<=k∧rem s u.1.r<rem s q1.r):=⟨by omega⟩
    have hq:(opOf (tok s q1.r) != 0)=true:=QO.2 h0
    rw[show (opOf (tok s (q1,x1).1.r) != 0)=true from hq]
    have hop:opOf (tok s (q1,x1).1.r)=opOf (tok s q1.r):=rfl
    rw[hop]
    generalize opOf (tok s q1.r)=op at *
    replace hT1:=Z_ hT1
    replace hM2:=Z_ hM2
    clear hop hq h0 hpos hlt hpt hj Gn pn hE1 Gu pu ru hM hE hG hP hR hu
    go_wp2_with fail
    refine hT1.out.mono ?_
    rintro e w3 ⟨rfl,S3,E3,T3⟩
    replace E3:=Z_ E3
    replace T3:=Z_ T3
    go_wp2_with fail
    refine(hEm.out _ _ E3.out).mono ?_
    rintro e w4 ⟨rfl,S4,A4,T4⟩
    have E4:=E3.out.tr A4 T4
    replace E4:=Z_ E4
    replace T4:=Z_ T4
    clear A4
    go_wp2_with fail
    refine(hO.out _ _ _ E4.out Ge.out).mono ?_
    rintro e w5 ⟨rfl,T5⟩
    replace T5:=Z_ T5
    go_wp2_with fail
    go_roundg (rem s u.1.r)
    case measure=>have h1:=hm.out;have h2:=re.out;omega
    case rel=>exact⟨j,(emitQ u.1 op 0,u.2),S4,rfl,rfl,⟨E4.out.rd T5.out⟩,Ge,pe,⟨re.out.1,re.out.2.1⟩,hM2,⟨(hT.out.trans T3.out).trans (T4.out.up.trans (Zn.rd T5.out))⟩,⟨rfl⟩⟩
theorem Zo{P:Program}{ops:Array Oper}{o:Oper}{a:Act}{w:World}{K:Act->World->Prop}{Q:Exit->Act->World->Prop}{E:Prop}
  (hgd:o.guard=none) (s x:Operand) (t:TypeId) (ho:o.op=Op.call {callee:=Callee.builtin Builtin.append,args:=#[s,x],argTypes:=#[t,t]})
  (base:Nat) (e:TypeId) (i:TypeInfo) (z:Value) (size bytes:Nat) (ht:P.underlying t=some (.slice e)) (hi:P.info? e=some i) (hz:i.zero=some z)
  (hsize:i.size=size) (hby:i.bytes=bytes) (hzs:z.cells.size=size) (hsz:0<size)
  (v:Value) (n:Nat) (xs:List Value) (hs:a.eval s=v) (hown:w.ownsRow base e size v n xs)
  (ad:Addr) (news:List Value) (hx:a.eval x=.slice (some ad) 1 1) (hl:news.length=1*size) (hu:∀j u,news[j]?=some u->w.cell? (ad.add j)=some u) (h1:∀u∈news,u.oneCell'=true)
  (h63:n+1<=maxLen) (hbytes:(n+1)*bytes<=140737488355328) (hbase:base<=w.heap.size)
  (hK:∀v' w',w'.ownsRow base e size v' (n+1) (xs++news)->w.grownBy w' v.ownBlock->(v'.ownBlock=v.ownBlock∨v'.ownBlock=some w.heap.size)->K (a.put o.dst v') w') :
  if Region.wanted o (yielded ops a.tmps)=true then Oper.wp P o a w K Q else E:=by
 have hw:Region.wanted o (yielded ops a.tmps)=true:=by simp[Region.wanted,hgd]
 rw[if_pos hw]
 obtain⟨v',w',hr,h2,h3,_,h5⟩:=run_append_own_at (P:=P) w base t o.type e i z size bytes ht hi hz hsize hby hzs hsz v n xs hown ad 1 1 news hl hu h1 h63 hbytes hbase
 unfold Oper.wp execOp
 simp only[ho,resolve,invoke,builtin,Ue,Sem.run_pure,Uo,List.map_toArray,List.map_cons,List.map_nil,hs,hx,hr]
 exact hK v' w' h2 h3 h5
def stA(x:Sq):Value:=.agg #[.int .i64 x.k,.int .i64 x.pl,.int .i64 x.ou,.int .i64 x.ta,.bool (x.rd 0),.bool (x.rd 1),.bool (x.rd 2),.bool (x.rd 3),.bool (x.rd 4),.bool (x.rd 5),.bool (x.tp 0),.bool (x.tp 1),.bool (x.tp 2),.bool (x.tp 3),.bool (x.tp 4),.bool (x.tp 5)]
theorem ZpM:(prog.info? 109).map (λi=>(i.zero,i.size,i.bytes))=some (some (.agg #[.int .i64 0,.int .i64 0,.int .i64 0,.int .i64 0,.bool false,.bool false,.bool false,.bool false,.bool false,.bool false,.bool false,.bool false,.bool false,.bool false,.bool false,.bool false]),16,48):=by kernel_rfl
theorem own16(w:World)(x:Sq)(t:TypeId):Own (w.alloc (.cells #[.int .i64 x.k,.int .i64 x.pl,.int .i64 x.ou,.int .i64 x.ta,.bool (x.rd 0),.bool (x.rd 1),.bool (x.rd 2),.bool (x.rd 3),.bool (x.rd 4),.bool (x.rd 5),.bool (x.tp 0),.bool (x.tp 1),.bool (x.tp 2),.bool (x.tp 3),.bool (x.tp 4),.bool (x.tp 5)] t)) w.heap.size (stV x):=by
 refine⟨by simp,?_,?_⟩
 ·intro i v hv
  have hi:i<16:=by have:=(List.getElem?_eq_some_iff.1 hv).1;simpa [stV] using this
  have e:(w.alloc (.cells #[.int .i64 x.k,.int .i64 x.pl,.int .i64 x.ou,.int .i64 x.ta,.bool (x.rd 0),.bool (x.rd 1),.bool (x.rd 2),.bool (x.rd 3),.bool (x.rd 4),.bool (x.rd 5),.bool (x.tp 0),.bool (x.tp 1),.bool (x.tp 2),.bool (x.tp 3),.bool (x.tp 4),.bool (x.tp 5)] t)).cell? ⟨w.heap.size,i,none⟩=(stV x)[i]?:=by
   match i,hi with
   | 0,_=>simp[go_sem,stV]
   | 1,_=>simp[go_sem,stV]
   | 2,_=>simp[go_sem,stV]
   | 3,_=>simp[go_sem,stV]
   | 4,_=>simp[go_sem,stV]
   | 5,_=>simp[go_sem,stV]
   | 6,_=>simp[go_sem,stV]
   | 7,_=>simp[go_sem,stV]
   | 8,_=>simp[go_sem,stV]
   | 9,_=>simp[go_sem,stV]
   | 10,_=>simp[go_sem,stV]
   | 11,_=>simp[go_sem,stV]
   | 12,_=>simp[go_sem,stV]
   | 13,_=>simp[go_sem,stV]
   | 14,_=>simp[go_sem,stV]
   | 15,_=>simp[go_sem,stV]
  rw[e]
  exact hv
 ·intro i v hv
  have hi:i<16:=by have:=(List.getElem?_eq_some_iff.1 hv).1;simpa [stV] using this
  match i,hi with
  | 0,_=>simp[go_sem]
  | 1,_=>simp[go_sem]
  | 2,_=>simp[go_sem]
  | 3,_=>simp[go_sem]
  | 4,_=>simp[go_sem]
  | 5,_=>simp[go_sem]
  | 6,_=>simp[go_sem]
  | 7,_=>simp[go_sem]
  | 8,_=>simp[go_sem]
  | 9,_=>simp[go_sem]
  | 10,_=>simp[go_sem]
  | 11,_=>simp[go_sem]
  | 12,_=>simp[go_sem]
  | 13,_=>simp[go_sem]
  | 14,_=>simp[go_sem]
  | 15,_=>simp[go_sem]
theorem ZgA(b:Nat)(s:ZB)(q:Tq)(S:Nat->Value)(x:Sq)(w:World)(H:Zv w b s q S)(M:Sml q) :
  Calls prog 213 #[.pointer (some ⟨b,0,none⟩),stA x] w λe w'=>e=.returned (.int .i64 q.ss.length)∧∃S',Zv w' b s (addQ q x) S'∧Zn b b S S' w w':=by
 have c:=H.c 3 (by omega)
 have c:w.cell? ⟨b,46,none⟩=some (S 3):=c
 have hlt:=H.lt
 have hl:=M.ss
 obtain⟨i0,hi0,hz0,hz1,hz2⟩:=infoParts ZpM
 have hrow:w.ownsRow (b+1) 109 16 (S 3) q.ss.length (q.ss.flatMap stV):=H.o 3 (by omega)
 have hnb:some b≠(S 3).ownBlock:=λe=>by have:=(hrow.lt _ e.symm).1;omega
 obtain⟨wa,hwa⟩:∃wa,wa=w.alloc (.cells #[.int .i64 x.k,.int .i64 x.pl,.int .i64 x.ou,.int .i64 x.ta,.bool (x.rd 0),.bool (x.rd 1),.bool (x.rd 2),.bool (x.rd 3),.bool (x.rd 4),.bool (x.rd 5),.bool (x.tp 0),.bool (x.tp 1),.bool (x.tp 2),.bool (x.tp 3),.bool (x.tp 4),.bool (x.tp 5)] 109):=⟨_,rfl⟩
 obtain⟨wb,hwb⟩:∃wb,wb=wa.alloc (.cells #[.int .i64 x.k,.int .i64 x.pl,.int .i64 x.ou,.int .i64 x.ta,.bool (x.rd 0),.bool (x.rd 1),.bool (x.rd 2),.bool (x.rd 3),.bool (x.rd 4),.bool (x.rd 5),.bool (x.tp 0),.bool (x.tp 1),.bool (x.tp 2),.bool (x.tp 3),.bool (x.tp 4),.bool (x.tp 5)] 109):=⟨_,rfl⟩
 have O1:Own wa w.heap.size (stV x):=by rw[hwa];exact own16 w x _
 have O2:Own wb.drew wa.heap.size (stV x):=by
  have:=own16 wa x 109
  rw[<-hwb]at this
  exact this.step ((Qh _ _).drew)
 have bel1:Below w.heap.size w wb.drew:=by
  rw[hwb,hwa]
  exact(((Qh _ _).alloc (Qb _) _).alloc (by simp) _).drew
 have hsz:wb.drew.heap.size=w.heap.size+2:=by rw[hwb,hwa];simp
 have d0:=O1.c 0 _ rfl
 have d1:=O1.c 1 _ rfl
 have d2:=O1.c 2 _ rfl
 have d3:=O1.c 3 _ rfl
 have d4:=O1.c 4 _ rfl
 have d5:=O1.c 5 _ rfl
 have d6:=O1.c 6 _ rfl
 have d7:=O1.c 7 _ rfl
 have d8:=O1.c 8 _ rfl
 have d9:=O1.c 9 _ rfl
 have d10:=O1.c 10 _ rfl
 have d11:=O1.c 11 _ rfl
 have d12:=O1.c 12 _ rfl
 have d13:=O1.c 13 _ rfl
 have d14:=O1.c 14 _ rfl
 have d15:=O1.c 15 _ rfl
 have ca:wa.cell? ⟨b,46,none⟩=some (S 3):=by rw[hwa,((Qh _ w).alloc (Qb _) _).cell (p:=⟨b,46,none⟩) hlt];exact c
 have hlt2:b<wa.heap.size:=by rw[hwa];simp;omega
 have hlt3:w.heap.size<wa.heap.size:=by rw[hwa];simp
 have H':Kp _:=⟨H⟩
 replace hrow:=Z_ hrow
 replace hnb:=Z_ hnb
 replace O2:=Z_ O2
 replace bel1:=Z_ bel1
 replace hsz:=Z_ hsz
 replace hwa:=Z_ hwa
 replace hwb:=Z_ hwb
 clear H M O1 c
 unfold stA
 go_enter func213,ntmps213
 go_wp2_with fail
 rw[<-hwa.out]
 have K1:Kp (wb.drew.ownsRow (b+1) 109 16 (S 3) q.ss.length (q.ss.flatMap stV)):=⟨Zq hrow.out bel1.out⟩
 have K2:Kp (∀j u,(stV x)[j]?=some u->wb.drew.cell? ((⟨wa.heap.size,0,none⟩:Addr).add j)=some u):=⟨λj u hj=>by
  have:=O2.out.c j u hj
  rcases Q0 j with h0|h0
  ·subst h0;simpa [Addr.add] using this
  ·have h1:¬j=0:=by omega
   simpa [Addr.add,h1] using this⟩
 have K3:Kp (∀u,u∈stV x->u.oneCell'=true):=⟨λu hu=>by
  unfold stV at hu
  simp only[Uc,QV,or_false]at hu
  rcases hu with rfl|rfl|rfl|rfl|rfl|rfl|rfl|rfl|rfl|rfl|rfl|rfl|rfl|rfl|rfl|rfl<;>rfl⟩
 have K4:Kp (b+1<=wb.drew.heap.size):=⟨by rw[hsz.out];omega⟩
 have K5:Kp (wb.drew.cell? ⟨b,46,none⟩=some (S 3)∧wb.drew.frozen? ⟨b,46,none⟩=false):=⟨by rw[bel1.out.cell (p:=⟨b,46,none⟩) hlt];exact H'.out.c 3 (by omega),by rw[bel1.out.frozen (p:=⟨b,46,none⟩) hlt];exact H'.out.f 46 (by omega)⟩
 go_region_law (rw[<-hwb.out];refine Zo rfl (.tmp 9) (.tmp 11) 55 rfl (b+1) 109 i0 _ 16 48 Tryz.underlying55 hi0 hz0 hz1 hz2 rfl (by decide) (S 3) q.ss.length (q.ss.flatMap stV) (by simp[Act.eval]) K1.out ⟨wa.heap.size,0,none⟩ (stV x) (by simp[Act.eval]) rfl K2.out K3.out (by unfold maxLen;omega) (by omega) K4.out ?_;intro v' w3 hown hgrow hat;obtain⟨pp,cc,rfl⟩:=Zb hown;have a1:w3.cell? ⟨b,46,none⟩=some (S 3):=(by rw[World.cell?_of_block (w:=wb.drew) (hgrow.block b (by rw[hsz.out];omega) hnb.out)];exact K5.out.1);have f1:w3.frozen? ⟨b,46,none⟩=false:=(by rw[World.frozen?_of_block (w:=wb.drew) (hgrow.block b (by rw[hsz.out];omega) hnb.out)];exact K5.out.2))
 all_goals
  have hR:Zv (w3.setCell ⟨b,46,none⟩ (.slice pp (q.ss.length+1) cc)) b s (addQ q x) (λj=>if j=3 then .slice pp (q.ss.length+1) cc else S j)∧Zn b b S (λj=>if j=3 then .slice pp (q.ss.length+1) cc else S j) w (w3.setCell ⟨b,46,none⟩ (.slice pp (q.ss.length+1) cc)):=
   Zv.told (l:=3) H'.out (by omega) bel1.out hgrow (by
    have e1:ZjJ (addQ q x) 3=q.ss.length+1:=by show (q.ss++[x]).length=_;rw[Qe];rfl
    have e2:ZjK (addQ q x) 3=q.ss.flatMap stV++stV x:=by show (q.ss++[x]).flatMap stV=_;rw[List.flatMap_append];simp
    rw[e1,e2]
    exact hown) hat rfl rfl rfl rfl rfl rfl (λj hj hne=>by
     match j,hj with
     | 0,_=>rfl
     | 1,_=>rfl
     | 2,_=>rfl
     | 3,_=>exact absurd rfl hne) (λj hj hne=>by
     match j,hj with
     | 0,_=>rfl
     | 1,_=>rfl
     | 2,_=>rfl
     | 3,_=>exact absurd rfl hne)
  have a2:(w3.setCell ⟨b,46,none⟩ (.slice pp (q.ss.length+1) cc)).cell? ⟨b,46,none⟩=some (.slice pp (q.ss.length+1) cc):=Qk _ _ _ a1
  replace hR:=Z_ hR
  clear hown hgrow hat a1 f1 K1 K2 K3 K4 K5 d0 d1 d2 d3 d4 d5 d6 d7 d8 d9 d10 d11 d12 d13 d14 d15 ca hrow
  generalize hn:q.ss.length=n at *
  replace hn:=Z_ hn
  go_wp2
  go_ret
  exact⟨by rw[hn.out];simp,_,hR.out.1,hR.out.2⟩
end Go.Proofs.YtcnbifdlkalimabGreat
