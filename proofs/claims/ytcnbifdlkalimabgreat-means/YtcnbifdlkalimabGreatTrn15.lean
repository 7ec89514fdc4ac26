/- Lemmas for the statement Means; their conditions stand in each. -/
import Derived.Test.YtcnbifdlkalimabGreatTrnB
namespace Go.Proofs.YtcnbifdlkalimabGreat
open Go.RowKit Go.Proofs.Tryz
set_option linter.unusedVariables false
set_option maxRecDepth 100000
set_option maxHeartbeats 6400000
theorem Zjb(b:Nat)(s:ZB)(hs:s.size<=300)(k:Nat)(ih:Kp (ZnG b s k))(ou:Int)(q:Tq)(S:Nat->Value)(w:World)(H:Zv w b s q S)(G:Gd s q)(hk:rem s q.r+2<=k+1)(he:q.r.er=0)(hp:pot s q<=6000)(h1:tok s q.r=62) :
  Calls prog 95 #[.pointer (some ⟨b,0,none⟩),.int .i64 ou] w (Zaw b s S w (stmQ s (k+1) ou q)):=by
 have hP:=Zac b s q.r w H.rdAt (G.ok hs)
 have hA:=λ(w1:World) (T:Zi w w1 b (adv s q.r))=>H.rd T
 have Ga:Gd s {q with r:=adv s q.r}:=G.r (Ze G.le)
 have pa:pot s {q with r:=adv s q.r}<=6000:=ZaA (Zh _ _) hp
 have ka:rem s (adv s q.r)+1<=k:=by have:=Zt s q.r;omega
 obtain⟨y,hy⟩:∃y,stmQ s (k+1) ou q=y:=⟨_,rfl⟩
 obtain⟨a,ha⟩:∃a,(adv s q.r).a=a:=⟨_,rfl⟩
 rw[hy]
 simp only[stmQ]at hy
 rw[if_pos h1]at hy
 rw[h1]at hP
 have hC:Kp (∀w1,Zi w w1 b (adv s q.r)->Calls prog 163 #[.pointer (some ⟨b,0,none⟩),.agg #[.int .i64 0,.int .i64 a,.int .i64 ou,.int .i64 0,.bool false,.bool false,.bool false,.bool false,.bool false,.bool false,.bool false,.bool false,.bool false,.bool false,.bool false,.bool false]] (w1.alloc (.cells #[.int .i64 0,.int .i64 a,.int .i64 ou,.int .i64 0,.bool false,.bool false,.bool false,.bool false,.bool false,.bool false,.bool false,.bool false,.bool false,.bool false,.bool false,.bool false] 109)) (Zaw b s S (w1.alloc (.cells #[.int .i64 0,.int .i64 a,.int .i64 ou,.int .i64 0,.bool false,.bool false,.bool false,.bool false,.bool false,.bool false,.bool false,.bool false,.bool false,.bool false,.bool false,.bool false] 109)) y)):=⟨λw1 T=>by
  rw[<-hy,<-ha]
  exact ZmW b s hs {q with r:=adv s q.r} ⟨0,((adv s q.r).a:Int),ou,0,none6,none6⟩ S _ (H.rd T |>.step ((Qh _ _).alloc (Qb _) _)) Ga (by omega)⟩
 replace hP:=Z_ hP
 replace hA:=Z_ hA
 clear H G hk he hp Ga pa hy
 go_enter func95,ntmps95
 go_wp2_with fail
 refine hP.out.mono ?_
 rintro e w1 ⟨rfl,R1⟩
 have c1:w1.cell? ⟨b,1,none⟩=some (.int .i64 a):=by rw[<-ha];exact R1.c1
 have hb1:=(hA.out w1 R1).lt
 replace R1:=Z_ R1
 go_wp2_with fail
 refine(hC.out _ R1.out).mono ?_
 rintro e w2 ⟨rfl,S2,A2,T2⟩
 replace A2:=Z_ A2
 replace T2:=Z_ T2
 go_wp2_with fail
 first|go_end0|refine Qi (Qp rfl _ _ _) rfl ?_
 exact⟨rfl,S2,A2.out,((Zn.rd R1.out).trans (Zn.below ((Qh _ _).alloc (Qb _) _))).trans T2.out⟩
theorem Zjc(b:Nat)(s:ZB)(hs:s.size<=300)(k:Nat)(ih:Kp (ZnG b s k))(ou:Int)(q:Tq)(S:Nat->Value)(w:World)(H:Zv w b s q S)(G:Gd s q)(hk:rem s q.r+2<=k+1)(he:q.r.er=0)(hp:pot s q<=6000)(h1:¬tok s q.r=62)(h2:tok s q.r=63) :
  Calls prog 95 #[.pointer (some ⟨b,0,none⟩),.int .i64 ou] w (Zaw b s S w (stmQ s (k+1) ou q)):=by
 have hP:=Zac b s q.r w H.rdAt (G.ok hs)
 have hA:=λ(w1:World) (T:Zi w w1 b (adv s q.r))=>H.rd T
 have Ga:Gd s {q with r:=adv s q.r}:=G.r (Ze G.le)
 have pa:pot s {q with r:=adv s q.r}<=6000:=ZaA (Zh _ _) hp
 have ka:rem s (adv s q.r)+1<=k:=by have:=Zt s q.r;omega
 obtain⟨y,hy⟩:∃y,stmQ s (k+1) ou q=y:=⟨_,rfl⟩
 obtain⟨a,ha⟩:∃a,(adv s q.r).a=a:=⟨_,rfl⟩
 rw[hy]
 simp only[stmQ]at hy
 rw[if_neg h1,if_pos h2]at hy
 rw[h2]at hP
 have hC:Kp (∀w1,Zi w w1 b (adv s q.r)->Calls prog 164 #[.pointer (some ⟨b,0,none⟩),.agg #[.int .i64 0,.int .i64 a,.int .i64 ou,.int .i64 0,.bool false,.bool false,.bool false,.bool false,.bool false,.bool false,.bool false,.bool false,.bool false,.bool false,.bool false,.bool false]] (w1.alloc (.cells #[.int .i64 0,.int .i64 a,.int .i64 ou,.int .i64 0,.bool false,.bool false,.bool false,.bool false,.bool false,.bool false,.bool false,.bool false,.bool false,.bool false,.bool false,.bool false] 109)) (Zaw b s S (w1.alloc (.cells #[.int .i64 0,.int .i64 a,.int .i64 ou,.int .i64 0,.bool false,.bool false,.bool false,.bool false,.bool false,.bool false,.bool false,.bool false,.bool false,.bool false,.bool false,.bool false] 109)) y)):=⟨λw1 T=>by
  rw[<-hy,<-ha]
  exact Zlm b s hs k ih {q with r:=adv s q.r} ⟨0,((adv s q.r).a:Int),ou,0,none6,none6⟩ S _ (H.rd T |>.step ((Qh _ _).alloc (Qb _) _)) Ga (by show tok s (adv s q.r)=63;rw[Zp];exact h2) ka pa⟩
 replace hP:=Z_ hP
 replace hA:=Z_ hA
 clear H G hk he hp Ga pa hy h1
 go_enter func95,ntmps95
 go_wp2_with fail
 refine hP.out.mono ?_
 rintro e w1 ⟨rfl,R1⟩
 have c1:w1.cell? ⟨b,1,none⟩=some (.int .i64 a):=by rw[<-ha];exact R1.c1
 have hb1:=(hA.out w1 R1).lt
 replace R1:=Z_ R1
 go_wp2_with fail
 refine(hC.out _ R1.out).mono ?_
 rintro e w2 ⟨rfl,S2,A2,T2⟩
 replace A2:=Z_ A2
 replace T2:=Z_ T2
 go_wp2_with fail
 first|go_end0|refine Qi (Qp rfl _ _ _) rfl ?_
 exact⟨rfl,S2,A2.out,((Zn.rd R1.out).trans (Zn.below ((Qh _ _).alloc (Qb _) _))).trans T2.out⟩
theorem Zjd(b:Nat)(s:ZB)(hs:s.size<=300)(k:Nat)(ih:Kp (ZnG b s k))(ou:Int)(q:Tq)(S:Nat->Value)(w:World)(H:Zv w b s q S)(G:Gd s q)(hk:rem s q.r+2<=k+1)(he:q.r.er=0)(hp:pot s q<=6000)(h1:¬tok s q.r=62)(h2:¬tok s q.r=63)(h3:tok s q.r=64) :
  Calls prog 95 #[.pointer (some ⟨b,0,none⟩),.int .i64 ou] w (Zaw b s S w (stmQ s (k+1) ou q)):=by
 have hP:=Zac b s q.r w H.rdAt (G.ok hs)
 have hA:=λ(w1:World) (T:Zi w w1 b (adv s q.r))=>H.rd T
 have Ga:Gd s {q with r:=adv s q.r}:=G.r (Ze G.le)
 have pa:pot s {q with r:=adv s q.r}<=6000:=ZaA (Zh _ _) hp
 have ka:rem s (adv s q.r)+1<=k:=by have:=Zt s q.r;omega
 obtain⟨y,hy⟩:∃y,stmQ s (k+1) ou q=y:=⟨_,rfl⟩
 obtain⟨a,ha⟩:∃a,(adv s q.r).a=a:=⟨_,rfl⟩
 rw[hy]
 simp only[stmQ]at hy
 rw[if_neg h1,if_neg h2,if_pos h3]at hy
 rw[h3]at hP
 have hC:Kp (∀w1,Zi w w1 b (adv s q.r)->Calls prog 165 #[.pointer (some ⟨b,0,none⟩),.agg #[.int .i64 0,.int .i64 a,.int .i64 ou,.int .i64 0,.bool false,.bool false,.bool false,.bool false,.bool false,.bool false,.bool false,.bool false,.bool false,.bool false,.bool false,.bool false]] (w1.alloc (.cells #[.int .i64 0,.int .i64 a,.int .i64 ou,.int .i64 0,.bool false,.bool false,.bool false,.bool false,.bool false,.bool false,.bool false,.bool false,.bool false,.bool false,.bool false,.bool false] 109)) (Zaw b s S (w1.alloc (.cells #[.int .i64 0,.int .i64 a,.int .i64 ou,.int .i64 0,.bool false,.bool false,.bool false,.bool false,.bool false,.bool false,.bool false,.bool false,.bool false,.bool false,.bool false,.bool false] 109)) y)):=⟨λw1 T=>by
  rw[<-hy,<-ha]
  exact Zll b s hs k ih {q with r:=adv s q.r} ⟨0,((adv s q.r).a:Int),ou,0,none6,none6⟩ S _ (H.rd T |>.step ((Qh _ _).alloc (Qb _) _)) Ga (by show tok s (adv s q.r)=64;rw[Zp];exact h3) ka pa⟩
 replace hP:=Z_ hP
 replace hA:=Z_ hA
 clear H G hk he hp Ga pa hy h1 h2
 go_enter func95,ntmps95
 go_wp2_with fail
 refine hP.out.mono ?_
 rintro e w1 ⟨rfl,R1⟩
 have c1:w1.cell? ⟨b,1,none⟩=some (.int .i64 a):=by rw[<-ha];exact R1.c1
 have hb1:=(hA.out w1 R1).lt
 replace R1:=Z_ R1
 go_wp2_with fail
 refine(hC.out _ R1.out).mono ?_
 rintro e w2 ⟨rfl,S2,A2,T2⟩
 replace A2:=Z_ A2
 replace T2:=Z_ T2
 go_wp2_with fail
 first|go_end0|refine Qi (Qp rfl _ _ _) rfl ?_
 exact⟨rfl,S2,A2.out,((Zn.rd R1.out).trans (Zn.below ((Qh _ _).alloc (Qb _) _))).trans T2.out⟩
theorem Zje(b:Nat)(s:ZB)(hs:s.size<=300)(k:Nat)(ih:Kp (ZnG b s k))(ou:Int)(q:Tq)(S:Nat->Value)(w:World)(H:Zv w b s q S)(G:Gd s q)(hk:rem s q.r+2<=k+1)(he:q.r.er=0)(hp:pot s q<=6000)(h1:¬tok s q.r=62)(h2:¬tok s q.r=63)(h3:¬tok s q.r=64) :
  Calls prog 95 #[.pointer (some ⟨b,0,none⟩),.int .i64 ou] w (Zaw b s S w (stmQ s (k+1) ou q)):=by
 have hP:=Zac b s q.r w H.rdAt (G.ok hs)
 have hA:=λ(w1:World) (T:Zi w w1 b (adv s q.r))=>H.rd T
 have Ga:Gd s {q with r:=adv s q.r}:=G.r (Ze G.le)
 have pa:pot s {q with r:=adv s q.r}<=6000:=ZaA (Zh _ _) hp
 have ka:rem s (adv s q.r)+1<=k:=by have:=Zt s q.r;omega
 obtain⟨y,hy⟩:∃y,stmQ s (k+1) ou q=y:=⟨_,rfl⟩
 obtain⟨a,ha⟩:∃a,(adv s q.r).a=a:=⟨_,rfl⟩
 rw[hy]
 simp only[stmQ]at hy
 rw[if_neg h1,if_neg h2,if_neg h3]at hy
 have k1:(tok s q.r==62)=false:=Qf.2 h1
 have k2:(tok s q.r==63)=false:=Qf.2 h2
 have k3:(tok s q.r==64)=false:=Qf.2 h3
 have hC:Kp (∀w1,Zi w w1 b (adv s q.r)->Calls prog 166 #[.pointer (some ⟨b,0,none⟩),.agg #[.int .i64 0,.int .i64 a,.int .i64 ou,.int .i64 0,.bool false,.bool false,.bool false,.bool false,.bool false,.bool false,.bool false,.bool false,.bool false,.bool false,.bool false,.bool false]] (w1.alloc (.cells #[.int .i64 0,.int .i64 a,.int .i64 ou,.int .i64 0,.bool false,.bool false,.bool false,.bool false,.bool false,.bool false,.bool false,.bool false,.bool false,.bool false,.bool false,.bool false] 109)) (Zaw b s S (w1.alloc (.cells #[.int .i64 0,.int .i64 a,.int .i64 ou,.int .i64 0,.bool false,.bool false,.bool false,.bool false,.bool false,.bool false,.bool false,.bool false,.bool false,.bool false,.bool false,.bool false] 109)) y)):=⟨λw1 T=>by
  rw[<-hy,<-ha]
  exact Zlk b s hs {q with r:=adv s q.r} ⟨0,((adv s q.r).a:Int),ou,0,none6,none6⟩ S _ (H.rd T |>.step ((Qh _ _).alloc (Qb _) _)) Ga (by omega)⟩
 generalize tok s q.r=t at *
 clear h1 h2 h3
 replace hP:=Z_ hP
 replace hA:=Z_ hA
 clear H G hk he hp Ga pa hy
 go_enter func95,ntmps95
 go_wp2_with fail
 refine hP.out.mono ?_
 rintro e w1 ⟨rfl,R1⟩
 have c1:w1.cell? ⟨b,1,none⟩=some (.int .i64 a):=by rw[<-ha];exact R1.c1
 have hb1:=(hA.out w1 R1).lt
 replace R1:=Z_ R1
 go_wp2_with fail
 refine(hC.out _ R1.out).mono ?_
 rintro e w2 ⟨rfl,S2,A2,T2⟩
 replace A2:=Z_ A2
 replace T2:=Z_ T2
 go_wp2_with fail
 first|go_end0|refine Qi (Qp rfl _ _ _) rfl ?_
 exact⟨rfl,S2,A2.out,((Zn.rd R1.out).trans (Zn.below ((Qh _ _).alloc (Qb _) _))).trans T2.out⟩
theorem ZfT(b:Nat)(s:ZB)(hs:s.size<=300)(k:Nat)(ih:Kp (ZnG b s k)):ZnG b s (k+1):=by
 intro ou q S w H G hk he hp
 by_cases h1:tok s q.r=62
 ·exact Zjb b s hs k ih ou q S w H G hk he hp h1
 ·by_cases h2:tok s q.r=63
  ·exact Zjc b s hs k ih ou q S w H G hk he hp h1 h2
  ·by_cases h3:tok s q.r=64
   ·exact Zjd b s hs k ih ou q S w H G hk he hp h1 h2 h3
   ·exact Zje b s hs k ih ou q S w H G hk he hp h1 h2 h3
theorem ZdG(b:Nat)(s:ZB)(hs:s.size<=300):∀k,ZnG b s k
 | 0=>λou q S w H G hk he hp=>by omega
 | k+1=>ZfT b s hs k ⟨ZdG b s hs k⟩
theorem Zos(b:Nat)(s:ZB)(hs:s.size<=300)(q:Tq)(S:Nat->Value)(w:World)(H:Zv w b s q S)(G:Gd s q)(hp:pot s q<=6000) :
  Calls prog 39 #[.pointer (some ⟨b,0,none⟩)] w (Zaw b s S w (bodyQ s (s.size+1) q)):=by
 obtain⟨fin,hfin⟩:∃fin,bodyQ s (s.size+1) q=fin:=⟨_,rfl⟩
 rw[hfin]
 have hB:Kp (∀(z:Tq) w1 S1,Zv w1 b s z S1->Gd s z->Calls prog 94 #[.pointer (some ⟨b,0,none⟩)] w1 λe w'=>e=.returned (.bool (decide (z.r.er=0∧(adv s z.r).a<s.size)))∧Zi w1 w' b (adv s z.r)):=⟨λz w1 S1 A Gz=>Zfp b s z.r w1 A.rdAt (Gz.ok hs)⟩
 have mk:muR s q.r<=s.size+1:=by have:=Z1 s q.r;unfold muR;split<;>omega
 have H0:Kp _:=⟨H⟩
 have G0:Kp _:=⟨G⟩
 replace hp:=Z_ hp
 replace mk:=Z_ mk
 replace hfin:=Z_ hfin
 clear H G
 go_enter func39,ntmps39
 go_wp2_with fail
 go_loopg [2] (muR s q.r) (λgm pv wr=>∃(j:Nat) (z:Tq) (S':Nat->Value),Kp (Zv wr b s z S')∧Kp (Gd s z)∧Kp (pot s z<=6000)∧Kp (muR s z.r<=j)∧Kp (bodyQ s j z=fin)∧Kp (Zn b b S S' w wr)∧Kp (gm=muR s z.r))
 case atStart=>exact⟨s.size+1,q,S,H0,G0,hp,mk,hfin,⟨Zn.refl _ _ _ _⟩,⟨rfl⟩⟩
 case round=>
  clear H0 G0 hp mk hfin
  obtain⟨j,z,S',hA,hG,hp,hj,hf,hT,hm⟩:=hrel
  have hI:=hB.out z wr S' hA.out hG.out
  by_cases hc:z.r.er=0∧(adv s z.r).a<s.size
  ·rw[Qv hc]at hI
   have hmz:muR s z.r=rem s z.r+1:=by unfold muR;rw[if_pos hc.1]
   have hj1:=hj.out
   obtain⟨j,rfl⟩:∃i,j=i+1:=⟨j-1,by omega⟩
   have Ga:Gd s {z with r:=adv s z.r}:=hG.out.r (Ze hG.out.le)
   have pa:pot s {z with r:=adv s z.r}<=6000:=ZaA (Zh _ _) hp.out
   have hk:rem s z.r+2<=s.size+2:=by have:=Z1 s z.r;omega
   have ka:rem s (adv s z.r)+2<=s.size+2:=by have:=Z1 s (adv s z.r);omega
   have hmu:=Zpn (s:=s) (ou:=-1) hk hc.1
   have hf2:bodyQ s j (stmQ s (s.size+2) (-1) {z with r:=adv s z.r})=fin:=by
    rw[<-hf.out]
    simp only[bodyQ]
    rw[if_pos hc]
   have hS:Kp (∀w1,Zi wr w1 b (adv s z.r)->Calls prog 95 #[.pointer (some ⟨b,0,none⟩),.int .i64 (-1)] w1 (Zaw b s S' w1 (stmQ s (s.size+2) (-1) {z with r:=adv s z.r}))):=⟨λw1 T=>ZdG b s hs (s.size+2) (-1) {z with r:=adv s z.r} S' w1 (hA.out.rd T) Ga ka (by show (adv s z.r).er=0;rw[Zk];exact hc.1) pa⟩
   have Gn:Kp (Gd s (stmQ s (s.size+2) (-1) {z with r:=adv s z.r})):=⟨Zc6 _ _ _ Ga⟩
   have pn:Kp (pot s (stmQ s (s.size+2) (-1) {z with r:=adv s z.r})<=6000):=⟨Qg (ZbP s _ _ _ (by show (adv s z.r).er=0;rw[Zk];exact hc.1)) pa⟩
   have jn:Kp (muR s (stmQ s (s.size+2) (-1) {z with r:=adv s z.r}).r<=j∧muR s (stmQ s (s.size+2) (-1) {z with r:=adv s z.r}).r<muR s z.r):=⟨by have:=hmu.1;omega⟩
   generalize stmQ s (s.size+2) (-1) {z with r:=adv s z.r}=z2 at *
   replace hI:=Z_ hI
   replace hf2:=Z_ hf2
   clear hc hmz hj1 Ga pa ka hmu hf hG hp hj hk
   go_wp2_with fail
   refine hI.out.mono ?_
   rintro e w2 ⟨rfl,R2⟩
   replace R2:=Z_ R2
   go_wp2_with fail
   refine(hS.out _ R2.out).mono ?_
   rintro e w3 ⟨rfl,S3,A3,T3⟩
   replace A3:=Z_ A3
   have T4:Kp (Zn b b S S3 w w3):=⟨hT.out.trans ((Zn.rd R2.out).trans T3)⟩
   clear T3
   go_wp2_with fail
   go_roundg (muR s z2.r)
   case measure=>have h1:=hm.out;have h2:=jn.out;omega
   case rel=>exact⟨j,z2,S3,A3,Gn,pn,⟨jn.out.1⟩,hf2,T4,⟨rfl⟩⟩
  ·rw[Qx hc]at hI
   have hf2:{z with r:=adv s z.r}=fin:=by
    rw[<-hf.out]
    cases j with
    | zero=>rfl
    | succ j=>simp only[bodyQ];rw[if_neg hc]
   have hA2:Kp (∀w1,Zi wr w1 b (adv s z.r)->Zv w1 b s fin S'):=⟨λw1 T=>by rw[<-hf2];exact hA.out.rd T⟩
   replace hI:=Z_ hI
   clear hc hf2 hf hG hp hj hA
   go_wp2_with fail
   refine hI.out.mono ?_
   rintro e w2 ⟨rfl,R2⟩
   have A2:=hA2.out _ R2
   replace R2:=Z_ R2
   replace A2:=Z_ A2
   go_wp2_with fail
   first|go_end0|refine Qi (Qp rfl _ _ _) rfl ?_
   exact⟨rfl,S',A2.out,hT.out.trans (Zn.rd R2.out)⟩
end Go.Proofs.YtcnbifdlkalimabGreat
