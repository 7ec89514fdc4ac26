/- Lemmas for the statement Means; their conditions stand in each. -/
import Derived.Test.YtcnbifdlkalimabGreatRdrC
import Derived.Test.YtcnbifdlkalimabGreatRdrM
import Derived.Deep.RegionHeld
namespace Go.Proofs.YtcnbifdlkalimabGreat
open Go.RowKit Go.Proofs.Tryz
set_option linter.unusedVariables false
set_option linter.unusedSimpArgs false
set_option maxRecDepth 100000
set_option maxHeartbeats 6400000
theorem ZpL(rb sb B:Nat)(s tb:ZB)(tp:Value)(hs:s.size<=300)(k:Nat)(ih:Kp (SGo rb sb B s tb tp k))(p:Rs)(S:Nat->Value)(sv:List (Value×Value))(w:World)(H:Zx w rb sb B s p tb tp S sv)(G:Gp s p)(hk:rem s p.r<k+1)(hp:potP s p<=6000)(h2:tok s p.r=63)(h58:tok s (blkP s (stmP s k) k (exP s {p with r:=nx (adv s p.r)}).1).1.r=58) :
  Calls prog 141 #[.pointer (some ⟨rb,0,none⟩)] w (ZjI rb sb B s tb tp S sv w (stmP s (k+1) p)):=by
 have ht:=Z5 (s:=s) (r:=p.r) (by omega)
 have hS:=Zbv rb s p.r w H.rd (G.ok hs)
 have ea:(⟨skp s p.r.a,p.r.er⟩:Rd)=adv s p.r:=by rw[Zb0 ht.1,ht.1]
 rw[ea]at hS
 obtain⟨y,hy⟩:∃y,stmP s (k+1) p=y:=⟨_,rfl⟩
 rw[hy]
 simp only[stmP]at hy
 rw[if_neg (by omega),if_pos h2]at hy
 have hA:=λ(w1:World) (T:Zi w w1 rb (adv s p.r))=>H.rdto T
 obtain⟨tv,htk⟩:∃tv,tok s p.r=tv:=⟨_,rfl⟩
 have htv:bv s (adv s p.r).a=tv:=by rw[<-htk];exact(if_pos ⟨by rw[Zk];exact ht.1,ht.2⟩).symm
 have hra:=Zt s p.r
 have Ga:Gp s {p with r:=adv s p.r}:=G.r (Ze G.le)
 have Oa:ZbV s (adv s p.r):=⟨hs,Ze G.le⟩
 obtain⟨a,ha⟩:∃a,(adv s p.r).a=a:=⟨_,rfl⟩
 have hlt:a<s.size:=by rw[<-ha];exact ht.2
 have hai:(a:Int)<(s.size:Int):=by omega
 have hv:=ZS s a hlt
 rw[ha]at htv hy
 rw[htv]at hv
 have hgt:tk s (adv s p.r) 63=nx (adv s p.r):=by have:=Z8 (s:=s) (r:=p.r) (by omega);rw[h2]at this;exact this
 have hpt:=Zs (s:=s) (r:=p.r) (by omega)
 have hrt:=ZK (s:=s) (r:=p.r) (by omega)
 obtain⟨rr,hrr⟩:∃rr,nx (adv s p.r)=rr:=⟨_,rfl⟩
 rw[hrr]at hgt hpt hrt
 have hrl:rr.a<=s.size:=by rw[<-hrr];exact Zak (by omega)
 have Gr:Gp s {p with r:=rr}:=G.r hrl
 have pr:potP s {p with r:=rr}<=5992:=by rw[ZU s p rr];unfold potP at hp;omega
 obtain⟨u,hu⟩:∃u,exP s {p with r:=rr}=u:=⟨_,rfl⟩
 have Gu:Gp s u.1:=by rw[<-hu];exact Zei Gr
 have pu:potP s u.1<=5993:=by rw[<-hu];exact Qg (Zck s _) (by omega)
 have ru:rem s u.1.r<k:=by
  have h5:=Zjr s {p with r:=rr}
  rw[hu]at h5
  have h6:rem s u.1.r<=rem s rr:=h5
  omega
 obtain⟨b,hb⟩:∃b,blkP s (stmP s k) k u.1=b:=⟨_,rfl⟩
 rw[hrr,hu,hb]at h58
 have Gb:Gp s b.1:=by rw[<-hb];exact ZfA (Zb8 k) k Gu
 have pb:potP s b.1<=5993:=by rw[<-hb];exact Qg (Zcl s (stmP s k) (Zbl s k) k u.1) pu
 have hK:Kp (∀w1,Zct w1 rb s (adv s p.r)->Calls prog 137 #[.pointer (some ⟨rb,0,none⟩),.string ⟨#[63]⟩] w1 λe w'=>e=.returned (.int .i64 0)∧Zi w1 w' rb rr):=⟨λw1 A=>by
  have h:=ZH rb s ⟨#[63]⟩ 63 (adv s p.r) w1 A Oa (by decide) (by omega)
  rw[hgt]at h
  exact h⟩
 have hX:Kp (∀w1 S1 sv1,Zx w1 rb sb B s {p with r:=rr} tb tp S1 sv1->Calls prog 193 #[.pointer (some ⟨rb,0,none⟩)] w1 (Zcs rb sb B s tb tp S1 sv1 w1 u)):=⟨λw1 S1 sv1 A=>by
  rw[<-hu]
  exact Zab rb sb B s tb tp hs (s.size+1) {p with r:=rr} S1 sv1 w1 A Gr (by have:=Z1 s rr;show rem s rr<_;omega) (by omega)⟩
 have hB:Kp (∀w1 S1 sv1,Zx w1 rb sb B s u.1 tb tp S1 sv1->Calls prog 194 #[.pointer (some ⟨rb,0,none⟩)] w1 (Zix rb sb B s tb tp S1 sv1 w1 b)):=⟨λw1 S1 sv1 A=>by
  rw[<-hb]
  exact ZcX rb sb B s tb tp hs k ih u.1 S1 sv1 w1 A Gu ru (by omega)⟩
 have hY:Kp (∀w1 S1 sv1,Zx w1 rb sb B s b.1 tb tp S1 sv1->Calls prog 138 #[.pointer (some ⟨rb,0,none⟩),.string ⟨#[58]⟩] w1 λe w'=>e=.returned (.bool true)∧Zi w1 w' rb (adv s b.1.r)):=⟨λw1 S1 sv1 A=>by
  have h:=Zbw rb s ⟨#[58]⟩ 58 b.1.r w1 A.rd (Gb.ok hs) (by decide) (by omega)
  rw[QL.2 h58]at h
  exact h⟩
 have hgn:tk s (adv s b.1.r) 58=nx (adv s b.1.r):=by have:=Z8 (s:=s) (r:=b.1.r) (by omega);rw[h58]at this;exact this
 have hpn:=Zs (s:=s) (r:=b.1.r) (by omega)
 have hrn:=ZK (s:=s) (r:=b.1.r) (by omega)
 have rb1:rem s b.1.r<k:=by
  obtain⟨K,rfl⟩:∃K,k=K+1:=⟨k-1,by omega⟩
  have h5:=Zks s K (K+1) u.1 ru
  rw[hb]at h5
  omega
 obtain⟨rn,hrr2⟩:∃rn,nx (adv s b.1.r)=rn:=⟨_,rfl⟩
 rw[hrr2]at hgn hpn hrn
 have Gn:Gp s {b.1 with r:=rn}:=Gb.r (by rw[<-hrr2];exact Zak (by omega))
 have pn:potP s {b.1 with r:=rn}<=5993:=by rw[ZU s b.1 rn];unfold potP at pb;omega
 have rn1:rem s ({b.1 with r:=rn}:Rs).r<k:=by show rem s rn<k;omega
 obtain⟨c,hc⟩:∃c,blkP s (stmP s k) k {b.1 with r:=rn}=c:=⟨_,rfl⟩
 have pc:potP s c.1<=5993:=by rw[<-hc];exact Qg (Zcl s (stmP s k) (Zbl s k) k _) pn
 have hT:Kp (∀w1,Zct w1 rb s (adv s b.1.r)->Calls prog 137 #[.pointer (some ⟨rb,0,none⟩),.string ⟨#[58]⟩] w1 λe w'=>e=.returned (.int .i64 0)∧Zi w1 w' rb rn):=⟨λw1 A=>by
  have h:=ZH rb s ⟨#[58]⟩ 58 (adv s b.1.r) w1 A ⟨hs,Ze Gb.le⟩ (by decide) (by omega)
  rw[hgn]at h
  exact h⟩
 have hD:Kp (∀w1 S1 sv1,Zx w1 rb sb B s {b.1 with r:=rn} tb tp S1 sv1->Calls prog 194 #[.pointer (some ⟨rb,0,none⟩)] w1 (Zix rb sb B s tb tp S1 sv1 w1 c)):=⟨λw1 S1 sv1 A=>by
  rw[<-hc]
  exact ZcX rb sb B s tb tp hs k ih {b.1 with r:=rn} S1 sv1 w1 A Gn rn1 (by omega)⟩
 obtain⟨z,hz⟩:∃z:Rs,c.1=z:=⟨_,rfl⟩
 have hsmz:z.sm.length<=10000:=by rw[<-hz];have:=Zb6 pc;omega
 have hyz:(ZeC z z.r ⟨63,a,0,u.2,b.2,c.2,true⟩).1=y.1:=by
  rw[<-hy,<-hz]
  unfold ZlE
  dsimp only
  rw[hgt,hu,hb,if_pos h58,hrr2,hc]
 have hy2:y.2=z.sm.length:=by
  rw[<-hy,<-hz]
  unfold ZlE
  dsimp only
  rw[hgt,hu,hb,if_pos h58,hrr2,hc]
  rfl
 rw[h2]at htk
 subst htk
 replace hyz:=Z_ hyz
 replace hy2:=Z_ hy2
 replace hz:=Z_ hz
 replace hsmz:=Z_ hsmz
 obtain⟨i0,hi0,hz0,hz1,hz2⟩:=infoParts Zfl
 replace hS:=Z_ hS
 replace hA:=Z_ hA
 replace hy:=Z_ hy
 replace ha:=Z_ ha
 clear H G hk hp ea htv ht hra Ga Oa hgt hpt hrt hrr hrl Gr pr hu Gu pu ru hb Gb pb h58 hgn hpn hrn rb1 hrr2 Gn pn rn1 hc pc
 go_enter func141,ntmps141
 go_wp2_with fail
 refine hS.out.mono ?_
 rintro e w1 ⟨rfl,R1⟩
 have A1:=hA.out w1 R1
 have c0:=A1.rd.c0
 have c1:w1.cell? ⟨rb,1,none⟩=some (.int .i64 a):=by rw[<-ha.out];exact A1.rd.c1
 have hltr:=A1.rd.lt
 have E0:=Zf3.new (w1:=w1) A1 (ZW.rd (S:=S) R1) (.int .u8 63) (.int .i64 a) (.int .i64 0) (.int .i64 0) (.slice none 0 0) (.slice none 0 0) (.bool false) 123
 replace E0:=Z_ E0
 clear hS hA A1 R1
 go_wp2_with fail
 go_region
 go_wp2_with fail
 refine(hK.out _ E0.out.H.rd).mono ?_
 rintro e w2 ⟨rfl,R⟩
 have E2:=E0.out.rd R
 replace E2:=Z_ E2
 clear R
 obtain⟨g,hg⟩:∃g,w1.heap.size=g:=⟨_,rfl⟩
 rw[hg]at E2
 simp only[hg]
 clear hg E0 c0 c1 hltr
 go_wp2_with fail
 refine(hX.out _ _ _ E2.out.H).mono ?_
 rintro e w5 ⟨rfl,S5,A5,T5⟩
 have E5:=E2.out.ps A5 T5 (ZbE.refl _ _)
 clear A5 T5
 have e3:=E5.W.c 3 _ rfl
 have f3:=E5.W.f 3 _ rfl
 have hgl:=E5.W.lt
 have E6:=E5.set 3 (.int .i64 (u.2:Nat)) (by simp)
 replace E6:=Z_ E6
 clear E2 E5
 go_wp2_with fail
 refine(hB.out _ _ _ E6.out.H).mono ?_
 rintro e w7 ⟨v1,rfl,S7,sv7,A7,T7,N7,I7,F7⟩
 have F1:∀k,v1.ownBlock=some k->w.heap.size<=k∧g≠k:=λk hk=>⟨Qg E6.out.T.size (F7 k hk).1,by have:=(F7 k hk).1;have:=E6.out.W.lt;omega⟩
 obtain⟨p1,q1,rfl⟩:=Zb I7.1
 have E7:=E6.out.ps A7 T7 N7
 clear A7 T7 N7 F7 e3 f3 hgl E6
 have e4:=E7.W.c 4 _ rfl
 have f4:=E7.W.f 4 _ rfl
 have hgl:=E7.W.lt
 have E8:=E7.set 4 (.slice p1 b.2.length q1) (by simp)
 have I8:=I7.grow (ZaV w7 g 4 (.slice p1 b.2.length q1)) (λk hk e=>(F1 k e).2 (Option.some.inj hk))
 replace E8:=Z_ E8
 replace I8:=Z_ I8
 replace F1:=Z_ F1
 clear E7 I7
 go_wp2_with fail
 refine(hY.out _ _ _ E8.out.H).mono ?_
 rintro e w8 ⟨rfl,R⟩
 have E10:=E8.out.rd R
 have I10:=I8.out.to (ZW.rd (sb:=sb) (S:=S7) R) E10.H.b0 E10.H.b1
 clear R E8 I8 e4 f4 hgl
 have e6:=E10.W.c 6 _ rfl
 have f6:=E10.W.f 6 _ rfl
 have hgl:=E10.W.lt
 have E11:=E10.set 6 (.bool true) (by simp)
 have I11:=I10.grow (ZaV w8 g 6 (.bool true)) (λk hk e=>(F1.out k e).2 (Option.some.inj hk))
 replace E11:=Z_ E11
 replace I11:=Z_ I11
 clear E10 I10
 go_wp2_with fail
 refine(hT.out _ E11.out.H.rd).mono ?_
 rintro e w12 ⟨rfl,R⟩
 have E12:=E11.out.rd R
 have I12:=I11.out.to (ZW.rd (sb:=sb) (S:=S7) R) E12.H.b0 E12.H.b1
 replace E12:=Z_ E12
 replace I12:=Z_ I12
 clear R E11 I11 e6 f6 hgl
 go_wp2_with fail
 refine(hD.out _ _ _ E12.out.H).mono ?_
 rintro e w13 ⟨v2,rfl,S13,sv13,A13,T13,N13,J13,G13⟩
 have F2:∀k,v2.ownBlock=some k->w.heap.size<=k∧g≠k:=λk hk=>⟨Qg E12.out.T.size (G13 k hk).1,by have:=(G13 k hk).1;have:=E12.out.W.lt;omega⟩
 obtain⟨p2,q2,rfl⟩:=Zb J13.1
 have E13:=E12.out.ps A13 T13 N13
 have I13:=I12.out.to T13 A13.b0 A13.b1
 clear A13 T13 N13 G13 E12 I12
 have e5:=E13.W.c 5 _ rfl
 have f5:=E13.W.f 5 _ rfl
 have hgl:=E13.W.lt
 have E14:=E13.set 5 (.slice p2 c.2.length q2) (by simp)
 have I14:=I13.grow (ZaV w13 g 5 (.slice p2 c.2.length q2)) (λk hk e=>(F1.out k e).2 (Option.some.inj hk))
 have J14:=J13.grow (ZaV w13 g 5 (.slice p2 c.2.length q2)) (λk hk e=>(F2 k e).2 (Option.some.inj hk))
 replace F2:=Z_ F2
 clear E13 I13 J13
 obtain⟨w9,hw9⟩:∃w9,w13.setCell ⟨g,5,none⟩ (.slice p2 c.2.length q2)=w9:=⟨_,rfl⟩
 have E9:Kp _:=⟨E14⟩
 rw[hz.out,hw9]at E9
 rw[hw9]at I14 J14
 clear E14
 obtain⟨S9,hS9⟩:∃S9,S9=S13:=⟨_,rfl⟩
 obtain⟨sv9,hsv9⟩:∃sv9,sv9=sv13:=⟨_,rfl⟩
 have E9:Kp (Zf3 w9 rb sb B s z tb tp S9 sv9 g [.int .u8 63,.int .i64 a,.int .i64 0,.int .i64 (u.2:Nat),.slice p1 b.2.length q1,.slice p2 c.2.length q2,.bool true] w S sv):=⟨by rw[hsv9,hS9];exact E9.out⟩
 rw[<-hS9]at I14 J14
 clear hsv9 hS9
 have hJ1:ZaB w9 B S9 (.slice p1 b.2.length q1) b.2:=I14
 have hJ2:ZaB w9 B S9 (.slice p2 c.2.length q2) c.2:=J14
 have hF1:Kp (∀k,(Value.slice p1 b.2.length q1).ownBlock=some k->w.heap.size<=k):=⟨λk hk=>(F1.out k hk).1⟩
 have hF2:Kp (∀k,(Value.slice p2 c.2.length q2).ownBlock=some k->w.heap.size<=k):=⟨λk hk=>(F2.out k hk).1⟩
 have hsmz:=hsmz.out
 replace I14:=Z_ I14
 replace J14:=Z_ J14
 have hI1:Kp (ZaB w9 B S9 (.slice p1 b.2.length q1) (⟨63,a,0,u.2,b.2,c.2,true⟩:Sm).bo):=⟨hJ1⟩
 have hI2:Kp (ZaB w9 B S9 (.slice p2 c.2.length q2) (⟨63,a,0,u.2,b.2,c.2,true⟩:Sm).el):=⟨hJ2⟩
 have c5:w9.cell? ⟨sb,5,none⟩=some (S9 1):=E9.out.H.c 1 (by omega)
 have c3:=E9.out.H.c3
 have hlts:=E9.out.H.lt
 have hltr:=E9.out.H.rd.lt
 have hrow:w9.ownsRow B 123 7 (S9 1) z.sm.length ((List.zip z.sm sv9).flatMap smV):=E9.out.H.o 1 (by omega)
 have hnb:some sb≠(S9 1).ownBlock:=λe=>by have:=(hrow.lt _ e.symm).1;have:=E9.out.H.b1;omega
 have hnr:some rb≠(S9 1).ownBlock:=λe=>by have:=(hrow.lt _ e.symm).1;have:=E9.out.H.b0;omega
 have hgl:=E9.out.W.lt
 have d0:=E9.out.W.c 0 _ rfl
 have d1:=E9.out.W.c 1 _ rfl
 have d2:=E9.out.W.c 2 _ rfl
 have d3:=E9.out.W.c 3 _ rfl
 have d4:=E9.out.W.c 4 _ rfl
 have d5:=E9.out.W.c 5 _ rfl
 have d6:=E9.out.W.c 6 _ rfl
 obtain⟨wb,hwb⟩:∃wb,wb=(w9.alloc (.cells #[.int .u8 63,.int .i64 a,.int .i64 0,.int .i64 (u.2:Nat),.slice p1 b.2.length q1,.slice p2 c.2.length q2,.bool true] 123)).drew:=⟨_,rfl⟩
 have O2:Own wb w9.heap.size (smV ((⟨63,a,0,u.2,b.2,c.2,true⟩:Sm),(.slice p1 b.2.length q1,.slice p2 c.2.length q2))):=by
  have:=(own7 w9 (.int .u8 63) (.int .i64 a) (.int .i64 0) (.int .i64 (u.2:Nat)) (.slice p1 b.2.length q1) (.slice p2 c.2.length q2) (.bool true) 123).step ((Qh _ _).drew)
  rw[<-hwb]at this
  exact this
 have bel1:Below w9.heap.size w9 wb:=by
  rw[hwb]
  exact((Qh _ _).alloc (Qb _) _).drew
 have hng:some g≠(S9 1).ownBlock:=λe=>E9.out.F.o 1 (by omega) e.symm
 have hgs:g≠sb:=E9.out.F.s
 have K6:Kp (∀w3:World,w3.heap[g]?=wb.heap[g]?->w3.cell? ⟨g,0,none⟩=some (.int .u8 63)∧w3.cell? ⟨g,1,none⟩=some (.int .i64 a)∧w3.cell? ⟨g,2,none⟩=some (.int .i64 0)∧w3.cell? ⟨g,3,none⟩=some (.int .i64 (u.2:Nat))∧w3.cell? ⟨g,4,none⟩=some (.slice p1 b.2.length q1)∧w3.cell? ⟨g,5,none⟩=some (.slice p2 c.2.length q2)∧w3.cell? ⟨g,6,none⟩=some (.bool true)):=⟨λw3 hb=>by
  have hc:∀i,w3.cell? ⟨g,i,none⟩=w9.cell? ⟨g,i,none⟩:=λi=>by rw[Qo (w:=wb) (a:=⟨g,i,none⟩) hb];exact bel1.cell (p:=⟨g,i,none⟩) hgl
  exact⟨by rw[hc];exact d0,by rw[hc];exact d1,by rw[hc];exact d2,by rw[hc];exact d3,by rw[hc];exact d4,by rw[hc];exact d5,by rw[hc];exact d6⟩⟩
 have K7:Kp (∀(w3:World) (v:Value),w3.cell? ⟨rb,3,none⟩=some (.pointer (some ⟨sb,0,none⟩))->(w3.cell? ⟨g,0,none⟩=some (.int .u8 63)∧w3.cell? ⟨g,1,none⟩=some (.int .i64 a)∧w3.cell? ⟨g,2,none⟩=some (.int .i64 0)∧w3.cell? ⟨g,3,none⟩=some (.int .i64 (u.2:Nat))∧w3.cell? ⟨g,4,none⟩=some (.slice p1 b.2.length q1)∧w3.cell? ⟨g,5,none⟩=some (.slice p2 c.2.length q2)∧w3.cell? ⟨g,6,none⟩=some (.bool true))->(w3.setCell ⟨sb,5,none⟩ v).cell? ⟨rb,3,none⟩=some (.pointer (some ⟨sb,0,none⟩))∧(w3.setCell ⟨sb,5,none⟩ v).cell? ⟨g,0,none⟩=some (.int .u8 63)∧(w3.setCell ⟨sb,5,none⟩ v).cell? ⟨g,1,none⟩=some (.int .i64 a)∧(w3.setCell ⟨sb,5,none⟩ v).cell? ⟨g,2,none⟩=some (.int .i64 0)∧(w3.setCell ⟨sb,5,none⟩ v).cell? ⟨g,3,none⟩=some (.int .i64 (u.2:Nat))∧(w3.setCell ⟨sb,5,none⟩ v).cell? ⟨g,4,none⟩=some (.slice p1 b.2.length q1)∧(w3.setCell ⟨sb,5,none⟩ v).cell? ⟨g,5,none⟩=some (.slice p2 c.2.length q2)∧(w3.setCell ⟨sb,5,none⟩ v).cell? ⟨g,6,none⟩=some (.bool true)):=⟨λw3 v h1 h2=>by
  have hc:∀i,(w3.setCell ⟨sb,5,none⟩ v).cell? ⟨g,i,none⟩=w3.cell? ⟨g,i,none⟩:=λi=>World.cell?_setCell_far _ _ _ _ (by show sb≠g;omega)
  refine⟨by rw[QN _ _ _ _ (by simp)];exact h1,?_⟩
  simp only[hc]
  exact h2⟩
 have hsz:wb.heap.size=w9.heap.size+1:=by rw[hwb];simp
 have K1:Kp (wb.ownsRow B 123 7 (S9 1) z.sm.length ((List.zip z.sm sv9).flatMap smV)):=⟨Zq hrow bel1⟩
 have K2:Kp (∀j uq,(smV ((⟨63,a,0,u.2,b.2,c.2,true⟩:Sm),(.slice p1 b.2.length q1,.slice p2 c.2.length q2)))[j]?=some uq->wb.cell? ((⟨w9.heap.size,0,none⟩:Addr).add j)=some uq):=⟨λj uq hj=>by
  have:=O2.c j uq hj
  rcases Q0 j with h0|h0
  ·subst h0;simpa [Addr.add] using this
  ·have h1:¬j=0:=by omega
   simpa [Addr.add,h1] using this⟩
 have K3:Kp (∀uq,uq∈smV ((⟨63,a,0,u.2,b.2,c.2,true⟩:Sm),(.slice p1 b.2.length q1,.slice p2 c.2.length q2))->uq.oneCell'=true):=⟨λuq hu=>by
  unfold smV at hu
  simp only[Uc,QV,or_false]at hu
  rcases hu with rfl|rfl|rfl|rfl|rfl|rfl|rfl
  ·rfl
  ·rfl
  ·rfl
  ·rfl
  ·rfl
  ·rfl
  ·rfl⟩
 have K4:Kp (B<=wb.heap.size):=⟨by rw[hsz];have:=E9.out.H.hB;omega⟩
 have K5:Kp (wb.cell? ⟨sb,5,none⟩=some (S9 1)∧wb.frozen? ⟨sb,5,none⟩=false∧wb.cell? ⟨rb,3,none⟩=some (.pointer (some ⟨sb,0,none⟩))):=⟨by rw[bel1.cell (p:=⟨sb,5,none⟩) hlts];exact c5,by rw[bel1.frozen (p:=⟨sb,5,none⟩) hlts];exact E9.out.H.f 5 (by omega),by rw[bel1.cell (p:=⟨rb,3,none⟩) hltr];exact c3⟩
 have hsm:z.sm.length<=10000:=hsmz
 replace hnb:=Z_ hnb
 replace hng:=Z_ hng
 replace hnr:=Z_ hnr
 replace bel1:=Z_ bel1
 replace hsz:=Z_ hsz
 replace hwb:=Z_ hwb
 clear hrow O2 hsmz hJ1 hJ2
 replace hw9:=Z_ hw9
 clear ih hv hai hlt hK hX hB hY hT hD
 go_wp2_with fail
 rw[hw9.out]
 apply Ziy
 ·intro key
  refine wp_region_held_drew (S:=(λw'=>w'.cell? ⟨rb,3,none⟩=some (.pointer (some ⟨sb,0,none⟩))∧w'.cell? ⟨g,0,none⟩=some (.int .u8 63)∧w'.cell? ⟨g,1,none⟩=some (.int .i64 a)∧w'.cell? ⟨g,2,none⟩=some (.int .i64 0)∧w'.cell? ⟨g,3,none⟩=some (.int .i64 (u.2:Nat))∧w'.cell? ⟨g,4,none⟩=some (.slice p1 b.2.length q1)∧w'.cell? ⟨g,5,none⟩=some (.slice p2 c.2.length q2)∧w'.cell? ⟨g,6,none⟩=some (.bool true))) (by kernel_rfl) (by go_keep) (λhHeld=>?_)
  refine tkS (i:=0) (v:=?_) rfl (Or.inl ⟨by rfl,?_⟩) (by assumption) ?_
  rotate_left
  ·intro w hSw
   (try dsimp only at hSw)
   go_simp
   (try with_reducible rfl)
  try simp only[Act.put,Qa,Qc,Qd]
  refine tkS (i:=1) (v:=?_) rfl (Or.inl ⟨by rfl,?_⟩) (by assumption) ?_
  rotate_left
  ·intro w hSw
   (try dsimp only at hSw)
   go_simp
   (try with_reducible rfl)
  try simp only[Act.put,Qa,Qc,Qd]
  refine tkS (i:=2) (v:=?_) rfl (Or.inl ⟨by rfl,?_⟩) (by assumption) ?_
  rotate_left
  ·intro w hSw
   (try dsimp only at hSw)
   go_simp
   (try with_reducible rfl)
  try simp only[Act.put,Qa,Qc,Qd]
  refine tkS (i:=3) (v:=?_) rfl (Or.inl ⟨by rfl,?_⟩) (by assumption) ?_
  rotate_left
  ·intro w hSw
   (try dsimp only at hSw)
   go_simp
   (try with_reducible rfl)
  try simp only[Act.put,Qa,Qc,Qd]
  refine tkS (i:=4) (v:=?_) rfl (Or.inl ⟨by rfl,?_⟩) (by assumption) ?_
  rotate_left
  ·intro w hSw
   (try dsimp only at hSw)
   go_simp
   (try with_reducible rfl)
  try simp only[Act.put,Qa,Qc,Qd]
  refine tkS (i:=5) (v:=?_) rfl (Or.inl ⟨by rfl,?_⟩) (by assumption) ?_
  rotate_left
  ·intro w hSw
   (try dsimp only at hSw)
   go_simp
   (try with_reducible rfl)
  try simp only[Act.put,Qa,Qc,Qd]
  refine tkS (i:=6) (v:=?_) rfl (Or.inl ⟨by rfl,?_⟩) (by assumption) ?_
  rotate_left
  ·intro w hSw
   (try dsimp only at hSw)
   go_simp
   (try with_reducible rfl)
  try simp only[Act.put,Qa,Qc,Qd]
  refine tkS (i:=7) (v:=?_) rfl (Or.inl ⟨by rfl,?_⟩) (by assumption) ?_
  rotate_left
  ·intro w hSw
   (try dsimp only at hSw)
   go_simp
   (try with_reducible rfl)
  try simp only[Act.put,Qa,Qc,Qd]
  refine tkS (i:=8) (v:=?_) rfl (Or.inl ⟨by rfl,?_⟩) (by assumption) ?_
  rotate_left
  ·intro w hSw
   (try dsimp only at hSw)
   go_simp
   (try with_reducible rfl)
  try simp only[Act.put,Qa,Qc,Qd]
  refine tkS (i:=9) (v:=?_) rfl (Or.inl ⟨by rfl,?_⟩) (by assumption) ?_
  rotate_left
  ·intro w hSw
   (try dsimp only at hSw)
   go_simp
   (try with_reducible rfl)
  try simp only[Act.put,Qa,Qc,Qd]
  refine tkS (i:=11) (v:=?_) rfl (Or.inl ⟨by rfl,?_⟩) (by assumption) ?_
  rotate_left
  ·intro w hSw
   (try dsimp only at hSw)
   go_simp
   (try with_reducible rfl)
  try simp only[Act.put,Qa,Qc,Qd]
  refine wpAnyH_ready (rs:=[10,12]) (by kernel_rfl) (by simp) (AllReadyH.cons (o:=_) rfl (λKK hKK=>?_) (AllReadyH.cons (o:=_) rfl (λKK hKK=>?_) AllReadyH.nil))
  ·go_simp
   refine hKK.out _ _ (by go_keep) (λhHeld10=>?_)
   clear hKK KK
   try simp only[Act.put,Qa,Qc,Qd]
   refine wpAnyH_ready (rs:=[12]) (by kernel_rfl) (by simp) (AllReadyH.cons (o:=_) rfl (λKK hKK=>?_) AllReadyH.nil)
   go_simp
   refine hKK.out _ _ (by rw[<-hwb.out];exact⟨K5.out.2.2,K6.out wb rfl⟩) (λhHeld12=>?_)
   clear hKK KK
   try simp only[Act.put,Qa,Qc,Qd]
   refine wpAnyH_ready (rs:=[13]) (by kernel_rfl) (by simp) (AllReadyH.cons (o:=_) rfl (λKK hKK=>?_) AllReadyH.nil)
   rw[<-hwb.out]
   refine Zo rfl (.tmp 85) (.tmp 87) 68 rfl B 123 i0 _ 7 88 Tryz.underlying68 hi0 hz0 hz1 hz2 rfl (by decide) (S9 1) z.sm.length ((List.zip z.sm sv9).flatMap smV) (by simp[Act.eval]) K1.out ⟨w9.heap.size,0,none⟩ (smV ((⟨63,a,0,u.2,b.2,c.2,true⟩:Sm),(.slice p1 b.2.length q1,.slice p2 c.2.length q2))) (by simp[Act.eval]) rfl K2.out K3.out (by unfold maxLen;omega) (by omega) K4.out ?_
   intro v' w3 hown hgrow hat
   obtain⟨pp,cc,rfl⟩:=Zb hown
   have a1:w3.cell? ⟨sb,5,none⟩=some (S9 1):=by rw[Qo (w:=wb) (hgrow.block sb (by rw[hsz.out];omega) hnb.out)];exact K5.out.1
   have f1:w3.frozen? ⟨sb,5,none⟩=false:=by rw[Qz (w:=wb) (hgrow.block sb (by rw[hsz.out];omega) hnb.out)];exact K5.out.2.1
   have a3:w3.cell? ⟨rb,3,none⟩=some (.pointer (some ⟨sb,0,none⟩)):=by rw[Qo (w:=wb) (hgrow.block rb (by rw[hsz.out];omega) hnr.out)];exact K5.out.2.2
   have hS3:=K6.out w3 (hgrow.block g (by rw[hsz.out];omega) hng.out)
   refine hKK.out _ _ (⟨a3,hS3⟩) (λhHeld13=>?_)
   clear hKK KK
   try simp only[Act.put,Qa,Qc,Qd]
   refine tkS (i:=14) (v:=?_) rfl (Or.inl ⟨by rfl,?_⟩) (by assumption) ?_
   rotate_left
   ·intro w hSw
    (try dsimp only at hSw)
    go_simp
    (try with_reducible rfl)
   try simp only[Act.put,Qa,Qc,Qd]
   refine tkS (i:=15) (v:=?_) rfl (Or.inl ⟨by rfl,?_⟩) (by assumption) ?_
   rotate_left
   ·intro w hSw
    (try dsimp only at hSw)
    go_simp
    (try with_reducible rfl)
   try simp only[Act.put,Qa,Qc,Qd]
   refine wpAnyH_ready (rs:=[16]) (by kernel_rfl) (by simp) (AllReadyH.cons (o:=_) rfl (λKK hKK=>?_) AllReadyH.nil)
   go_simp
   refine hKK.out _ _ (K7.out _ _ a3 hS3) (λhHeld16=>?_)
   clear hKK KK
   try simp only[Act.put,Qa,Qc,Qd]
   refine wpAnyH_done (by kernel_rfl) ?_ _
   have hR:=ZaF E9.out.H hI1.out hI2.out bel1.out hgrow hown hat
   have a2:(w3.setCell ⟨sb,5,none⟩ (.slice pp (z.sm.length+1) cc)).cell? ⟨sb,5,none⟩=some (.slice pp (z.sm.length+1) cc):=Qk _ _ _ a1
   have a4:(w3.setCell ⟨sb,5,none⟩ (.slice pp (z.sm.length+1) cc)).cell? ⟨rb,3,none⟩=some (.pointer (some ⟨sb,0,none⟩)):=hR.1.c3
   rw[hyz.out]at hR
   replace hR:=Z_ hR
   clear hown hgrow hat a1 a3 f1 hS3 hHeld13 hHeld16
   generalize w3.setCell ⟨sb,5,none⟩ (.slice pp (z.sm.length+1) cc)=w10 at *
   clear w3
   revert a2 a4 hR
   revert w10 pp cc
   exact key.out
  ·go_simp
   refine hKK.out _ _ (by rw[<-hwb.out];exact⟨K5.out.2.2,K6.out wb rfl⟩) (λhHeld12=>?_)
   clear hKK KK
   try simp only[Act.put,Qa,Qc,Qd]
   refine wpAnyH_ready (rs:=[10]) (by kernel_rfl) (by simp) (AllReadyH.cons (o:=_) rfl (λKK hKK=>?_) AllReadyH.nil)
   go_simp
   refine hKK.out _ _ (by rw[<-hwb.out];exact⟨K5.out.2.2,K6.out wb rfl⟩) (λhHeld10=>?_)
   clear hKK KK
   try simp only[Act.put,Qa,Qc,Qd]
   refine wpAnyH_ready (rs:=[13]) (by kernel_rfl) (by simp) (AllReadyH.cons (o:=_) rfl (λKK hKK=>?_) AllReadyH.nil)
   rw[<-hwb.out]
   refine Zo rfl (.tmp 85) (.tmp 87) 68 rfl B 123 i0 _ 7 88 Tryz.underlying68 hi0 hz0 hz1 hz2 rfl (by decide) (S9 1) z.sm.length ((List.zip z.sm sv9).flatMap smV) (by simp[Act.eval]) K1.out ⟨w9.heap.size,0,none⟩ (smV ((⟨63,a,0,u.2,b.2,c.2,true⟩:Sm),(.slice p1 b.2.length q1,.slice p2 c.2.length q2))) (by simp[Act.eval]) rfl K2.out K3.out (by unfold maxLen;omega) (by omega) K4.out ?_
   intro v' w3 hown hgrow hat
   obtain⟨pp,cc,rfl⟩:=Zb hown
   have a1:w3.cell? ⟨sb,5,none⟩=some (S9 1):=by rw[Qo (w:=wb) (hgrow.block sb (by rw[hsz.out];omega) hnb.out)];exact K5.out.1
   have f1:w3.frozen? ⟨sb,5,none⟩=false:=by rw[Qz (w:=wb) (hgrow.block sb (by rw[hsz.out];omega) hnb.out)];exact K5.out.2.1
   have a3:w3.cell? ⟨rb,3,none⟩=some (.pointer (some ⟨sb,0,none⟩)):=by rw[Qo (w:=wb) (hgrow.block rb (by rw[hsz.out];omega) hnr.out)];exact K5.out.2.2
   have hS3:=K6.out w3 (hgrow.block g (by rw[hsz.out];omega) hng.out)
   refine hKK.out _ _ (⟨a3,hS3⟩) (λhHeld13=>?_)
   clear hKK KK
   try simp only[Act.put,Qa,Qc,Qd]
   refine tkS (i:=14) (v:=?_) rfl (Or.inl ⟨by rfl,?_⟩) (by assumption) ?_
   rotate_left
   ·intro w hSw
    (try dsimp only at hSw)
    go_simp
    (try with_reducible rfl)
   try simp only[Act.put,Qa,Qc,Qd]
   refine tkS (i:=15) (v:=?_) rfl (Or.inl ⟨by rfl,?_⟩) (by assumption) ?_
   rotate_left
   ·intro w hSw
    (try dsimp only at hSw)
    go_simp
    (try with_reducible rfl)
   try simp only[Act.put,Qa,Qc,Qd]
   refine wpAnyH_ready (rs:=[16]) (by kernel_rfl) (by simp) (AllReadyH.cons (o:=_) rfl (λKK hKK=>?_) AllReadyH.nil)
   go_simp
   refine hKK.out _ _ (K7.out _ _ a3 hS3) (λhHeld16=>?_)
   clear hKK KK
   try simp only[Act.put,Qa,Qc,Qd]
   refine wpAnyH_done (by kernel_rfl) ?_ _
   have hR:=ZaF E9.out.H hI1.out hI2.out bel1.out hgrow hown hat
   have a2:(w3.setCell ⟨sb,5,none⟩ (.slice pp (z.sm.length+1) cc)).cell? ⟨sb,5,none⟩=some (.slice pp (z.sm.length+1) cc):=Qk _ _ _ a1
   have a4:(w3.setCell ⟨sb,5,none⟩ (.slice pp (z.sm.length+1) cc)).cell? ⟨rb,3,none⟩=some (.pointer (some ⟨sb,0,none⟩)):=hR.1.c3
   rw[hyz.out]at hR
   replace hR:=Z_ hR
   clear hown hgrow hat a1 a3 f1 hS3 hHeld13 hHeld16
   generalize w3.setCell ⟨sb,5,none⟩ (.slice pp (z.sm.length+1) cc)=w10 at *
   clear w3
   revert a2 a4 hR
   revert w10 pp cc
   exact key.out
 intro w10 pp cc a2 a4 hR
 clear K1 K2 K3 K4 K5 K6 K7 d0 d1 d2 d3 d4 d5 d6 c5 c3
 generalize hn:z.sm.length=n at *
 replace hn:=Z_ hn
 go_wp2
 go_ret
 exact⟨by rw[hy2.out];simp,_,_,hR.out.1,E9.out.T.trans hR.out.2,Zfm E9.out.N hF1.out hF2.out⟩
end Go.Proofs.YtcnbifdlkalimabGreat
