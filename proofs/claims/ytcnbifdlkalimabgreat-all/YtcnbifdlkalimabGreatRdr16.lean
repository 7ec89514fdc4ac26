/- Lemmas; their conditions stand in each. -/
import Derived.Test.YtcnbifdlkalimabGreatRdrC
namespace Go.Proofs.YtcnbifdlkalimabGreat
open Go.RowKit Go.Proofs.Tryz
set_option linter.all false
set_option maxRecDepth 100000
set_option maxHeartbeats 6400000
theorem Zqo(rb sb B:Nat)(s tb:ZB)(tp:Value)(hs:s.size<=300)(k:Nat)(ih:Kp (Ho rb sb B s tb tp k))(p:Rs)(S:Nat->Value)(sv:List (Value×Value))(w:World)(H:YB w rb sb B s p tb tp S sv)(G:Gp s p)(hk:Ah s p.r<k+1)(hp:Au s p<=6000)(h0:CU (Ae s p.r)=true)(h1:¬Ae s p.r=62)(h2:¬Ae s p.r=63)(h3:¬Ae s p.r=64) :
  Calls prog 141 #[.pointer (some ⟨rb,0,none⟩)] w (Js rb sb B s tb tp S sv w (Al s (k+1) p)):=by
 have ht:=Z8 (s:=s) (r:=p.r) (Pf h0);have hS:=IR rb s p.r w H.rd (G.ok hs);have ea:(⟨PT s p.r.a,p.r.er⟩:Rd)=Aa s p.r:=by rw[Fp ht.1,ht.1]
 rw[ea]at hS;obtain⟨y,hy⟩:∃y,Al s (k+1) p=y:=⟨_,rfl⟩
 rw[hy];simp only[Al]at hy;rw[if_neg h1,if_neg h2,if_neg h3]at hy;have hA:=λ(w1:World) (T:Zi w w1 rb (Aa s p.r))=>H.rdto T;obtain⟨tv,ae⟩:∃tv,Ae s p.r=tv:=⟨_,rfl⟩
 have aq:bv s (Aa s p.r).a=tv:=by rw[<-ae];exact(if_pos ⟨by rw[Zl];exact ht.1,ht.2⟩).symm
 have aM:=Zu s p.r;have Ga:Gp s {p with r:=Aa s p.r}:=G.r (Ze G.le);have Oa:Ci s (Aa s p.r):=⟨hs,Ze G.le⟩
 obtain⟨a,ha⟩:∃a,(Aa s p.r).a=a:=⟨_,rfl⟩
 have aC:a<s.size:=by rw[<-ha];exact ht.2
 have aL:(a:Int)<(s.size:Int):=by omega
 have hv:=ZJ s a aC;rw[ha]at aq hy;rw[aq]at hv;obtain⟨M,ar⟩:∃M,varI s p.r p.ls=M:=⟨_,rfl⟩
 obtain⟨rv,ad⟩:∃rv,AD s p.r p.ls=rv:=⟨_,rfl⟩
 have au:rv.a<=s.size:=by rw[<-ad];exact Ik G.le
 have aO:Bm s rv<=Bm s p.r:=by rw[<-ad];exact KX _ _ _
 obtain⟨rr,ab⟩:∃rr,tk s rv 61=rr:=⟨_,rfl⟩
 have aD:rr.a<=s.size:=by rw[<-ab];exact Z4 au (by omega)
 have aN:Bm s rr<=Bm s rv:=by rw[<-ab];exact ZT _ _ _
 have Gr:Gp s {p with r:=rr}:=G.r aD;have pr:Au s {p with r:=rr}<=6000:=by rw[Z0 s p rr];unfold Au at hp;omega
 obtain⟨u,hu⟩:∃u,CJ s {p with r:=rr}=u:=⟨_,rfl⟩
 have Gu:Gp s u.1:=by rw[<-hu];exact Fv Gr
 have pu:Au s u.1<=6001:=by rw[<-hu];exact Qg (HA s _) (by omega)
 obtain⟨z,hz⟩:∃z:Rs,{u.1 with r:=tk s u.1.r 59}=z:=⟨_,rfl⟩
 have L:z.sm.length<=10000:=by rw[<-hz];have:=KZ pu;show u.1.sm.length<=10000;omega
 have am:(Dl z z.r ⟨61,a,(M:Nat),u.2,[],[],false⟩).1=y.1:=by rw[<-hy,<-hz];unfold Hi;dsimp only;rw[GN,Lm,ad,ar,ab,hu];rfl
 have av:y.2=z.sm.length:=by rw[<-hy,<-hz];unfold Hi;dsimp only;rw[GN,ad,ab,hu];rfl
 have hW:Kp (∀w1 S1 K,YB w1 rb sb B s {p with r:=Aa s p.r} tb tp S1 K->Calls prog 195 #[.pointer (some ⟨rb,0,none⟩)] w1 λe Z=>e=.returned (.int .i64 (M:Nat))∧Zi w1 Z rb rv):=⟨λw1 S1 K A=>by
  rw[<-ar,<-ad];have h:=P9 rb sb s (Aa s p.r) p.ls w1 A.rd Oa A.c3 A.ne A.cl ⟨G.ll,G.lb⟩;rw[Lm,GN]at h;exact h⟩
 have hK:Kp (∀w1,Cr w1 rb s rv->Calls prog 137 #[.pointer (some ⟨rb,0,none⟩),.string ⟨#[61]⟩] w1 λe Z=>e=.returned (.int .i64 0)∧Zi w1 Z rb rr):=⟨λw1 A=>by
  have h:=ZP rb s ⟨#[61]⟩ 61 rv w1 A ⟨hs,au⟩ (by decide) (by omega);rw[ab]at h;exact h⟩
 have hX:Kp (∀w1 S1 K,YB w1 rb sb B s {p with r:=rr} tb tp S1 K->Calls prog 193 #[.pointer (some ⟨rb,0,none⟩)] w1 (Ef rb sb B s tb tp S1 K w1 u)):=⟨λw1 S1 K A=>by
  rw[<-hu];exact JH rb sb B s tb tp hs (s.size+1) {p with r:=rr} S1 K w1 A Gr (by have:=Z5 s rr;show Ah s rr<_;omega) (by omega)⟩
 have hC:Kp (∀w1 S1 K,YB w1 rb sb B s u.1 tb tp S1 K->Calls prog 137 #[.pointer (some ⟨rb,0,none⟩),.string ⟨#[59]⟩] w1 λe Z=>e=.returned (.int .i64 0)∧Zi w1 Z rb (tk s u.1.r 59)):=⟨λw1 S1 K A=>ZP rb s ⟨#[59]⟩ 59 u.1.r w1 A.rd (Gu.ok hs) (by decide) (by omega)⟩
 have k1:(tv==62)=false:=by rw[<-ae];exact Qf.2 h1
 have k2:(tv==63)=false:=by rw[<-ae];exact Qf.2 h2
 have k3:(tv==64)=false:=by rw[<-ae];exact Qf.2 h3
 replace ae:=Z_ ae;replace am:=Z_ am;replace av:=Z_ av;replace hz:=Z_ hz;replace L:=Z_ L;obtain⟨i0,aB,aE,aF,aG⟩:=AX Ly;replace hS:=Z_ hS;replace hA:=Z_ hA;replace hy:=Z_ hy;replace ha:=Z_ ha;clear H G hk hp ea aq ht aM Ga Oa h0 h1 h2 h3 ar ad au aO ab aD aN Gr pr hu Gu pu;go_in;go_wp2_with fail;refine hS.o.mono ?_;rintro e w1 ⟨rfl,R1⟩;have A1:=hA.o w1 R1;have c0:=A1.rd.c0;have c1:w1.cell? ⟨rb,1,none⟩=some (.int .i64 a):=by rw[<-ha.o];exact A1.rd.c1
 have aj:=A1.rd.lt;have E0:=DU.new (w1:=w1) A1 (ZW.rd (S:=S) R1) (.int .u8 61) (.int .i64 a) (.int .i64 0) (.int .i64 0) (.slice none 0 0) (.slice none 0 0) (.bool false) 123;replace E0:=Z_ E0;clear hS hA A1 R1;go_wp2_with fail;go_region;go_wp2_with fail;refine(hW.o _ _ _ E0.o.H).mono ?_;rintro e w2 ⟨rfl,R⟩;have E2:=E0.o.rd R;replace E2:=Z_ E2;clear R;obtain⟨g,hg⟩:∃g,w1.heap.size=g:=⟨_,rfl⟩
 rw[hg]at E2;simp only[hg];clear hg E0 c0 c1 aj;have e2:=E2.o.W.c 2 _ rfl;have f2:=E2.o.W.f 2 _ rfl;have ai:=E2.o.W.lt;have E3:=E2.o.set 2 (.int .i64 (M:Nat)) (by simp);replace E3:=Z_ E3;clear E2;go_wp2_with fail;refine(hK.o _ E3.o.H.rd).mono ?_;rintro e w4 ⟨rfl,R⟩;have E4:=E3.o.rd R;replace E4:=Z_ E4;clear R;clear e2 f2 ai E3;go_wp2_with fail;refine(hX.o _ _ _ E4.o.H).mono ?_;rintro e w5 ⟨rfl,S5,A5,T5⟩;have E5:=E4.o.ps A5 T5 (DM.refl _ _);clear A5 T5;have e3:=E5.W.c 3 _ rfl;have f3:=E5.W.f 3 _ rfl;have ai:=E5.W.lt;have E6:=E5.set 3 (.int .i64 (u.2:Nat)) (by simp);replace E6:=Z_ E6;clear E4 E5;go_wp2_with fail;refine(hC.o _ _ _ E6.o.H).mono ?_;rintro e P ⟨rfl,R⟩;have t:=E6.o.rd R;rw[hz.o]at t;replace t:=Z_ t;clear R E6 e3 f3 ai;obtain⟨O,aA⟩:∃O,O=S5:=⟨_,rfl⟩
 obtain⟨V,ap⟩:∃V,V=sv:=⟨_,rfl⟩
 have t:Kp (DU P rb sb B s z tb tp O V g [.int .u8 61,.int .i64 a,.int .i64 (M:Nat),.int .i64 (u.2:Nat),.slice none 0 0,.slice none 0 0,.bool false] w S sv):=⟨by rw[ap,aA];exact t.o⟩
 clear ap aA;have ay:BD P B O (.slice none 0 0) []:=BD.nil _ _ _;have az:BD P B O (.slice none 0 0) []:=BD.nil _ _ _;have aI:Kp (∀k,(Value.slice none 0 0).ownBlock=some k->w.heap.size<=k):=⟨λk hk=>by cases hk⟩
 have aJ:Kp (∀k,(Value.slice none 0 0).ownBlock=some k->w.heap.size<=k):=⟨λk hk=>by cases hk⟩
 have L:=L.o;have aw:Kp (BD P B O (.slice none 0 0) (⟨61,a,(M:Nat),u.2,[],[],false⟩:Sm).bo):=⟨ay⟩
 have ax:Kp (BD P B O (.slice none 0 0) (⟨61,a,(M:Nat),u.2,[],[],false⟩:Sm).el):=⟨az⟩
 have c:P.cell? ⟨sb,5,none⟩=some (O 1):=t.o.H.c 1 (by omega);have c3:=t.o.H.c3;have ao:=t.o.H.lt;have aj:=t.o.H.rd.lt;have Y:P.ownsRow B 123 7 (O 1) z.sm.length ((List.zip z.sm V).flatMap BK):=t.o.H.o 1 (by omega);have aa:some sb≠(O 1).ownBlock:=λe=>by have:=(Y.lt _ e.symm).1;have:=t.o.H.b1;omega
 have al:some rb≠(O 1).ownBlock:=λe=>by have:=(Y.lt _ e.symm).1;have:=t.o.H.b0;omega
 have ai:=t.o.W.lt;have d0:=t.o.W.c 0 _ rfl;have d1:=t.o.W.c 1 _ rfl;have d2:=t.o.W.c 2 _ rfl;have d3:=t.o.W.c 3 _ rfl;have d4:=t.o.W.c 4 _ rfl;have d5:=t.o.W.c 5 _ rfl;have d6:=t.o.W.c 6 _ rfl;obtain⟨I,J⟩:∃I,I=(P.alloc (.cells #[.int .u8 61,.int .i64 a,.int .i64 (M:Nat),.int .i64 (u.2:Nat),.slice none 0 0,.slice none 0 0,.bool false] 123)).drew:=⟨_,rfl⟩
 have O2:AF I P.heap.size (BK ((⟨61,a,(M:Nat),u.2,[],[],false⟩:Sm),(.slice none 0 0,.slice none 0 0))):=by have:=(Dd P (.int .u8 61) (.int .i64 a) (.int .i64 (M:Nat)) (.int .i64 (u.2:Nat)) (.slice none 0 0) (.slice none 0 0) (.bool false) 123).step ((Qh _ _).drew);rw[<-J]at this;exact this
 have m:Below P.heap.size P I:=by rw[J];exact((Qh _ _).alloc (Qb _) _).drew
 have ak:some g≠(O 1).ownBlock:=λe=>t.o.F.o 1 (by omega) e.symm;have aP:g≠sb:=t.o.F.s
 have K6:Kp (∀d:World,d.heap[g]?=I.heap[g]?->d.cell? ⟨g,0,none⟩=some (.int .u8 61)∧d.cell? ⟨g,1,none⟩=some (.int .i64 a)∧d.cell? ⟨g,2,none⟩=some (.int .i64 (M:Nat))∧d.cell? ⟨g,3,none⟩=some (.int .i64 (u.2:Nat))∧d.cell? ⟨g,4,none⟩=some (.slice none 0 0)∧d.cell? ⟨g,5,none⟩=some (.slice none 0 0)∧d.cell? ⟨g,6,none⟩=some (.bool false)):=⟨λd hb=>by
  have hc:∀i,d.cell? ⟨g,i,none⟩=P.cell? ⟨g,i,none⟩:=λi=>by rw[Qo (w:=I) (a:=⟨g,i,none⟩) hb];exact m.cell (p:=⟨g,i,none⟩) ai
  exact⟨by rw[hc];exact d0,by rw[hc];exact d1,by rw[hc];exact d2,by rw[hc];exact d3,by rw[hc];exact d4,by rw[hc];exact d5,by rw[hc];exact d6⟩⟩
 have K7:Kp (∀(d:World) (v:Value),d.cell? ⟨rb,3,none⟩=some (.pointer (some ⟨sb,0,none⟩))->(d.cell? ⟨g,0,none⟩=some (.int .u8 61)∧d.cell? ⟨g,1,none⟩=some (.int .i64 a)∧d.cell? ⟨g,2,none⟩=some (.int .i64 (M:Nat))∧d.cell? ⟨g,3,none⟩=some (.int .i64 (u.2:Nat))∧d.cell? ⟨g,4,none⟩=some (.slice none 0 0)∧d.cell? ⟨g,5,none⟩=some (.slice none 0 0)∧d.cell? ⟨g,6,none⟩=some (.bool false))->(d.setCell ⟨sb,5,none⟩ v).cell? ⟨rb,3,none⟩=some (.pointer (some ⟨sb,0,none⟩))∧(d.setCell ⟨sb,5,none⟩ v).cell? ⟨g,0,none⟩=some (.int .u8 61)∧(d.setCell ⟨sb,5,none⟩ v).cell? ⟨g,1,none⟩=some (.int .i64 a)∧(d.setCell ⟨sb,5,none⟩ v).cell? ⟨g,2,none⟩=some (.int .i64 (M:Nat))∧(d.setCell ⟨sb,5,none⟩ v).cell? ⟨g,3,none⟩=some (.int .i64 (u.2:Nat))∧(d.setCell ⟨sb,5,none⟩ v).cell? ⟨g,4,none⟩=some (.slice none 0 0)∧(d.setCell ⟨sb,5,none⟩ v).cell? ⟨g,5,none⟩=some (.slice none 0 0)∧(d.setCell ⟨sb,5,none⟩ v).cell? ⟨g,6,none⟩=some (.bool false)):=⟨λd v h1 h2=>by
  have hc:∀i,(d.setCell ⟨sb,5,none⟩ v).cell? ⟨g,i,none⟩=d.cell? ⟨g,i,none⟩:=λi=>World.cell?_setCell_far _ _ _ _ (by show sb≠g;omega);refine⟨by rw[QN _ _ _ _ (by simp)];exact h1,?_⟩;simp only[hc];exact h2⟩
 have E:I.heap.size=P.heap.size+1:=by rw[J];simp
 have K1:Kp (I.ownsRow B 123 7 (O 1) z.sm.length ((List.zip z.sm V).flatMap BK)):=⟨Zo Y m⟩
 have K2:Kp (∀j uq,(BK ((⟨61,a,(M:Nat),u.2,[],[],false⟩:Sm),(.slice none 0 0,.slice none 0 0)))[j]?=some uq->I.cell? ((⟨P.heap.size,0,none⟩:Addr).add j)=some uq):=⟨λj uq hj=>by
  have:=O2.c j uq hj;rcases Q0 j with h0|h0
  ·subst h0;simpa [Addr.add] using this
  ·have h1:¬j=0:=by omega
   simpa [Addr.add,h1] using this⟩
 have K3:Kp (∀uq,uq∈BK ((⟨61,a,(M:Nat),u.2,[],[],false⟩:Sm),(.slice none 0 0,.slice none 0 0))->uq.oneCell'=true):=⟨λuq hu=>by
  unfold BK at hu;simp only[Uc,QV,or_false]at hu;rcases hu with rfl|rfl|rfl|rfl|rfl|rfl|rfl
  ·rfl
  ·rfl
  ·rfl
  ·rfl
  ·rfl
  ·rfl
  ·rfl⟩
 have K4:Kp (B<=I.heap.size):=⟨by rw[E];have:=t.o.H.hB;omega⟩
 have K5:Kp (I.cell? ⟨sb,5,none⟩=some (O 1)∧I.frozen? ⟨sb,5,none⟩=false∧I.cell? ⟨rb,3,none⟩=some (.pointer (some ⟨sb,0,none⟩))):=⟨by rw[m.cell (p:=⟨sb,5,none⟩) ao];exact c,by rw[m.frozen (p:=⟨sb,5,none⟩) ao];exact t.o.H.f 5 (by omega),by rw[m.cell (p:=⟨rb,3,none⟩) aj];exact c3⟩
 have aQ:z.sm.length<=10000:=L;replace aa:=Z_ aa;replace ak:=Z_ ak;replace al:=Z_ al;replace m:=Z_ m;replace E:=Z_ E;replace J:=Z_ J;clear Y O2 L ay az;clear ih hv aL aC hW hK hX hC k1 k2 k3;go_wp2_with fail;apply LP
 ·intro aH;refine wp_region_held_drew (S:=(λZ=>Z.cell? ⟨rb,3,none⟩=some (.pointer (some ⟨sb,0,none⟩))∧Z.cell? ⟨g,0,none⟩=some (.int .u8 61)∧Z.cell? ⟨g,1,none⟩=some (.int .i64 a)∧Z.cell? ⟨g,2,none⟩=some (.int .i64 (M:Nat))∧Z.cell? ⟨g,3,none⟩=some (.int .i64 (u.2:Nat))∧Z.cell? ⟨g,4,none⟩=some (.slice none 0 0)∧Z.cell? ⟨g,5,none⟩=some (.slice none 0 0)∧Z.cell? ⟨g,6,none⟩=some (.bool false))) (by kernel_rfl) (by go_keep) (λaK=>?_);refine AS (i:=0) (v:=?_) rfl (Or.inl ⟨by rfl,?_⟩) (by assumption) ?_;rotate_left
  ·intro w q;go_simp<;>rfl
  try simp only[Act.put,Qa,Qc,Qd]
  refine AS (i:=1) (v:=?_) rfl (Or.inl ⟨by rfl,?_⟩) (by assumption) ?_;rotate_left
  ·intro w q;go_simp<;>rfl
  try simp only[Act.put,Qa,Qc,Qd]
  refine AS (i:=2) (v:=?_) rfl (Or.inl ⟨by rfl,?_⟩) (by assumption) ?_;rotate_left
  ·intro w q;go_simp<;>rfl
  try simp only[Act.put,Qa,Qc,Qd]
  refine AS (i:=3) (v:=?_) rfl (Or.inl ⟨by rfl,?_⟩) (by assumption) ?_;rotate_left
  ·intro w q;go_simp<;>rfl
  try simp only[Act.put,Qa,Qc,Qd]
  refine AS (i:=4) (v:=?_) rfl (Or.inl ⟨by rfl,?_⟩) (by assumption) ?_;rotate_left
  ·intro w q;go_simp<;>rfl
  try simp only[Act.put,Qa,Qc,Qd]
  refine AS (i:=5) (v:=?_) rfl (Or.inl ⟨by rfl,?_⟩) (by assumption) ?_;rotate_left
  ·intro w q;go_simp<;>rfl
  try simp only[Act.put,Qa,Qc,Qd]
  refine AS (i:=6) (v:=?_) rfl (Or.inl ⟨by rfl,?_⟩) (by assumption) ?_;rotate_left
  ·intro w q;go_simp<;>rfl
  try simp only[Act.put,Qa,Qc,Qd]
  refine AS (i:=7) (v:=?_) rfl (Or.inl ⟨by rfl,?_⟩) (by assumption) ?_;rotate_left
  ·intro w q;go_simp<;>rfl
  try simp only[Act.put,Qa,Qc,Qd]
  refine AS (i:=8) (v:=?_) rfl (Or.inl ⟨by rfl,?_⟩) (by assumption) ?_;rotate_left
  ·intro w q;go_simp<;>rfl
  try simp only[Act.put,Qa,Qc,Qd]
  refine AS (i:=9) (v:=?_) rfl (Or.inl ⟨by rfl,?_⟩) (by assumption) ?_;rotate_left
  ·intro w q;go_simp<;>rfl
  try simp only[Act.put,Qa,Qc,Qd]
  refine AS (i:=11) (v:=?_) rfl (Or.inl ⟨by rfl,?_⟩) (by assumption) ?_;rotate_left
  ·intro w q;go_simp<;>rfl
  try simp only[Act.put,Qa,Qc,Qd]
  refine wpAnyH_ready (rs:=[10,12]) (by kernel_rfl) (by simp) (AllReadyH.cons (o:=_) rfl (λQ l=>?_) (AllReadyH.cons (o:=_) rfl (λQ l=>?_) AllReadyH.nil))
  ·go_simp;refine l.out _ _ (by go_keep) (λaf=>?_);clear l Q;try simp only[Act.put,Qa,Qc,Qd]
   refine wpAnyH_ready (rs:=[12]) (by kernel_rfl) (by simp) (AllReadyH.cons (o:=_) rfl (λQ l=>?_) AllReadyH.nil);go_simp;refine l.out _ _ (by rw[<-J.o];exact⟨K5.o.2.2,K6.o I rfl⟩) (λag=>?_);clear l Q;try simp only[Act.put,Qa,Qc,Qd]
   refine wpAnyH_ready (rs:=[13]) (by kernel_rfl) (by simp) (AllReadyH.cons (o:=_) rfl (λQ l=>?_) AllReadyH.nil);rw[<-J.o];refine Zr rfl (.tmp 85) (.tmp 87) 68 rfl B 123 i0 _ 7 88 Tryz.underlying68 aB aE aF aG rfl (by decide) (O 1) z.sm.length ((List.zip z.sm V).flatMap BK) (by simp[Act.eval]) K1.o ⟨P.heap.size,0,none⟩ (BK ((⟨61,a,(M:Nat),u.2,[],[],false⟩:Sm),(.slice none 0 0,.slice none 0 0))) (by simp[Act.eval]) rfl K2.o K3.o (by unfold maxLen;omega) (by omega) K4.o ?_;intro v' d D b ah;obtain⟨pp,cc,rfl⟩:=Zc D;have a1:d.cell? ⟨sb,5,none⟩=some (O 1):=by rw[Qo (w:=I) (b.block sb (by rw[E.o];omega) aa.o)];exact K5.o.1
   have f1:d.frozen? ⟨sb,5,none⟩=false:=by rw[Qz (w:=I) (b.block sb (by rw[E.o];omega) aa.o)];exact K5.o.2.1
   have a3:d.cell? ⟨rb,3,none⟩=some (.pointer (some ⟨sb,0,none⟩)):=by rw[Qo (w:=I) (b.block rb (by rw[E.o];omega) al.o)];exact K5.o.2.2
   have U:=K6.o d (b.block g (by rw[E.o];omega) ak.o);refine l.out _ _ (⟨a3,U⟩) (λx=>?_);clear l Q;try simp only[Act.put,Qa,Qc,Qd]
   refine AS (i:=14) (v:=?_) rfl (Or.inl ⟨by rfl,?_⟩) (by assumption) ?_;rotate_left
   ·intro w q;go_simp<;>rfl
   try simp only[Act.put,Qa,Qc,Qd]
   refine AS (i:=15) (v:=?_) rfl (Or.inl ⟨by rfl,?_⟩) (by assumption) ?_;rotate_left
   ·intro w q;go_simp<;>rfl
   try simp only[Act.put,Qa,Qc,Qd]
   refine wpAnyH_ready (rs:=[16]) (by kernel_rfl) (by simp) (AllReadyH.cons (o:=_) rfl (λQ l=>?_) AllReadyH.nil);go_simp;refine l.out _ _ (K7.o _ _ a3 U) (λC=>?_);clear l Q;try simp only[Act.put,Qa,Qc,Qd]
   refine wpAnyH_done (by kernel_rfl) ?_ _;have X:=GP t.o.H aw.o ax.o m.o b D ah;have a2:(d.setCell ⟨sb,5,none⟩ (.slice pp (z.sm.length+1) cc)).cell? ⟨sb,5,none⟩=some (.slice pp (z.sm.length+1) cc):=Qk _ _ _ a1;have a4:(d.setCell ⟨sb,5,none⟩ (.slice pp (z.sm.length+1) cc)).cell? ⟨rb,3,none⟩=some (.pointer (some ⟨sb,0,none⟩)):=X.1.c3;rw[am.o]at X;replace X:=Z_ X;clear D b ah a1 a3 f1 U x C;generalize d.setCell ⟨sb,5,none⟩ (.slice pp (z.sm.length+1) cc)=an at *;clear d;revert a2 a4 X;revert an pp cc;exact aH.o
  ·go_simp;refine l.out _ _ (by rw[<-J.o];exact⟨K5.o.2.2,K6.o I rfl⟩) (λag=>?_);clear l Q;try simp only[Act.put,Qa,Qc,Qd]
   refine wpAnyH_ready (rs:=[10]) (by kernel_rfl) (by simp) (AllReadyH.cons (o:=_) rfl (λQ l=>?_) AllReadyH.nil);go_simp;refine l.out _ _ (by rw[<-J.o];exact⟨K5.o.2.2,K6.o I rfl⟩) (λaf=>?_);clear l Q;try simp only[Act.put,Qa,Qc,Qd]
   refine wpAnyH_ready (rs:=[13]) (by kernel_rfl) (by simp) (AllReadyH.cons (o:=_) rfl (λQ l=>?_) AllReadyH.nil);rw[<-J.o];refine Zr rfl (.tmp 85) (.tmp 87) 68 rfl B 123 i0 _ 7 88 Tryz.underlying68 aB aE aF aG rfl (by decide) (O 1) z.sm.length ((List.zip z.sm V).flatMap BK) (by simp[Act.eval]) K1.o ⟨P.heap.size,0,none⟩ (BK ((⟨61,a,(M:Nat),u.2,[],[],false⟩:Sm),(.slice none 0 0,.slice none 0 0))) (by simp[Act.eval]) rfl K2.o K3.o (by unfold maxLen;omega) (by omega) K4.o ?_;intro v' d D b ah;obtain⟨pp,cc,rfl⟩:=Zc D;have a1:d.cell? ⟨sb,5,none⟩=some (O 1):=by rw[Qo (w:=I) (b.block sb (by rw[E.o];omega) aa.o)];exact K5.o.1
   have f1:d.frozen? ⟨sb,5,none⟩=false:=by rw[Qz (w:=I) (b.block sb (by rw[E.o];omega) aa.o)];exact K5.o.2.1
   have a3:d.cell? ⟨rb,3,none⟩=some (.pointer (some ⟨sb,0,none⟩)):=by rw[Qo (w:=I) (b.block rb (by rw[E.o];omega) al.o)];exact K5.o.2.2
   have U:=K6.o d (b.block g (by rw[E.o];omega) ak.o);refine l.out _ _ (⟨a3,U⟩) (λx=>?_);clear l Q;try simp only[Act.put,Qa,Qc,Qd]
   refine AS (i:=14) (v:=?_) rfl (Or.inl ⟨by rfl,?_⟩) (by assumption) ?_;rotate_left
   ·intro w q;go_simp<;>rfl
   try simp only[Act.put,Qa,Qc,Qd]
   refine AS (i:=15) (v:=?_) rfl (Or.inl ⟨by rfl,?_⟩) (by assumption) ?_;rotate_left
   ·intro w q;go_simp<;>rfl
   try simp only[Act.put,Qa,Qc,Qd]
   refine wpAnyH_ready (rs:=[16]) (by kernel_rfl) (by simp) (AllReadyH.cons (o:=_) rfl (λQ l=>?_) AllReadyH.nil);go_simp;refine l.out _ _ (K7.o _ _ a3 U) (λC=>?_);clear l Q;try simp only[Act.put,Qa,Qc,Qd]
   refine wpAnyH_done (by kernel_rfl) ?_ _;have X:=GP t.o.H aw.o ax.o m.o b D ah;have a2:(d.setCell ⟨sb,5,none⟩ (.slice pp (z.sm.length+1) cc)).cell? ⟨sb,5,none⟩=some (.slice pp (z.sm.length+1) cc):=Qk _ _ _ a1;have a4:(d.setCell ⟨sb,5,none⟩ (.slice pp (z.sm.length+1) cc)).cell? ⟨rb,3,none⟩=some (.pointer (some ⟨sb,0,none⟩)):=X.1.c3;rw[am.o]at X;replace X:=Z_ X;clear D b ah a1 a3 f1 U x C;generalize d.setCell ⟨sb,5,none⟩ (.slice pp (z.sm.length+1) cc)=an at *;clear d;revert a2 a4 X;revert an pp cc;exact aH.o
 intro an pp cc a2 a4 X;clear K1 K2 K3 K4 K5 K6 K7 d0 d1 d2 d3 d4 d5 d6 c c3;generalize hn:z.sm.length=n at *;replace hn:=Z_ hn;go_wp2;go_ret;exact⟨by rw[av.o];simp,_,_,X.o.1,t.o.T.trans X.o.2,Lz t.o.N aI.o aJ.o⟩
end Go.Proofs.YtcnbifdlkalimabGreat
