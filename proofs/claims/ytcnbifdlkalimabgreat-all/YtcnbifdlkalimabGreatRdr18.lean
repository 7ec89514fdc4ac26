/- Lemmas; their conditions stand in each. -/
import Derived.Test.YtcnbifdlkalimabGreatRdrC
namespace Go.Proofs.YtcnbifdlkalimabGreat
open Go.RowKit Go.Proofs.Tryz
set_option linter.all false
set_option maxRecDepth 100000
set_option maxHeartbeats 6400000
theorem Zql(rb sb B:Nat)(s tb:ZB)(tp:Value)(hs:s.size<=300)(k:Nat)(ih:Kp (Ho rb sb B s tb tp k))(p:Rs)(S:Nat->Value)(sv:List (Value×Value))(w:World)(H:YB w rb sb B s p tb tp S sv)(G:Gp s p)(hk:Ah s p.r<k+1)(hp:Au s p<=6000)(h2:Ae s p.r=63)(ae:¬Ae s (AO s (Al s k) k (CJ s {p with r:=nx (Aa s p.r)}).1).1.r=58) :
  Calls prog 141 #[.pointer (some ⟨rb,0,none⟩)] w (Js rb sb B s tb tp S sv w (Al s (k+1) p)):=by
 have ht:=Z8 (s:=s) (r:=p.r) (by omega);have hS:=IR rb s p.r w H.rd (G.ok hs);have ea:(⟨PT s p.r.a,p.r.er⟩:Rd)=Aa s p.r:=by rw[Fp ht.1,ht.1]
 rw[ea]at hS;obtain⟨y,hy⟩:∃y,Al s (k+1) p=y:=⟨_,rfl⟩
 rw[hy];simp only[Al]at hy;rw[if_neg (by omega),if_pos h2]at hy;have hA:=λ(w1:World) (T:Zi w w1 rb (Aa s p.r))=>H.rdto T;obtain⟨tv,ax⟩:∃tv,Ae s p.r=tv:=⟨_,rfl⟩
 have ay:bv s (Aa s p.r).a=tv:=by rw[<-ax];exact(if_pos ⟨by rw[Zl];exact ht.1,ht.2⟩).symm
 have aS:=Zu s p.r;have Ga:Gp s {p with r:=Aa s p.r}:=G.r (Ze G.le);have Oa:Ci s (Aa s p.r):=⟨hs,Ze G.le⟩
 obtain⟨a,ha⟩:∃a,(Aa s p.r).a=a:=⟨_,rfl⟩
 have aG:a<s.size:=by rw[<-ha];exact ht.2
 have aR:(a:Int)<(s.size:Int):=by omega
 have hv:=ZJ s a aG;rw[ha]at ay hy;rw[ay]at hv;have ai:tk s (Aa s p.r) 63=nx (Aa s p.r):=by have:=Ew (s:=s) (r:=p.r) (by omega);rw[h2]at this;exact this
 have aH:=Zt (s:=s) (r:=p.r) (by omega);have aJ:=ZR (s:=s) (r:=p.r) (by omega);obtain⟨rr,ap⟩:∃rr,nx (Aa s p.r)=rr:=⟨_,rfl⟩
 rw[ap]at ai aH aJ;have aI:rr.a<=s.size:=by rw[<-ap];exact Dk (by omega)
 have Gr:Gp s {p with r:=rr}:=G.r aI;have pr:Au s {p with r:=rr}<=5992:=by rw[Z0 s p rr];unfold Au at hp;omega
 obtain⟨u,hu⟩:∃u,CJ s {p with r:=rr}=u:=⟨_,rfl⟩
 have Gu:Gp s u.1:=by rw[<-hu];exact Fv Gr
 have pu:Au s u.1<=5993:=by rw[<-hu];exact Qg (HA s _) (by omega)
 have ru:Ah s u.1.r<k:=by have h5:=Pg s {p with r:=rr};rw[hu]at h5;have h6:Ah s u.1.r<=Ah s rr:=h5;omega
 obtain⟨b,hb⟩:∃b,AO s (Al s k) k u.1=b:=⟨_,rfl⟩
 rw[ap,hu,hb]at ae;have Gb:Gp s b.1:=by rw[<-hb];exact Jg (Fs k) k Gu
 have pb:Au s b.1<=5993:=by rw[<-hb];exact Qg (IW s (Al s k) (Hy s k) k u.1) pu
 have hK:Kp (∀w1,Cr w1 rb s (Aa s p.r)->Calls prog 137 #[.pointer (some ⟨rb,0,none⟩),.string ⟨#[63]⟩] w1 λe w'=>e=.returned (.int .i64 0)∧Zi w1 w' rb rr):=⟨λw1 A=>by
  have h:=ZP rb s ⟨#[63]⟩ 63 (Aa s p.r) w1 A Oa (by decide) (by omega);rw[ai]at h;exact h⟩
 have hX:Kp (∀w1 S1 C,YB w1 rb sb B s {p with r:=rr} tb tp S1 C->Calls prog 193 #[.pointer (some ⟨rb,0,none⟩)] w1 (Ef rb sb B s tb tp S1 C w1 u)):=⟨λw1 S1 C A=>by
  rw[<-hu];exact JH rb sb B s tb tp hs (s.size+1) {p with r:=rr} S1 C w1 A Gr (by have:=Z5 s rr;show Ah s rr<_;omega) (by omega)⟩
 have hB:Kp (∀w1 S1 C,YB w1 rb sb B s u.1 tb tp S1 C->Calls prog 194 #[.pointer (some ⟨rb,0,none⟩)] w1 (IA rb sb B s tb tp S1 C w1 b)):=⟨λw1 S1 C A=>by
  rw[<-hb];exact Mz rb sb B s tb tp hs k ih u.1 S1 C w1 A Gu ru (by omega)⟩
 have hY:Kp (∀w1 S1 C,YB w1 rb sb B s b.1 tb tp S1 C->Calls prog 138 #[.pointer (some ⟨rb,0,none⟩),.string ⟨#[58]⟩] w1 λe w'=>e=.returned (.bool false)∧Zi w1 w' rb (Aa s b.1.r)):=⟨λw1 S1 C A=>by
  have h:=IQ rb s ⟨#[58]⟩ 58 b.1.r w1 A.rd (Gb.ok hs) (by decide) (by omega);rw[Qf.2 ae]at h;exact h⟩
 obtain⟨z,hz⟩:∃z:Rs,{b.1 with r:=Aa s b.1.r}=z:=⟨_,rfl⟩
 have M:z.sm.length<=10000:=by rw[<-hz];have:=KZ pb;show b.1.sm.length<=10000;omega
 have aq:(Dl z z.r ⟨63,a,0,u.2,b.2,[],false⟩).1=y.1:=by rw[<-hy,<-hz];unfold F0;dsimp only;rw[ai,hu,hb,if_neg ae];rfl
 have az:y.2=z.sm.length:=by rw[<-hy,<-hz];unfold F0;dsimp only;rw[ai,hu,hb,if_neg ae];rfl
 rw[h2]at ax;subst ax;replace aq:=Z_ aq;replace az:=Z_ az;replace hz:=Z_ hz;replace M:=Z_ M;obtain⟨i0,aF,aK,aL,aM⟩:=AX Ly;replace hS:=Z_ hS;replace hA:=Z_ hA;replace hy:=Z_ hy;replace ha:=Z_ ha;clear H G hk hp ea ay ht aS Ga Oa ai aH aJ ap aI Gr pr hu Gu pu ru hb Gb pb ae;go_in;go_wp2_with fail;refine hS.o.mono ?_;rintro e w1 ⟨rfl,R1⟩;have A1:=hA.o w1 R1;have c0:=A1.rd.c0;have c1:w1.cell? ⟨rb,1,none⟩=some (.int .i64 a):=by rw[<-ha.o];exact A1.rd.c1
 have aj:=A1.rd.lt;have E0:=DU.new (w1:=w1) A1 (ZW.rd (S:=S) R1) (.int .u8 63) (.int .i64 a) (.int .i64 0) (.int .i64 0) (.slice none 0 0) (.slice none 0 0) (.bool false) 123;replace E0:=Z_ E0;clear hS hA A1 R1;go_wp2_with fail;go_region;go_wp2_with fail;refine(hK.o _ E0.o.H.rd).mono ?_;rintro e w2 ⟨rfl,R⟩;have E2:=E0.o.rd R;replace E2:=Z_ E2;clear R;obtain⟨g,hg⟩:∃g,w1.heap.size=g:=⟨_,rfl⟩
 rw[hg]at E2;simp only[hg];clear hg E0 c0 c1 aj;go_wp2_with fail;refine(hX.o _ _ _ E2.o.H).mono ?_;rintro e w5 ⟨rfl,S5,A5,T5⟩;have E5:=E2.o.ps A5 T5 (DM.refl _ _);clear A5 T5;have e3:=E5.W.c 3 _ rfl;have f3:=E5.W.f 3 _ rfl;have ab:=E5.W.lt;have E6:=E5.set 3 (.int .i64 (u.2:Nat)) (by simp);replace E6:=Z_ E6;clear E2 E5;go_wp2_with fail;refine(hB.o _ _ _ E6.o.H).mono ?_;rintro e w7 ⟨v1,rfl,S7,aT,A7,T7,N7,I7,F7⟩;have F1:∀k,v1.ownBlock=some k->w.heap.size<=k∧g≠k:=λk hk=>⟨Qg E6.o.T.size (F7 k hk).1,by have:=(F7 k hk).1;have:=E6.o.W.lt;omega⟩
 obtain⟨Q,U,rfl⟩:=Zc I7.1;have E7:=E6.o.ps A7 T7 N7;clear A7 T7 N7 F7 e3 f3 ab E6;have e4:=E7.W.c 4 _ rfl;have f4:=E7.W.f 4 _ rfl;have ab:=E7.W.lt;have E8:=E7.set 4 (.slice Q b.2.length U) (by simp);have I8:=I7.grow (Hq w7 g 4 (.slice Q b.2.length U)) (λk hk e=>(F1 k e).2 (Option.some.inj hk));replace E8:=Z_ E8;replace I8:=Z_ I8;replace F1:=Z_ F1;clear E7 I7;go_wp2_with fail;refine(hY.o _ _ _ E8.o.H).mono ?_;rintro e w8 ⟨rfl,R⟩;have V:=E8.o.rd R;have aA:=I8.o.to (ZW.rd (sb:=sb) (S:=S7) R) V.H.b0 V.H.b1;clear R E8 I8 e4 f4 ab;have e6:=V.W.c 6 _ rfl;have f6:=V.W.f 6 _ rfl;have ab:=V.W.lt;have al:=V.set 6 (.bool false) (by simp);have am:=aA.grow (Hq w8 g 6 (.bool false)) (λk hk e=>(F1.o k e).2 (Option.some.inj hk));replace al:=Z_ al;replace am:=Z_ am;clear V aA;obtain⟨O,ak⟩:∃O,w8.setCell ⟨g,6,none⟩ (.bool false)=O:=⟨_,rfl⟩
 have x:Kp _:=⟨al.o⟩
 rw[hz.o,ak]at x;have I9:=am.o;rw[ak]at I9;obtain⟨P,aw⟩:∃P,P=S7:=⟨_,rfl⟩
 obtain⟨Z,av⟩:∃Z,Z=aT:=⟨_,rfl⟩
 have x:Kp (DU O rb sb B s z tb tp P Z g [.int .u8 63,.int .i64 a,.int .i64 0,.int .i64 (u.2:Nat),.slice Q b.2.length U,.slice none 0 0,.bool false] w S sv):=⟨by rw[av,aw];exact x.o⟩
 rw[<-aw]at I9;clear av aw al am;have aD:BD O B P (.slice Q b.2.length U) b.2:=I9;have aE:BD O B P (.slice none 0 0) []:=BD.nil _ _ _;have aO:Kp (∀k,(Value.slice Q b.2.length U).ownBlock=some k->w.heap.size<=k):=⟨λk hk=>(F1.o k hk).1⟩
 have aP:Kp (∀k,(Value.slice none 0 0).ownBlock=some k->w.heap.size<=k):=⟨λk hk=>by cases hk⟩
 have M:=M.o;replace I9:=Z_ I9;have aB:Kp (BD O B P (.slice Q b.2.length U) (⟨63,a,0,u.2,b.2,[],false⟩:Sm).bo):=⟨aD⟩
 have aC:Kp (BD O B P (.slice none 0 0) (⟨63,a,0,u.2,b.2,[],false⟩:Sm).el):=⟨aE⟩
 have c:O.cell? ⟨sb,5,none⟩=some (P 1):=x.o.H.c 1 (by omega);have c3:=x.o.H.c3;have au:=x.o.H.lt;have aj:=x.o.H.rd.lt;have aa:O.ownsRow B 123 7 (P 1) z.sm.length ((List.zip z.sm Z).flatMap BK):=x.o.H.o 1 (by omega);have ad:some sb≠(P 1).ownBlock:=λe=>by have:=(aa.lt _ e.symm).1;have:=x.o.H.b1;omega
 have ao:some rb≠(P 1).ownBlock:=λe=>by have:=(aa.lt _ e.symm).1;have:=x.o.H.b0;omega
 have ab:=x.o.W.lt;have d0:=x.o.W.c 0 _ rfl;have d1:=x.o.W.c 1 _ rfl;have d2:=x.o.W.c 2 _ rfl;have d3:=x.o.W.c 3 _ rfl;have d4:=x.o.W.c 4 _ rfl;have d5:=x.o.W.c 5 _ rfl;have d6:=x.o.W.c 6 _ rfl;obtain⟨K,L⟩:∃K,K=(O.alloc (.cells #[.int .u8 63,.int .i64 a,.int .i64 0,.int .i64 (u.2:Nat),.slice Q b.2.length U,.slice none 0 0,.bool false] 123)).drew:=⟨_,rfl⟩
 have O2:AF K O.heap.size (BK ((⟨63,a,0,u.2,b.2,[],false⟩:Sm),(.slice Q b.2.length U,.slice none 0 0))):=by have:=(Dd O (.int .u8 63) (.int .i64 a) (.int .i64 0) (.int .i64 (u.2:Nat)) (.slice Q b.2.length U) (.slice none 0 0) (.bool false) 123).step ((Qh _ _).drew);rw[<-L]at this;exact this
 have q:Below O.heap.size O K:=by rw[L];exact((Qh _ _).alloc (Qb _) _).drew
 have an:some g≠(P 1).ownBlock:=λe=>x.o.F.o 1 (by omega) e.symm;have aU:g≠sb:=x.o.F.s
 have K6:Kp (∀l:World,l.heap[g]?=K.heap[g]?->l.cell? ⟨g,0,none⟩=some (.int .u8 63)∧l.cell? ⟨g,1,none⟩=some (.int .i64 a)∧l.cell? ⟨g,2,none⟩=some (.int .i64 0)∧l.cell? ⟨g,3,none⟩=some (.int .i64 (u.2:Nat))∧l.cell? ⟨g,4,none⟩=some (.slice Q b.2.length U)∧l.cell? ⟨g,5,none⟩=some (.slice none 0 0)∧l.cell? ⟨g,6,none⟩=some (.bool false)):=⟨λl hb=>by
  have hc:∀i,l.cell? ⟨g,i,none⟩=O.cell? ⟨g,i,none⟩:=λi=>by rw[Qo (w:=K) (a:=⟨g,i,none⟩) hb];exact q.cell (p:=⟨g,i,none⟩) ab
  exact⟨by rw[hc];exact d0,by rw[hc];exact d1,by rw[hc];exact d2,by rw[hc];exact d3,by rw[hc];exact d4,by rw[hc];exact d5,by rw[hc];exact d6⟩⟩
 have K7:Kp (∀(l:World) (v:Value),l.cell? ⟨rb,3,none⟩=some (.pointer (some ⟨sb,0,none⟩))->(l.cell? ⟨g,0,none⟩=some (.int .u8 63)∧l.cell? ⟨g,1,none⟩=some (.int .i64 a)∧l.cell? ⟨g,2,none⟩=some (.int .i64 0)∧l.cell? ⟨g,3,none⟩=some (.int .i64 (u.2:Nat))∧l.cell? ⟨g,4,none⟩=some (.slice Q b.2.length U)∧l.cell? ⟨g,5,none⟩=some (.slice none 0 0)∧l.cell? ⟨g,6,none⟩=some (.bool false))->(l.setCell ⟨sb,5,none⟩ v).cell? ⟨rb,3,none⟩=some (.pointer (some ⟨sb,0,none⟩))∧(l.setCell ⟨sb,5,none⟩ v).cell? ⟨g,0,none⟩=some (.int .u8 63)∧(l.setCell ⟨sb,5,none⟩ v).cell? ⟨g,1,none⟩=some (.int .i64 a)∧(l.setCell ⟨sb,5,none⟩ v).cell? ⟨g,2,none⟩=some (.int .i64 0)∧(l.setCell ⟨sb,5,none⟩ v).cell? ⟨g,3,none⟩=some (.int .i64 (u.2:Nat))∧(l.setCell ⟨sb,5,none⟩ v).cell? ⟨g,4,none⟩=some (.slice Q b.2.length U)∧(l.setCell ⟨sb,5,none⟩ v).cell? ⟨g,5,none⟩=some (.slice none 0 0)∧(l.setCell ⟨sb,5,none⟩ v).cell? ⟨g,6,none⟩=some (.bool false)):=⟨λl v h1 h2=>by
  have hc:∀i,(l.setCell ⟨sb,5,none⟩ v).cell? ⟨g,i,none⟩=l.cell? ⟨g,i,none⟩:=λi=>World.cell?_setCell_far _ _ _ _ (by show sb≠g;omega);refine⟨by rw[QN _ _ _ _ (by simp)];exact h1,?_⟩;simp only[hc];exact h2⟩
 have J:K.heap.size=O.heap.size+1:=by rw[L];simp
 have K1:Kp (K.ownsRow B 123 7 (P 1) z.sm.length ((List.zip z.sm Z).flatMap BK)):=⟨Zo aa q⟩
 have K2:Kp (∀j uq,(BK ((⟨63,a,0,u.2,b.2,[],false⟩:Sm),(.slice Q b.2.length U,.slice none 0 0)))[j]?=some uq->K.cell? ((⟨O.heap.size,0,none⟩:Addr).add j)=some uq):=⟨λj uq hj=>by
  have:=O2.c j uq hj;rcases Q0 j with h0|h0
  ·subst h0;simpa [Addr.add] using this
  ·have h1:¬j=0:=by omega
   simpa [Addr.add,h1] using this⟩
 have K3:Kp (∀uq,uq∈BK ((⟨63,a,0,u.2,b.2,[],false⟩:Sm),(.slice Q b.2.length U,.slice none 0 0))->uq.oneCell'=true):=⟨λuq hu=>by
  unfold BK at hu;simp only[Uc,QV,or_false]at hu;rcases hu with rfl|rfl|rfl|rfl|rfl|rfl|rfl
  ·rfl
  ·rfl
  ·rfl
  ·rfl
  ·rfl
  ·rfl
  ·rfl⟩
 have K4:Kp (B<=K.heap.size):=⟨by rw[J];have:=x.o.H.hB;omega⟩
 have K5:Kp (K.cell? ⟨sb,5,none⟩=some (P 1)∧K.frozen? ⟨sb,5,none⟩=false∧K.cell? ⟨rb,3,none⟩=some (.pointer (some ⟨sb,0,none⟩))):=⟨by rw[q.cell (p:=⟨sb,5,none⟩) au];exact c,by rw[q.frozen (p:=⟨sb,5,none⟩) au];exact x.o.H.f 5 (by omega),by rw[q.cell (p:=⟨rb,3,none⟩) aj];exact c3⟩
 have aV:z.sm.length<=10000:=M;replace ad:=Z_ ad;replace an:=Z_ an;replace ao:=Z_ ao;replace q:=Z_ q;replace J:=Z_ J;replace L:=Z_ L;clear aa O2 M aD aE;replace ak:=Z_ ak;clear ih hv aR aG hK hX hB hY;go_wp2_with fail;rw[ak.o];apply LP
 ·intro aN;refine wp_region_held_drew (S:=(λw'=>w'.cell? ⟨rb,3,none⟩=some (.pointer (some ⟨sb,0,none⟩))∧w'.cell? ⟨g,0,none⟩=some (.int .u8 63)∧w'.cell? ⟨g,1,none⟩=some (.int .i64 a)∧w'.cell? ⟨g,2,none⟩=some (.int .i64 0)∧w'.cell? ⟨g,3,none⟩=some (.int .i64 (u.2:Nat))∧w'.cell? ⟨g,4,none⟩=some (.slice Q b.2.length U)∧w'.cell? ⟨g,5,none⟩=some (.slice none 0 0)∧w'.cell? ⟨g,6,none⟩=some (.bool false))) (by kernel_rfl) (by go_keep) (λaQ=>?_);refine AS (i:=0) (v:=?_) rfl (Or.inl ⟨by rfl,?_⟩) (by assumption) ?_;rotate_left
  ·intro w t;go_simp<;>rfl
  try simp only[Act.put,Qa,Qc,Qd]
  refine AS (i:=1) (v:=?_) rfl (Or.inl ⟨by rfl,?_⟩) (by assumption) ?_;rotate_left
  ·intro w t;go_simp<;>rfl
  try simp only[Act.put,Qa,Qc,Qd]
  refine AS (i:=2) (v:=?_) rfl (Or.inl ⟨by rfl,?_⟩) (by assumption) ?_;rotate_left
  ·intro w t;go_simp<;>rfl
  try simp only[Act.put,Qa,Qc,Qd]
  refine AS (i:=3) (v:=?_) rfl (Or.inl ⟨by rfl,?_⟩) (by assumption) ?_;rotate_left
  ·intro w t;go_simp<;>rfl
  try simp only[Act.put,Qa,Qc,Qd]
  refine AS (i:=4) (v:=?_) rfl (Or.inl ⟨by rfl,?_⟩) (by assumption) ?_;rotate_left
  ·intro w t;go_simp<;>rfl
  try simp only[Act.put,Qa,Qc,Qd]
  refine AS (i:=5) (v:=?_) rfl (Or.inl ⟨by rfl,?_⟩) (by assumption) ?_;rotate_left
  ·intro w t;go_simp<;>rfl
  try simp only[Act.put,Qa,Qc,Qd]
  refine AS (i:=6) (v:=?_) rfl (Or.inl ⟨by rfl,?_⟩) (by assumption) ?_;rotate_left
  ·intro w t;go_simp<;>rfl
  try simp only[Act.put,Qa,Qc,Qd]
  refine AS (i:=7) (v:=?_) rfl (Or.inl ⟨by rfl,?_⟩) (by assumption) ?_;rotate_left
  ·intro w t;go_simp<;>rfl
  try simp only[Act.put,Qa,Qc,Qd]
  refine AS (i:=8) (v:=?_) rfl (Or.inl ⟨by rfl,?_⟩) (by assumption) ?_;rotate_left
  ·intro w t;go_simp<;>rfl
  try simp only[Act.put,Qa,Qc,Qd]
  refine AS (i:=9) (v:=?_) rfl (Or.inl ⟨by rfl,?_⟩) (by assumption) ?_;rotate_left
  ·intro w t;go_simp<;>rfl
  try simp only[Act.put,Qa,Qc,Qd]
  refine AS (i:=11) (v:=?_) rfl (Or.inl ⟨by rfl,?_⟩) (by assumption) ?_;rotate_left
  ·intro w t;go_simp<;>rfl
  try simp only[Act.put,Qa,Qc,Qd]
  refine wpAnyH_ready (rs:=[10,12]) (by kernel_rfl) (by simp) (AllReadyH.cons (o:=_) rfl (λX m=>?_) (AllReadyH.cons (o:=_) rfl (λX m=>?_) AllReadyH.nil))
  ·go_simp;refine m.out _ _ (by go_keep) (λaf=>?_);clear m X;try simp only[Act.put,Qa,Qc,Qd]
   refine wpAnyH_ready (rs:=[12]) (by kernel_rfl) (by simp) (AllReadyH.cons (o:=_) rfl (λX m=>?_) AllReadyH.nil);go_simp;refine m.out _ _ (by rw[<-L.o];exact⟨K5.o.2.2,K6.o K rfl⟩) (λag=>?_);clear m X;try simp only[Act.put,Qa,Qc,Qd]
   refine wpAnyH_ready (rs:=[13]) (by kernel_rfl) (by simp) (AllReadyH.cons (o:=_) rfl (λX m=>?_) AllReadyH.nil);rw[<-L.o];refine Zr rfl (.tmp 85) (.tmp 87) 68 rfl B 123 i0 _ 7 88 Tryz.underlying68 aF aK aL aM rfl (by decide) (P 1) z.sm.length ((List.zip z.sm Z).flatMap BK) (by simp[Act.eval]) K1.o ⟨O.heap.size,0,none⟩ (BK ((⟨63,a,0,u.2,b.2,[],false⟩:Sm),(.slice Q b.2.length U,.slice none 0 0))) (by simp[Act.eval]) rfl K2.o K3.o (by unfold maxLen;omega) (by omega) K4.o ?_;intro v' l I d ah;obtain⟨pp,cc,rfl⟩:=Zc I;have a1:l.cell? ⟨sb,5,none⟩=some (P 1):=by rw[Qo (w:=K) (d.block sb (by rw[J.o];omega) ad.o)];exact K5.o.1
   have f1:l.frozen? ⟨sb,5,none⟩=false:=by rw[Qz (w:=K) (d.block sb (by rw[J.o];omega) ad.o)];exact K5.o.2.1
   have a3:l.cell? ⟨rb,3,none⟩=some (.pointer (some ⟨sb,0,none⟩)):=by rw[Qo (w:=K) (d.block rb (by rw[J.o];omega) ao.o)];exact K5.o.2.2
   have Y:=K6.o l (d.block g (by rw[J.o];omega) an.o);refine m.out _ _ (⟨a3,Y⟩) (λD=>?_);clear m X;try simp only[Act.put,Qa,Qc,Qd]
   refine AS (i:=14) (v:=?_) rfl (Or.inl ⟨by rfl,?_⟩) (by assumption) ?_;rotate_left
   ·intro w t;go_simp<;>rfl
   try simp only[Act.put,Qa,Qc,Qd]
   refine AS (i:=15) (v:=?_) rfl (Or.inl ⟨by rfl,?_⟩) (by assumption) ?_;rotate_left
   ·intro w t;go_simp<;>rfl
   try simp only[Act.put,Qa,Qc,Qd]
   refine wpAnyH_ready (rs:=[16]) (by kernel_rfl) (by simp) (AllReadyH.cons (o:=_) rfl (λX m=>?_) AllReadyH.nil);go_simp;refine m.out _ _ (K7.o _ _ a3 Y) (λE=>?_);clear m X;try simp only[Act.put,Qa,Qc,Qd]
   refine wpAnyH_done (by kernel_rfl) ?_ _;have hR:=GP x.o.H aB.o aC.o q.o d I ah;have a2:(l.setCell ⟨sb,5,none⟩ (.slice pp (z.sm.length+1) cc)).cell? ⟨sb,5,none⟩=some (.slice pp (z.sm.length+1) cc):=Qk _ _ _ a1;have a4:(l.setCell ⟨sb,5,none⟩ (.slice pp (z.sm.length+1) cc)).cell? ⟨rb,3,none⟩=some (.pointer (some ⟨sb,0,none⟩)):=hR.1.c3;rw[aq.o]at hR;replace hR:=Z_ hR;clear I d ah a1 a3 f1 Y D E;generalize l.setCell ⟨sb,5,none⟩ (.slice pp (z.sm.length+1) cc)=ar at *;clear l;revert a2 a4 hR;revert ar pp cc;exact aN.o
  ·go_simp;refine m.out _ _ (by rw[<-L.o];exact⟨K5.o.2.2,K6.o K rfl⟩) (λag=>?_);clear m X;try simp only[Act.put,Qa,Qc,Qd]
   refine wpAnyH_ready (rs:=[10]) (by kernel_rfl) (by simp) (AllReadyH.cons (o:=_) rfl (λX m=>?_) AllReadyH.nil);go_simp;refine m.out _ _ (by rw[<-L.o];exact⟨K5.o.2.2,K6.o K rfl⟩) (λaf=>?_);clear m X;try simp only[Act.put,Qa,Qc,Qd]
   refine wpAnyH_ready (rs:=[13]) (by kernel_rfl) (by simp) (AllReadyH.cons (o:=_) rfl (λX m=>?_) AllReadyH.nil);rw[<-L.o];refine Zr rfl (.tmp 85) (.tmp 87) 68 rfl B 123 i0 _ 7 88 Tryz.underlying68 aF aK aL aM rfl (by decide) (P 1) z.sm.length ((List.zip z.sm Z).flatMap BK) (by simp[Act.eval]) K1.o ⟨O.heap.size,0,none⟩ (BK ((⟨63,a,0,u.2,b.2,[],false⟩:Sm),(.slice Q b.2.length U,.slice none 0 0))) (by simp[Act.eval]) rfl K2.o K3.o (by unfold maxLen;omega) (by omega) K4.o ?_;intro v' l I d ah;obtain⟨pp,cc,rfl⟩:=Zc I;have a1:l.cell? ⟨sb,5,none⟩=some (P 1):=by rw[Qo (w:=K) (d.block sb (by rw[J.o];omega) ad.o)];exact K5.o.1
   have f1:l.frozen? ⟨sb,5,none⟩=false:=by rw[Qz (w:=K) (d.block sb (by rw[J.o];omega) ad.o)];exact K5.o.2.1
   have a3:l.cell? ⟨rb,3,none⟩=some (.pointer (some ⟨sb,0,none⟩)):=by rw[Qo (w:=K) (d.block rb (by rw[J.o];omega) ao.o)];exact K5.o.2.2
   have Y:=K6.o l (d.block g (by rw[J.o];omega) an.o);refine m.out _ _ (⟨a3,Y⟩) (λD=>?_);clear m X;try simp only[Act.put,Qa,Qc,Qd]
   refine AS (i:=14) (v:=?_) rfl (Or.inl ⟨by rfl,?_⟩) (by assumption) ?_;rotate_left
   ·intro w t;go_simp<;>rfl
   try simp only[Act.put,Qa,Qc,Qd]
   refine AS (i:=15) (v:=?_) rfl (Or.inl ⟨by rfl,?_⟩) (by assumption) ?_;rotate_left
   ·intro w t;go_simp<;>rfl
   try simp only[Act.put,Qa,Qc,Qd]
   refine wpAnyH_ready (rs:=[16]) (by kernel_rfl) (by simp) (AllReadyH.cons (o:=_) rfl (λX m=>?_) AllReadyH.nil);go_simp;refine m.out _ _ (K7.o _ _ a3 Y) (λE=>?_);clear m X;try simp only[Act.put,Qa,Qc,Qd]
   refine wpAnyH_done (by kernel_rfl) ?_ _;have hR:=GP x.o.H aB.o aC.o q.o d I ah;have a2:(l.setCell ⟨sb,5,none⟩ (.slice pp (z.sm.length+1) cc)).cell? ⟨sb,5,none⟩=some (.slice pp (z.sm.length+1) cc):=Qk _ _ _ a1;have a4:(l.setCell ⟨sb,5,none⟩ (.slice pp (z.sm.length+1) cc)).cell? ⟨rb,3,none⟩=some (.pointer (some ⟨sb,0,none⟩)):=hR.1.c3;rw[aq.o]at hR;replace hR:=Z_ hR;clear I d ah a1 a3 f1 Y D E;generalize l.setCell ⟨sb,5,none⟩ (.slice pp (z.sm.length+1) cc)=ar at *;clear l;revert a2 a4 hR;revert ar pp cc;exact aN.o
 intro ar pp cc a2 a4 hR;clear K1 K2 K3 K4 K5 K6 K7 d0 d1 d2 d3 d4 d5 d6 c c3;generalize hn:z.sm.length=n at *;replace hn:=Z_ hn;go_wp2;go_ret;exact⟨by rw[az.o];simp,_,_,hR.o.1,x.o.T.trans hR.o.2,Lz x.o.N aO.o aP.o⟩
end Go.Proofs.YtcnbifdlkalimabGreat
