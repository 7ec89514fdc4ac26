/- Lemmas; their conditions stand in each. -/
import Derived.Test.YtcnbifdlkalimabGreatRdrC
namespace Go.Proofs.YtcnbifdlkalimabGreat
open Go.RowKit Go.Proofs.Tryz
set_option linter.all false
set_option maxRecDepth 100000
set_option maxHeartbeats 6400000
theorem Zrt(rb sb B:Nat)(s tb:ZB)(tp:Value)(hs:s.size<=300)(k:Nat)(ih:Kp (Ho rb sb B s tb tp k))(p:Rs)(S:Nat->Value)(sv:List (Value×Value))(w:World)(H:YB w rb sb B s p tb tp S sv)(G:Gp s p)(hk:Ah s p.r<k+1)(hp:Au s p<=6000)(h3:Ae s p.r=64) :
  Calls prog 141 #[.pointer (some ⟨rb,0,none⟩)] w (Js rb sb B s tb tp S sv w (Al s (k+1) p)):=by
 have ht:=Z8 (s:=s) (r:=p.r) (by omega);have hS:=IR rb s p.r w H.rd (G.ok hs);have ea:(⟨PT s p.r.a,p.r.er⟩:Rd)=Aa s p.r:=by rw[Fp ht.1,ht.1]
 rw[ea]at hS;obtain⟨y,hy⟩:∃y,Al s (k+1) p=y:=⟨_,rfl⟩
 rw[hy];simp only[Al]at hy;rw[if_neg (by omega),if_neg (by omega),if_pos h3]at hy;have hA:=λ(w1:World) (T:Zi w w1 rb (Aa s p.r))=>H.rdto T;obtain⟨tv,au⟩:∃tv,Ae s p.r=tv:=⟨_,rfl⟩
 have av:bv s (Aa s p.r).a=tv:=by rw[<-au];exact(if_pos ⟨by rw[Zl];exact ht.1,ht.2⟩).symm
 have aO:=Zu s p.r;have Ga:Gp s {p with r:=Aa s p.r}:=G.r (Ze G.le);have Oa:Ci s (Aa s p.r):=⟨hs,Ze G.le⟩
 obtain⟨a,ha⟩:∃a,(Aa s p.r).a=a:=⟨_,rfl⟩
 have aC:a<s.size:=by rw[<-ha];exact ht.2
 have aN:(a:Int)<(s.size:Int):=by omega
 have hv:=ZJ s a aC;rw[ha]at av hy;rw[av]at hv;have ag:tk s (Aa s p.r) 64=nx (Aa s p.r):=by have:=Ew (s:=s) (r:=p.r) (by omega);rw[h3]at this;exact this
 have aD:=Zt (s:=s) (r:=p.r) (by omega);have aF:=ZR (s:=s) (r:=p.r) (by omega);obtain⟨rr,ar⟩:∃rr,nx (Aa s p.r)=rr:=⟨_,rfl⟩
 rw[ar]at ag aD aF;have aE:rr.a<=s.size:=by rw[<-ar];exact Dk (by omega)
 have Gr:Gp s {p with r:=rr}:=G.r aE;have pr:Au s {p with r:=rr}<=5992:=by rw[Z0 s p rr];unfold Au at hp;omega
 obtain⟨u,hu⟩:∃u,CJ s {p with r:=rr}=u:=⟨_,rfl⟩
 have Gu:Gp s u.1:=by rw[<-hu];exact Fv Gr
 have pu:Au s u.1<=5993:=by rw[<-hu];exact Qg (HA s _) (by omega)
 have ru:Ah s u.1.r<k:=by have h5:=Pg s {p with r:=rr};rw[hu]at h5;have h6:Ah s u.1.r<=Ah s rr:=h5;omega
 obtain⟨b,hb⟩:∃b,AO s (Al s k) k u.1=b:=⟨_,rfl⟩
 have Gb:Gp s b.1:=by rw[<-hb];exact Jg (Fs k) k Gu
 have pb:Au s b.1<=5993:=by rw[<-hb];exact Qg (IW s (Al s k) (Hy s k) k u.1) pu
 have hK:Kp (∀w1,Cr w1 rb s (Aa s p.r)->Calls prog 137 #[.pointer (some ⟨rb,0,none⟩),.string ⟨#[64]⟩] w1 λe w'=>e=.returned (.int .i64 0)∧Zi w1 w' rb rr):=⟨λw1 A=>by
  have h:=ZP rb s ⟨#[64]⟩ 64 (Aa s p.r) w1 A Oa (by decide) (by omega);rw[ag]at h;exact h⟩
 have hX:Kp (∀w1 S1 M,YB w1 rb sb B s {p with r:=rr} tb tp S1 M->Calls prog 193 #[.pointer (some ⟨rb,0,none⟩)] w1 (Ef rb sb B s tb tp S1 M w1 u)):=⟨λw1 S1 M A=>by
  rw[<-hu];exact JH rb sb B s tb tp hs (s.size+1) {p with r:=rr} S1 M w1 A Gr (by have:=Z5 s rr;show Ah s rr<_;omega) (by omega)⟩
 have hB:Kp (∀w1 S1 M,YB w1 rb sb B s u.1 tb tp S1 M->Calls prog 194 #[.pointer (some ⟨rb,0,none⟩)] w1 (IA rb sb B s tb tp S1 M w1 b)):=⟨λw1 S1 M A=>by
  rw[<-hb];exact Mz rb sb B s tb tp hs k ih u.1 S1 M w1 A Gu ru (by omega)⟩
 obtain⟨z,hz⟩:∃z:Rs,b.1=z:=⟨_,rfl⟩
 have L:z.sm.length<=10000:=by rw[<-hz];have:=KZ pb;omega
 have am:(Dl z z.r ⟨64,a,0,u.2,b.2,[],false⟩).1=y.1:=by rw[<-hy,<-hz];unfold Hl;dsimp only;rw[ag,hu,hb]
 have aw:y.2=z.sm.length:=by rw[<-hy,<-hz];unfold Hl;dsimp only;rw[ag,hu,hb];rfl
 rw[h3]at au;subst au;replace am:=Z_ am;replace aw:=Z_ aw;replace hz:=Z_ hz;replace L:=Z_ L;obtain⟨i0,aB,aG,aH,aI⟩:=AX Ly;replace hS:=Z_ hS;replace hA:=Z_ hA;replace hy:=Z_ hy;replace ha:=Z_ ha;clear H G hk hp ea av ht aO Ga Oa ag aD aF ar aE Gr pr hu Gu pu ru hb Gb pb;go_in;go_wp2_with fail;refine hS.o.mono ?_;rintro e w1 ⟨rfl,R1⟩;have A1:=hA.o w1 R1;have c0:=A1.rd.c0;have c1:w1.cell? ⟨rb,1,none⟩=some (.int .i64 a):=by rw[<-ha.o];exact A1.rd.c1
 have ah:=A1.rd.lt;have E0:=DU.new (w1:=w1) A1 (ZW.rd (S:=S) R1) (.int .u8 64) (.int .i64 a) (.int .i64 0) (.int .i64 0) (.slice none 0 0) (.slice none 0 0) (.bool false) 123;replace E0:=Z_ E0;clear hS hA A1 R1;go_wp2_with fail;go_region;go_wp2_with fail;refine(hK.o _ E0.o.H.rd).mono ?_;rintro e w2 ⟨rfl,R⟩;have E2:=E0.o.rd R;replace E2:=Z_ E2;clear R;obtain⟨g,hg⟩:∃g,w1.heap.size=g:=⟨_,rfl⟩
 rw[hg]at E2;simp only[hg];clear hg E0 c0 c1 ah;go_wp2_with fail;refine(hX.o _ _ _ E2.o.H).mono ?_;rintro e w5 ⟨rfl,S5,A5,T5⟩;have E5:=E2.o.ps A5 T5 (DM.refl _ _);clear A5 T5;have e3:=E5.W.c 3 _ rfl;have f3:=E5.W.f 3 _ rfl;have aj:=E5.W.lt;have E6:=E5.set 3 (.int .i64 (u.2:Nat)) (by simp);replace E6:=Z_ E6;clear E2 E5;go_wp2_with fail;refine(hB.o _ _ _ E6.o.H).mono ?_;rintro e w7 ⟨v1,rfl,S7,aP,A7,T7,N7,I7,F7⟩;have F1:∀k,v1.ownBlock=some k->w.heap.size<=k∧g≠k:=λk hk=>⟨Qg E6.o.T.size (F7 k hk).1,by have:=(F7 k hk).1;have:=E6.o.W.lt;omega⟩
 obtain⟨Q,U,rfl⟩:=Zc I7.1;have E7:=E6.o.ps A7 T7 N7;clear A7 T7 N7 F7 e3 f3 aj E6;have e4:=E7.W.c 4 _ rfl;have f4:=E7.W.f 4 _ rfl;have aj:=E7.W.lt;have E8:=E7.set 4 (.slice Q b.2.length U) (by simp);have I8:=I7.grow (Hq w7 g 4 (.slice Q b.2.length U)) (λk hk e=>(F1 k e).2 (Option.some.inj hk));replace E8:=Z_ E8;replace I8:=Z_ I8;replace F1:=Z_ F1;clear E7 I7;obtain⟨O,ai⟩:∃O,w7.setCell ⟨g,4,none⟩ (.slice Q b.2.length U)=O:=⟨_,rfl⟩
 have x:Kp _:=⟨E8.o⟩
 rw[hz.o,ai]at x;have I9:=I8.o;rw[ai]at I9;obtain⟨P,aq⟩:∃P,P=S7:=⟨_,rfl⟩
 obtain⟨Y,ap⟩:∃Y,Y=aP:=⟨_,rfl⟩
 have x:Kp (DU O rb sb B s z tb tp P Y g [.int .u8 64,.int .i64 a,.int .i64 0,.int .i64 (u.2:Nat),.slice Q b.2.length U,.slice none 0 0,.bool false] w S sv):=⟨by rw[ap,aq];exact x.o⟩
 rw[<-aq]at I9;clear ap aq;have az:BD O B P (.slice Q b.2.length U) b.2:=I9;have aA:BD O B P (.slice none 0 0) []:=BD.nil _ _ _;have aK:Kp (∀k,(Value.slice Q b.2.length U).ownBlock=some k->w.heap.size<=k):=⟨λk hk=>(F1.o k hk).1⟩
 have aL:Kp (∀k,(Value.slice none 0 0).ownBlock=some k->w.heap.size<=k):=⟨λk hk=>by cases hk⟩
 have L:=L.o;replace I9:=Z_ I9;have ax:Kp (BD O B P (.slice Q b.2.length U) (⟨64,a,0,u.2,b.2,[],false⟩:Sm).bo):=⟨az⟩
 have ay:Kp (BD O B P (.slice none 0 0) (⟨64,a,0,u.2,b.2,[],false⟩:Sm).el):=⟨aA⟩
 have c:O.cell? ⟨sb,5,none⟩=some (P 1):=x.o.H.c 1 (by omega);have c3:=x.o.H.c3;have ao:=x.o.H.lt;have ah:=x.o.H.rd.lt;have aa:O.ownsRow B 123 7 (P 1) z.sm.length ((List.zip z.sm Y).flatMap BK):=x.o.H.o 1 (by omega);have ab:some sb≠(P 1).ownBlock:=λe=>by have:=(aa.lt _ e.symm).1;have:=x.o.H.b1;omega
 have al:some rb≠(P 1).ownBlock:=λe=>by have:=(aa.lt _ e.symm).1;have:=x.o.H.b0;omega
 have aj:=x.o.W.lt;have d0:=x.o.W.c 0 _ rfl;have d1:=x.o.W.c 1 _ rfl;have d2:=x.o.W.c 2 _ rfl;have d3:=x.o.W.c 3 _ rfl;have d4:=x.o.W.c 4 _ rfl;have d5:=x.o.W.c 5 _ rfl;have d6:=x.o.W.c 6 _ rfl;obtain⟨J,K⟩:∃J,J=(O.alloc (.cells #[.int .u8 64,.int .i64 a,.int .i64 0,.int .i64 (u.2:Nat),.slice Q b.2.length U,.slice none 0 0,.bool false] 123)).drew:=⟨_,rfl⟩
 have O2:AF J O.heap.size (BK ((⟨64,a,0,u.2,b.2,[],false⟩:Sm),(.slice Q b.2.length U,.slice none 0 0))):=by have:=(Dd O (.int .u8 64) (.int .i64 a) (.int .i64 0) (.int .i64 (u.2:Nat)) (.slice Q b.2.length U) (.slice none 0 0) (.bool false) 123).step ((Qh _ _).drew);rw[<-K]at this;exact this
 have q:Below O.heap.size O J:=by rw[K];exact((Qh _ _).alloc (Qb _) _).drew
 have ak:some g≠(P 1).ownBlock:=λe=>x.o.F.o 1 (by omega) e.symm;have aQ:g≠sb:=x.o.F.s
 have K6:Kp (∀l:World,l.heap[g]?=J.heap[g]?->l.cell? ⟨g,0,none⟩=some (.int .u8 64)∧l.cell? ⟨g,1,none⟩=some (.int .i64 a)∧l.cell? ⟨g,2,none⟩=some (.int .i64 0)∧l.cell? ⟨g,3,none⟩=some (.int .i64 (u.2:Nat))∧l.cell? ⟨g,4,none⟩=some (.slice Q b.2.length U)∧l.cell? ⟨g,5,none⟩=some (.slice none 0 0)∧l.cell? ⟨g,6,none⟩=some (.bool false)):=⟨λl hb=>by
  have hc:∀i,l.cell? ⟨g,i,none⟩=O.cell? ⟨g,i,none⟩:=λi=>by rw[Qo (w:=J) (a:=⟨g,i,none⟩) hb];exact q.cell (p:=⟨g,i,none⟩) aj
  exact⟨by rw[hc];exact d0,by rw[hc];exact d1,by rw[hc];exact d2,by rw[hc];exact d3,by rw[hc];exact d4,by rw[hc];exact d5,by rw[hc];exact d6⟩⟩
 have K7:Kp (∀(l:World) (v:Value),l.cell? ⟨rb,3,none⟩=some (.pointer (some ⟨sb,0,none⟩))->(l.cell? ⟨g,0,none⟩=some (.int .u8 64)∧l.cell? ⟨g,1,none⟩=some (.int .i64 a)∧l.cell? ⟨g,2,none⟩=some (.int .i64 0)∧l.cell? ⟨g,3,none⟩=some (.int .i64 (u.2:Nat))∧l.cell? ⟨g,4,none⟩=some (.slice Q b.2.length U)∧l.cell? ⟨g,5,none⟩=some (.slice none 0 0)∧l.cell? ⟨g,6,none⟩=some (.bool false))->(l.setCell ⟨sb,5,none⟩ v).cell? ⟨rb,3,none⟩=some (.pointer (some ⟨sb,0,none⟩))∧(l.setCell ⟨sb,5,none⟩ v).cell? ⟨g,0,none⟩=some (.int .u8 64)∧(l.setCell ⟨sb,5,none⟩ v).cell? ⟨g,1,none⟩=some (.int .i64 a)∧(l.setCell ⟨sb,5,none⟩ v).cell? ⟨g,2,none⟩=some (.int .i64 0)∧(l.setCell ⟨sb,5,none⟩ v).cell? ⟨g,3,none⟩=some (.int .i64 (u.2:Nat))∧(l.setCell ⟨sb,5,none⟩ v).cell? ⟨g,4,none⟩=some (.slice Q b.2.length U)∧(l.setCell ⟨sb,5,none⟩ v).cell? ⟨g,5,none⟩=some (.slice none 0 0)∧(l.setCell ⟨sb,5,none⟩ v).cell? ⟨g,6,none⟩=some (.bool false)):=⟨λl v h1 h2=>by
  have hc:∀i,(l.setCell ⟨sb,5,none⟩ v).cell? ⟨g,i,none⟩=l.cell? ⟨g,i,none⟩:=λi=>World.cell?_setCell_far _ _ _ _ (by show sb≠g;omega);refine⟨by rw[QN _ _ _ _ (by simp)];exact h1,?_⟩;simp only[hc];exact h2⟩
 have I:J.heap.size=O.heap.size+1:=by rw[K];simp
 have K1:Kp (J.ownsRow B 123 7 (P 1) z.sm.length ((List.zip z.sm Y).flatMap BK)):=⟨Zo aa q⟩
 have K2:Kp (∀j uq,(BK ((⟨64,a,0,u.2,b.2,[],false⟩:Sm),(.slice Q b.2.length U,.slice none 0 0)))[j]?=some uq->J.cell? ((⟨O.heap.size,0,none⟩:Addr).add j)=some uq):=⟨λj uq hj=>by
  have:=O2.c j uq hj;rcases Q0 j with h0|h0
  ·subst h0;simpa [Addr.add] using this
  ·have h1:¬j=0:=by omega
   simpa [Addr.add,h1] using this⟩
 have K3:Kp (∀uq,uq∈BK ((⟨64,a,0,u.2,b.2,[],false⟩:Sm),(.slice Q b.2.length U,.slice none 0 0))->uq.oneCell'=true):=⟨λuq hu=>by
  unfold BK at hu;simp only[Uc,QV,or_false]at hu;rcases hu with rfl|rfl|rfl|rfl|rfl|rfl|rfl
  ·rfl
  ·rfl
  ·rfl
  ·rfl
  ·rfl
  ·rfl
  ·rfl⟩
 have K4:Kp (B<=J.heap.size):=⟨by rw[I];have:=x.o.H.hB;omega⟩
 have K5:Kp (J.cell? ⟨sb,5,none⟩=some (P 1)∧J.frozen? ⟨sb,5,none⟩=false∧J.cell? ⟨rb,3,none⟩=some (.pointer (some ⟨sb,0,none⟩))):=⟨by rw[q.cell (p:=⟨sb,5,none⟩) ao];exact c,by rw[q.frozen (p:=⟨sb,5,none⟩) ao];exact x.o.H.f 5 (by omega),by rw[q.cell (p:=⟨rb,3,none⟩) ah];exact c3⟩
 have aR:z.sm.length<=10000:=L;replace ab:=Z_ ab;replace ak:=Z_ ak;replace al:=Z_ al;replace q:=Z_ q;replace I:=Z_ I;replace K:=Z_ K;clear aa O2 L az aA;replace ai:=Z_ ai;clear ih hv aN aC hK hX hB;go_wp2_with fail;rw[ai.o];apply LP
 ·intro aJ;refine wp_region_held_drew (S:=(λw'=>w'.cell? ⟨rb,3,none⟩=some (.pointer (some ⟨sb,0,none⟩))∧w'.cell? ⟨g,0,none⟩=some (.int .u8 64)∧w'.cell? ⟨g,1,none⟩=some (.int .i64 a)∧w'.cell? ⟨g,2,none⟩=some (.int .i64 0)∧w'.cell? ⟨g,3,none⟩=some (.int .i64 (u.2:Nat))∧w'.cell? ⟨g,4,none⟩=some (.slice Q b.2.length U)∧w'.cell? ⟨g,5,none⟩=some (.slice none 0 0)∧w'.cell? ⟨g,6,none⟩=some (.bool false))) (by kernel_rfl) (by go_keep) (λaM=>?_);refine AS (i:=0) (v:=?_) rfl (Or.inl ⟨by rfl,?_⟩) (by assumption) ?_;rotate_left
  ·intro w t;go_simp<;>rfl
  try simp only[Act.put,Qa,Qc,Qd]
  refine AS (i:=1) (v:=?_) rfl (Or.inl ⟨by rfl,?_⟩) (by assumption) ?_;rotate_left
  ·intro w t;go_simp<;>rfl
  try simp only[Act.put,Qa,Qc,Qd]
  refine AS (i:=2) (v:=?_) rfl (Or.inl ⟨by rfl,?_⟩) (by assumption) ?_;rotate_left
  ·intro w t;go_simp<;>rfl
  try simp only[Act.put,Qa,Qc,Qd]
  refine AS (i:=3) (v:=?_) rfl (Or.inl ⟨by rfl,?_⟩) (by assumption) ?_;rotate_left
  ·intro w t;go_simp<;>rfl
  try simp only[Act.put,Qa,Qc,Qd]
  refine AS (i:=4) (v:=?_) rfl (Or.inl ⟨by rfl,?_⟩) (by assumption) ?_;rotate_left
  ·intro w t;go_simp<;>rfl
  try simp only[Act.put,Qa,Qc,Qd]
  refine AS (i:=5) (v:=?_) rfl (Or.inl ⟨by rfl,?_⟩) (by assumption) ?_;rotate_left
  ·intro w t;go_simp<;>rfl
  try simp only[Act.put,Qa,Qc,Qd]
  refine AS (i:=6) (v:=?_) rfl (Or.inl ⟨by rfl,?_⟩) (by assumption) ?_;rotate_left
  ·intro w t;go_simp<;>rfl
  try simp only[Act.put,Qa,Qc,Qd]
  refine AS (i:=7) (v:=?_) rfl (Or.inl ⟨by rfl,?_⟩) (by assumption) ?_;rotate_left
  ·intro w t;go_simp<;>rfl
  try simp only[Act.put,Qa,Qc,Qd]
  refine AS (i:=8) (v:=?_) rfl (Or.inl ⟨by rfl,?_⟩) (by assumption) ?_;rotate_left
  ·intro w t;go_simp<;>rfl
  try simp only[Act.put,Qa,Qc,Qd]
  refine AS (i:=9) (v:=?_) rfl (Or.inl ⟨by rfl,?_⟩) (by assumption) ?_;rotate_left
  ·intro w t;go_simp<;>rfl
  try simp only[Act.put,Qa,Qc,Qd]
  refine AS (i:=11) (v:=?_) rfl (Or.inl ⟨by rfl,?_⟩) (by assumption) ?_;rotate_left
  ·intro w t;go_simp<;>rfl
  try simp only[Act.put,Qa,Qc,Qd]
  refine wpAnyH_ready (rs:=[10,12]) (by kernel_rfl) (by simp) (AllReadyH.cons (o:=_) rfl (λV m=>?_) (AllReadyH.cons (o:=_) rfl (λV m=>?_) AllReadyH.nil))
  ·go_simp;refine m.out _ _ (by go_keep) (λad=>?_);clear m V;try simp only[Act.put,Qa,Qc,Qd]
   refine wpAnyH_ready (rs:=[12]) (by kernel_rfl) (by simp) (AllReadyH.cons (o:=_) rfl (λV m=>?_) AllReadyH.nil);go_simp;refine m.out _ _ (by rw[<-K.o];exact⟨K5.o.2.2,K6.o J rfl⟩) (λae=>?_);clear m V;try simp only[Act.put,Qa,Qc,Qd]
   refine wpAnyH_ready (rs:=[13]) (by kernel_rfl) (by simp) (AllReadyH.cons (o:=_) rfl (λV m=>?_) AllReadyH.nil);rw[<-K.o];refine Zr rfl (.tmp 85) (.tmp 87) 68 rfl B 123 i0 _ 7 88 Tryz.underlying68 aB aG aH aI rfl (by decide) (P 1) z.sm.length ((List.zip z.sm Y).flatMap BK) (by simp[Act.eval]) K1.o ⟨O.heap.size,0,none⟩ (BK ((⟨64,a,0,u.2,b.2,[],false⟩:Sm),(.slice Q b.2.length U,.slice none 0 0))) (by simp[Act.eval]) rfl K2.o K3.o (by unfold maxLen;omega) (by omega) K4.o ?_;intro v' l E d af;obtain⟨pp,cc,rfl⟩:=Zc E;have a1:l.cell? ⟨sb,5,none⟩=some (P 1):=by rw[Qo (w:=J) (d.block sb (by rw[I.o];omega) ab.o)];exact K5.o.1
   have f1:l.frozen? ⟨sb,5,none⟩=false:=by rw[Qz (w:=J) (d.block sb (by rw[I.o];omega) ab.o)];exact K5.o.2.1
   have a3:l.cell? ⟨rb,3,none⟩=some (.pointer (some ⟨sb,0,none⟩)):=by rw[Qo (w:=J) (d.block rb (by rw[I.o];omega) al.o)];exact K5.o.2.2
   have X:=K6.o l (d.block g (by rw[I.o];omega) ak.o);refine m.out _ _ (⟨a3,X⟩) (λC=>?_);clear m V;try simp only[Act.put,Qa,Qc,Qd]
   refine AS (i:=14) (v:=?_) rfl (Or.inl ⟨by rfl,?_⟩) (by assumption) ?_;rotate_left
   ·intro w t;go_simp<;>rfl
   try simp only[Act.put,Qa,Qc,Qd]
   refine AS (i:=15) (v:=?_) rfl (Or.inl ⟨by rfl,?_⟩) (by assumption) ?_;rotate_left
   ·intro w t;go_simp<;>rfl
   try simp only[Act.put,Qa,Qc,Qd]
   refine wpAnyH_ready (rs:=[16]) (by kernel_rfl) (by simp) (AllReadyH.cons (o:=_) rfl (λV m=>?_) AllReadyH.nil);go_simp;refine m.out _ _ (K7.o _ _ a3 X) (λD=>?_);clear m V;try simp only[Act.put,Qa,Qc,Qd]
   refine wpAnyH_done (by kernel_rfl) ?_ _;have Z:=GP x.o.H ax.o ay.o q.o d E af;have a2:(l.setCell ⟨sb,5,none⟩ (.slice pp (z.sm.length+1) cc)).cell? ⟨sb,5,none⟩=some (.slice pp (z.sm.length+1) cc):=Qk _ _ _ a1;have a4:(l.setCell ⟨sb,5,none⟩ (.slice pp (z.sm.length+1) cc)).cell? ⟨rb,3,none⟩=some (.pointer (some ⟨sb,0,none⟩)):=Z.1.c3;rw[am.o]at Z;replace Z:=Z_ Z;clear E d af a1 a3 f1 X C D;generalize l.setCell ⟨sb,5,none⟩ (.slice pp (z.sm.length+1) cc)=an at *;clear l;revert a2 a4 Z;revert an pp cc;exact aJ.o
  ·go_simp;refine m.out _ _ (by rw[<-K.o];exact⟨K5.o.2.2,K6.o J rfl⟩) (λae=>?_);clear m V;try simp only[Act.put,Qa,Qc,Qd]
   refine wpAnyH_ready (rs:=[10]) (by kernel_rfl) (by simp) (AllReadyH.cons (o:=_) rfl (λV m=>?_) AllReadyH.nil);go_simp;refine m.out _ _ (by rw[<-K.o];exact⟨K5.o.2.2,K6.o J rfl⟩) (λad=>?_);clear m V;try simp only[Act.put,Qa,Qc,Qd]
   refine wpAnyH_ready (rs:=[13]) (by kernel_rfl) (by simp) (AllReadyH.cons (o:=_) rfl (λV m=>?_) AllReadyH.nil);rw[<-K.o];refine Zr rfl (.tmp 85) (.tmp 87) 68 rfl B 123 i0 _ 7 88 Tryz.underlying68 aB aG aH aI rfl (by decide) (P 1) z.sm.length ((List.zip z.sm Y).flatMap BK) (by simp[Act.eval]) K1.o ⟨O.heap.size,0,none⟩ (BK ((⟨64,a,0,u.2,b.2,[],false⟩:Sm),(.slice Q b.2.length U,.slice none 0 0))) (by simp[Act.eval]) rfl K2.o K3.o (by unfold maxLen;omega) (by omega) K4.o ?_;intro v' l E d af;obtain⟨pp,cc,rfl⟩:=Zc E;have a1:l.cell? ⟨sb,5,none⟩=some (P 1):=by rw[Qo (w:=J) (d.block sb (by rw[I.o];omega) ab.o)];exact K5.o.1
   have f1:l.frozen? ⟨sb,5,none⟩=false:=by rw[Qz (w:=J) (d.block sb (by rw[I.o];omega) ab.o)];exact K5.o.2.1
   have a3:l.cell? ⟨rb,3,none⟩=some (.pointer (some ⟨sb,0,none⟩)):=by rw[Qo (w:=J) (d.block rb (by rw[I.o];omega) al.o)];exact K5.o.2.2
   have X:=K6.o l (d.block g (by rw[I.o];omega) ak.o);refine m.out _ _ (⟨a3,X⟩) (λC=>?_);clear m V;try simp only[Act.put,Qa,Qc,Qd]
   refine AS (i:=14) (v:=?_) rfl (Or.inl ⟨by rfl,?_⟩) (by assumption) ?_;rotate_left
   ·intro w t;go_simp<;>rfl
   try simp only[Act.put,Qa,Qc,Qd]
   refine AS (i:=15) (v:=?_) rfl (Or.inl ⟨by rfl,?_⟩) (by assumption) ?_;rotate_left
   ·intro w t;go_simp<;>rfl
   try simp only[Act.put,Qa,Qc,Qd]
   refine wpAnyH_ready (rs:=[16]) (by kernel_rfl) (by simp) (AllReadyH.cons (o:=_) rfl (λV m=>?_) AllReadyH.nil);go_simp;refine m.out _ _ (K7.o _ _ a3 X) (λD=>?_);clear m V;try simp only[Act.put,Qa,Qc,Qd]
   refine wpAnyH_done (by kernel_rfl) ?_ _;have Z:=GP x.o.H ax.o ay.o q.o d E af;have a2:(l.setCell ⟨sb,5,none⟩ (.slice pp (z.sm.length+1) cc)).cell? ⟨sb,5,none⟩=some (.slice pp (z.sm.length+1) cc):=Qk _ _ _ a1;have a4:(l.setCell ⟨sb,5,none⟩ (.slice pp (z.sm.length+1) cc)).cell? ⟨rb,3,none⟩=some (.pointer (some ⟨sb,0,none⟩)):=Z.1.c3;rw[am.o]at Z;replace Z:=Z_ Z;clear E d af a1 a3 f1 X C D;generalize l.setCell ⟨sb,5,none⟩ (.slice pp (z.sm.length+1) cc)=an at *;clear l;revert a2 a4 Z;revert an pp cc;exact aJ.o
 intro an pp cc a2 a4 Z;clear K1 K2 K3 K4 K5 K6 K7 d0 d1 d2 d3 d4 d5 d6 c c3;generalize hn:z.sm.length=n at *;replace hn:=Z_ hn;go_wp2;go_ret;exact⟨by rw[aw.o];simp,_,_,Z.o.1,x.o.T.trans Z.o.2,Lz x.o.N aK.o aL.o⟩
end Go.Proofs.YtcnbifdlkalimabGreat
