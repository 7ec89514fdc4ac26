/- Lemmas; their conditions stand in each. -/
import Derived.Test.YtcnbifdlkalimabGreatRdrC
namespace Go.Proofs.YtcnbifdlkalimabGreat
open Go.RowKit Go.Proofs.Tryz
set_option linter.all false
set_option maxRecDepth 100000
set_option maxHeartbeats 6400000
theorem Zq5(rb sb B:Nat)(s tb:ZB)(tp:Value)(hs:s.size<=300)(k:Nat)(ih:Kp (Ho rb sb B s tb tp k))(p:Rs)(S:Nat->Value)(sv:List (Value×Value))(w:World)(H:YB w rb sb B s p tb tp S sv)(G:Gp s p)(hk:Ah s p.r<k+1)(hp:Au s p<=6000)(h1:Ae s p.r=62) :
  Calls prog 141 #[.pointer (some ⟨rb,0,none⟩)] w (Js rb sb B s tb tp S sv w (Al s (k+1) p)):=by
 have ht:=Z8 (s:=s) (r:=p.r) (by omega);have hS:=IR rb s p.r w H.rd (G.ok hs);have ea:(⟨PT s p.r.a,p.r.er⟩:Rd)=Aa s p.r:=by rw[Fp ht.1,ht.1]
 rw[ea]at hS;obtain⟨y,hy⟩:∃y,Al s (k+1) p=y:=⟨_,rfl⟩
 rw[hy];simp only[Al]at hy;rw[if_pos h1]at hy;have hA:=λ(w1:World) (T:Zi w w1 rb (Aa s p.r))=>H.rdto T;obtain⟨tv,ap⟩:∃tv,Ae s p.r=tv:=⟨_,rfl⟩
 have aq:bv s (Aa s p.r).a=tv:=by rw[<-ap];exact(if_pos ⟨by rw[Zl];exact ht.1,ht.2⟩).symm
 have aN:=Zu s p.r;have Ga:Gp s {p with r:=Aa s p.r}:=G.r (Ze G.le);have Oa:Ci s (Aa s p.r):=⟨hs,Ze G.le⟩
 obtain⟨a,ha⟩:∃a,(Aa s p.r).a=a:=⟨_,rfl⟩
 have aA:a<s.size:=by rw[<-ha];exact ht.2
 have aL:(a:Int)<(s.size:Int):=by omega
 have hv:=ZJ s a aA;rw[ha]at aq hy;rw[aq]at hv;have ai:tk s (Aa s p.r) 62=nx (Aa s p.r):=by have:=Ew (s:=s) (r:=p.r) (by omega);rw[h1]at this;exact this
 have aM:=Zt (s:=s) (r:=p.r) (by omega);obtain⟨n,hn⟩:∃n:Nat,p.n=n:=⟨p.n.toNat,by have:=G.n1;omega⟩
 have aB:1<=n:=by have:=G.n1;omega
 have aC:n<=6:=by have:=G.n6;omega
 obtain⟨d,hd⟩:∃d,AW s (nx (Aa s p.r)) 0 (p.n-1)=d:=⟨_,rfl⟩
 obtain⟨rr,ab⟩:∃rr,An s (nx (Aa s p.r)) 0 (p.n-1)=rr:=⟨_,rfl⟩
 have aD:rr.a<=s.size:=by rw[<-ab];exact DX (by omega) (Dk (by omega))
 have aO:Bm s rr<=Bm s (nx (Aa s p.r)):=by rw[<-ab];exact Z7 _ _ _ _
 have Gr:Gp s {p with r:=rr}:=G.r aD;have pr:Au s {p with r:=rr}<=5992:=by rw[Z0 s p rr];unfold Au at hp;omega
 obtain⟨u,hu⟩:∃u,CJ s {p with r:=rr}=u:=⟨_,rfl⟩
 have Gu:Gp s u.1:=by rw[<-hu];exact Fv Gr
 have pu:Au s u.1<=5993:=by rw[<-hu];exact Qg (HA s _) (by omega)
 obtain⟨z,hz⟩:∃z:Rs,{u.1 with r:=tk s u.1.r 59}=z:=⟨_,rfl⟩
 have M:z.sm.length<=10000:=by rw[<-hz];have:=KZ pu;show u.1.sm.length<=10000;omega
 have al:(Dl z z.r ⟨62,a,d,u.2,[],[],false⟩).1=y.1:=by rw[<-hy,<-hz];unfold Hj;dsimp only;rw[ai,hd,ab,hu];rfl
 have ar:y.2=z.sm.length:=by rw[<-hy,<-hz];unfold Hj;dsimp only;rw[ai,ab,hu];rfl
 have hK:Kp (∀w1,Cr w1 rb s (Aa s p.r)->Calls prog 137 #[.pointer (some ⟨rb,0,none⟩),.string ⟨#[62]⟩] w1 λe Z=>e=.returned (.int .i64 0)∧Zi w1 Z rb (nx (Aa s p.r))):=⟨λw1 A=>by
  have h:=ZP rb s ⟨#[62]⟩ 62 (Aa s p.r) w1 A Oa (by decide) (by omega);rw[ai]at h;exact h⟩
 have hL:Kp (∀w1 S1 L,YB w1 rb sb B s {p with r:=nx (Aa s p.r)} tb tp S1 L->Calls prog 139 #[.pointer (some ⟨rb,0,none⟩)] w1 λe Z=>e=.returned (.int .i64 d)∧Zi w1 Z rb rr):=⟨λw1 S1 L A=>by
  rw[<-hd,<-ab,hn];have cN:w1.cell? ⟨sb,0,none⟩=some (.int .i64 n):=by rw[<-hn];exact A.cn
  exact NP rb sb s (nx (Aa s p.r)) n w1 A.rd ⟨hs,Dk (by omega)⟩ A.c3 cN aB aC⟩
 have hX:Kp (∀w1 S1 L,YB w1 rb sb B s {p with r:=rr} tb tp S1 L->Calls prog 193 #[.pointer (some ⟨rb,0,none⟩)] w1 (Ef rb sb B s tb tp S1 L w1 u)):=⟨λw1 S1 L A=>by
  rw[<-hu];exact JH rb sb B s tb tp hs (s.size+1) {p with r:=rr} S1 L w1 A Gr (by have:=Z5 s rr;show Ah s rr<_;omega) (by omega)⟩
 have hC:Kp (∀w1 S1 L,YB w1 rb sb B s u.1 tb tp S1 L->Calls prog 137 #[.pointer (some ⟨rb,0,none⟩),.string ⟨#[59]⟩] w1 λe Z=>e=.returned (.int .i64 0)∧Zi w1 Z rb (tk s u.1.r 59)):=⟨λw1 S1 L A=>ZP rb s ⟨#[59]⟩ 59 u.1.r w1 A.rd (Gu.ok hs) (by decide) (by omega)⟩
 rw[h1]at ap;subst ap;replace al:=Z_ al;replace ar:=Z_ ar;replace hz:=Z_ hz;replace M:=Z_ M;obtain⟨i0,az,aE,aF,aG⟩:=AX Ly;replace hS:=Z_ hS;replace hA:=Z_ hA;replace hy:=Z_ hy;replace ha:=Z_ ha;clear H G hk hp ea aq ht aN Ga Oa ai aM aB aC hn hd ab aD aO Gr pr hu Gu pu;go_in;go_wp2_with fail;refine hS.o.mono ?_;rintro e w1 ⟨rfl,R1⟩;have A1:=hA.o w1 R1;have c0:=A1.rd.c0;have c1:w1.cell? ⟨rb,1,none⟩=some (.int .i64 a):=by rw[<-ha.o];exact A1.rd.c1
 have ah:=A1.rd.lt;have E0:=DU.new (w1:=w1) A1 (ZW.rd (S:=S) R1) (.int .u8 62) (.int .i64 a) (.int .i64 0) (.int .i64 0) (.slice none 0 0) (.slice none 0 0) (.bool false) 123;replace E0:=Z_ E0;clear hS hA A1 R1;go_wp2_with fail;go_region;go_wp2_with fail;refine(hK.o _ E0.o.H.rd).mono ?_;rintro e w2 ⟨rfl,R⟩;have E2:=E0.o.rd R;replace E2:=Z_ E2;clear R;obtain⟨g,hg⟩:∃g,w1.heap.size=g:=⟨_,rfl⟩
 rw[hg]at E2;simp only[hg];clear hg E0 c0 c1 ah;go_wp2_with fail;refine(hL.o _ _ _ E2.o.H).mono ?_;rintro e l ⟨rfl,R⟩;have E3:=E2.o.rd R;replace E3:=Z_ E3;clear R;have e2:=E3.o.W.c 2 _ rfl;have f2:=E3.o.W.f 2 _ rfl;have ag:=E3.o.W.lt;have E4:=E3.o.set 2 (.int .i64 d) (by simp);replace E4:=Z_ E4;clear E2 E3;go_wp2_with fail;refine(hX.o _ _ _ E4.o.H).mono ?_;rintro e w5 ⟨rfl,S5,A5,T5⟩;have E5:=E4.o.ps A5 T5 (DM.refl _ _);clear A5 T5 e2 f2 ag;have e3:=E5.W.c 3 _ rfl;have f3:=E5.W.f 3 _ rfl;have ag:=E5.W.lt;have E6:=E5.set 3 (.int .i64 (u.2:Nat)) (by simp);replace E6:=Z_ E6;clear E4 E5;go_wp2_with fail;refine(hC.o _ _ _ E6.o.H).mono ?_;rintro e P ⟨rfl,R⟩;have q:=E6.o.rd R;rw[hz.o]at q;replace q:=Z_ q;clear R E6 e3 f3 ag;obtain⟨O,ay⟩:∃O,O=S5:=⟨_,rfl⟩
 obtain⟨V,ao⟩:∃V,V=sv:=⟨_,rfl⟩
 rw[<-ay]at q;have q:Kp (DU P rb sb B s z tb tp O V g [.int .u8 62,.int .i64 a,.int .i64 d,.int .i64 (u.2:Nat),.slice none 0 0,.slice none 0 0,.bool false] w S sv):=⟨by rw[ao];exact q.o⟩
 clear ao ay;have aw:BD P B O (.slice none 0 0) []:=BD.nil _ _ _;have ax:BD P B O (.slice none 0 0) []:=BD.nil _ _ _;have aI:Kp (∀k,(Value.slice none 0 0).ownBlock=some k->w.heap.size<=k):=⟨λk hk=>by cases hk⟩
 have aJ:Kp (∀k,(Value.slice none 0 0).ownBlock=some k->w.heap.size<=k):=⟨λk hk=>by cases hk⟩
 have M:=M.o;have au:Kp (BD P B O (.slice none 0 0) (⟨62,a,d,u.2,[],[],false⟩:Sm).bo):=⟨aw⟩
 have av:Kp (BD P B O (.slice none 0 0) (⟨62,a,d,u.2,[],[],false⟩:Sm).el):=⟨ax⟩
 have c:P.cell? ⟨sb,5,none⟩=some (O 1):=q.o.H.c 1 (by omega);have c3:=q.o.H.c3;have an:=q.o.H.lt;have ah:=q.o.H.rd.lt;have Y:P.ownsRow B 123 7 (O 1) z.sm.length ((List.zip z.sm V).flatMap BK):=q.o.H.o 1 (by omega);have aa:some sb≠(O 1).ownBlock:=λe=>by have:=(Y.lt _ e.symm).1;have:=q.o.H.b1;omega
 have ak:some rb≠(O 1).ownBlock:=λe=>by have:=(Y.lt _ e.symm).1;have:=q.o.H.b0;omega
 have ag:=q.o.W.lt;have d0:=q.o.W.c 0 _ rfl;have d1:=q.o.W.c 1 _ rfl;have d2:=q.o.W.c 2 _ rfl;have d3:=q.o.W.c 3 _ rfl;have d4:=q.o.W.c 4 _ rfl;have d5:=q.o.W.c 5 _ rfl;have d6:=q.o.W.c 6 _ rfl;obtain⟨J,K⟩:∃J,J=(P.alloc (.cells #[.int .u8 62,.int .i64 a,.int .i64 d,.int .i64 (u.2:Nat),.slice none 0 0,.slice none 0 0,.bool false] 123)).drew:=⟨_,rfl⟩
 have O2:AF J P.heap.size (BK ((⟨62,a,d,u.2,[],[],false⟩:Sm),(.slice none 0 0,.slice none 0 0))):=by have:=(Dd P (.int .u8 62) (.int .i64 a) (.int .i64 d) (.int .i64 (u.2:Nat)) (.slice none 0 0) (.slice none 0 0) (.bool false) 123).step ((Qh _ _).drew);rw[<-K]at this;exact this
 have t:Below P.heap.size P J:=by rw[K];exact((Qh _ _).alloc (Qb _) _).drew
 have aj:some g≠(O 1).ownBlock:=λe=>q.o.F.o 1 (by omega) e.symm;have aP:g≠sb:=q.o.F.s
 have K6:Kp (∀l:World,l.heap[g]?=J.heap[g]?->l.cell? ⟨g,0,none⟩=some (.int .u8 62)∧l.cell? ⟨g,1,none⟩=some (.int .i64 a)∧l.cell? ⟨g,2,none⟩=some (.int .i64 d)∧l.cell? ⟨g,3,none⟩=some (.int .i64 (u.2:Nat))∧l.cell? ⟨g,4,none⟩=some (.slice none 0 0)∧l.cell? ⟨g,5,none⟩=some (.slice none 0 0)∧l.cell? ⟨g,6,none⟩=some (.bool false)):=⟨λl hb=>by
  have hc:∀i,l.cell? ⟨g,i,none⟩=P.cell? ⟨g,i,none⟩:=λi=>by rw[Qo (w:=J) (a:=⟨g,i,none⟩) hb];exact t.cell (p:=⟨g,i,none⟩) ag
  exact⟨by rw[hc];exact d0,by rw[hc];exact d1,by rw[hc];exact d2,by rw[hc];exact d3,by rw[hc];exact d4,by rw[hc];exact d5,by rw[hc];exact d6⟩⟩
 have K7:Kp (∀(l:World) (v:Value),l.cell? ⟨rb,3,none⟩=some (.pointer (some ⟨sb,0,none⟩))->(l.cell? ⟨g,0,none⟩=some (.int .u8 62)∧l.cell? ⟨g,1,none⟩=some (.int .i64 a)∧l.cell? ⟨g,2,none⟩=some (.int .i64 d)∧l.cell? ⟨g,3,none⟩=some (.int .i64 (u.2:Nat))∧l.cell? ⟨g,4,none⟩=some (.slice none 0 0)∧l.cell? ⟨g,5,none⟩=some (.slice none 0 0)∧l.cell? ⟨g,6,none⟩=some (.bool false))->(l.setCell ⟨sb,5,none⟩ v).cell? ⟨rb,3,none⟩=some (.pointer (some ⟨sb,0,none⟩))∧(l.setCell ⟨sb,5,none⟩ v).cell? ⟨g,0,none⟩=some (.int .u8 62)∧(l.setCell ⟨sb,5,none⟩ v).cell? ⟨g,1,none⟩=some (.int .i64 a)∧(l.setCell ⟨sb,5,none⟩ v).cell? ⟨g,2,none⟩=some (.int .i64 d)∧(l.setCell ⟨sb,5,none⟩ v).cell? ⟨g,3,none⟩=some (.int .i64 (u.2:Nat))∧(l.setCell ⟨sb,5,none⟩ v).cell? ⟨g,4,none⟩=some (.slice none 0 0)∧(l.setCell ⟨sb,5,none⟩ v).cell? ⟨g,5,none⟩=some (.slice none 0 0)∧(l.setCell ⟨sb,5,none⟩ v).cell? ⟨g,6,none⟩=some (.bool false)):=⟨λl v h1 h2=>by
  have hc:∀i,(l.setCell ⟨sb,5,none⟩ v).cell? ⟨g,i,none⟩=l.cell? ⟨g,i,none⟩:=λi=>World.cell?_setCell_far _ _ _ _ (by show sb≠g;omega);refine⟨by rw[QN _ _ _ _ (by simp)];exact h1,?_⟩;simp only[hc];exact h2⟩
 have I:J.heap.size=P.heap.size+1:=by rw[K];simp
 have K1:Kp (J.ownsRow B 123 7 (O 1) z.sm.length ((List.zip z.sm V).flatMap BK)):=⟨Zo Y t⟩
 have K2:Kp (∀j uq,(BK ((⟨62,a,d,u.2,[],[],false⟩:Sm),(.slice none 0 0,.slice none 0 0)))[j]?=some uq->J.cell? ((⟨P.heap.size,0,none⟩:Addr).add j)=some uq):=⟨λj uq hj=>by
  have:=O2.c j uq hj;rcases Q0 j with h0|h0
  ·subst h0;simpa [Addr.add] using this
  ·have h1:¬j=0:=by omega
   simpa [Addr.add,h1] using this⟩
 have K3:Kp (∀uq,uq∈BK ((⟨62,a,d,u.2,[],[],false⟩:Sm),(.slice none 0 0,.slice none 0 0))->uq.oneCell'=true):=⟨λuq hu=>by
  unfold BK at hu;simp only[Uc,QV,or_false]at hu;rcases hu with rfl|rfl|rfl|rfl|rfl|rfl|rfl
  ·rfl
  ·rfl
  ·rfl
  ·rfl
  ·rfl
  ·rfl
  ·rfl⟩
 have K4:Kp (B<=J.heap.size):=⟨by rw[I];have:=q.o.H.hB;omega⟩
 have K5:Kp (J.cell? ⟨sb,5,none⟩=some (O 1)∧J.frozen? ⟨sb,5,none⟩=false∧J.cell? ⟨rb,3,none⟩=some (.pointer (some ⟨sb,0,none⟩))):=⟨by rw[t.cell (p:=⟨sb,5,none⟩) an];exact c,by rw[t.frozen (p:=⟨sb,5,none⟩) an];exact q.o.H.f 5 (by omega),by rw[t.cell (p:=⟨rb,3,none⟩) ah];exact c3⟩
 have aQ:z.sm.length<=10000:=M;replace aa:=Z_ aa;replace aj:=Z_ aj;replace ak:=Z_ ak;replace t:=Z_ t;replace I:=Z_ I;replace K:=Z_ K;clear Y O2 M aw ax;clear ih hv aL aA hK hL hX hC;go_wp2_with fail;apply LP
 ·intro aH;refine wp_region_held_drew (S:=(λZ=>Z.cell? ⟨rb,3,none⟩=some (.pointer (some ⟨sb,0,none⟩))∧Z.cell? ⟨g,0,none⟩=some (.int .u8 62)∧Z.cell? ⟨g,1,none⟩=some (.int .i64 a)∧Z.cell? ⟨g,2,none⟩=some (.int .i64 d)∧Z.cell? ⟨g,3,none⟩=some (.int .i64 (u.2:Nat))∧Z.cell? ⟨g,4,none⟩=some (.slice none 0 0)∧Z.cell? ⟨g,5,none⟩=some (.slice none 0 0)∧Z.cell? ⟨g,6,none⟩=some (.bool false))) (by kernel_rfl) (by go_keep) (λaK=>?_);refine AS (i:=0) (v:=?_) rfl (Or.inl ⟨by rfl,?_⟩) (by assumption) ?_;rotate_left
  ·intro w x;go_simp<;>rfl
  try simp only[Act.put,Qa,Qc,Qd]
  refine AS (i:=1) (v:=?_) rfl (Or.inl ⟨by rfl,?_⟩) (by assumption) ?_;rotate_left
  ·intro w x;go_simp<;>rfl
  try simp only[Act.put,Qa,Qc,Qd]
  refine AS (i:=2) (v:=?_) rfl (Or.inl ⟨by rfl,?_⟩) (by assumption) ?_;rotate_left
  ·intro w x;go_simp<;>rfl
  try simp only[Act.put,Qa,Qc,Qd]
  refine AS (i:=3) (v:=?_) rfl (Or.inl ⟨by rfl,?_⟩) (by assumption) ?_;rotate_left
  ·intro w x;go_simp<;>rfl
  try simp only[Act.put,Qa,Qc,Qd]
  refine AS (i:=4) (v:=?_) rfl (Or.inl ⟨by rfl,?_⟩) (by assumption) ?_;rotate_left
  ·intro w x;go_simp<;>rfl
  try simp only[Act.put,Qa,Qc,Qd]
  refine AS (i:=5) (v:=?_) rfl (Or.inl ⟨by rfl,?_⟩) (by assumption) ?_;rotate_left
  ·intro w x;go_simp<;>rfl
  try simp only[Act.put,Qa,Qc,Qd]
  refine AS (i:=6) (v:=?_) rfl (Or.inl ⟨by rfl,?_⟩) (by assumption) ?_;rotate_left
  ·intro w x;go_simp<;>rfl
  try simp only[Act.put,Qa,Qc,Qd]
  refine AS (i:=7) (v:=?_) rfl (Or.inl ⟨by rfl,?_⟩) (by assumption) ?_;rotate_left
  ·intro w x;go_simp<;>rfl
  try simp only[Act.put,Qa,Qc,Qd]
  refine AS (i:=8) (v:=?_) rfl (Or.inl ⟨by rfl,?_⟩) (by assumption) ?_;rotate_left
  ·intro w x;go_simp<;>rfl
  try simp only[Act.put,Qa,Qc,Qd]
  refine AS (i:=9) (v:=?_) rfl (Or.inl ⟨by rfl,?_⟩) (by assumption) ?_;rotate_left
  ·intro w x;go_simp<;>rfl
  try simp only[Act.put,Qa,Qc,Qd]
  refine AS (i:=11) (v:=?_) rfl (Or.inl ⟨by rfl,?_⟩) (by assumption) ?_;rotate_left
  ·intro w x;go_simp<;>rfl
  try simp only[Act.put,Qa,Qc,Qd]
  refine wpAnyH_ready (rs:=[10,12]) (by kernel_rfl) (by simp) (AllReadyH.cons (o:=_) rfl (λQ m=>?_) (AllReadyH.cons (o:=_) rfl (λQ m=>?_) AllReadyH.nil))
  ·go_simp;refine m.out _ _ (by go_keep) (λad=>?_);clear m Q;try simp only[Act.put,Qa,Qc,Qd]
   refine wpAnyH_ready (rs:=[12]) (by kernel_rfl) (by simp) (AllReadyH.cons (o:=_) rfl (λQ m=>?_) AllReadyH.nil);go_simp;refine m.out _ _ (by rw[<-K.o];exact⟨K5.o.2.2,K6.o J rfl⟩) (λae=>?_);clear m Q;try simp only[Act.put,Qa,Qc,Qd]
   refine wpAnyH_ready (rs:=[13]) (by kernel_rfl) (by simp) (AllReadyH.cons (o:=_) rfl (λQ m=>?_) AllReadyH.nil);rw[<-K.o];refine Zr rfl (.tmp 85) (.tmp 87) 68 rfl B 123 i0 _ 7 88 Tryz.underlying68 az aE aF aG rfl (by decide) (O 1) z.sm.length ((List.zip z.sm V).flatMap BK) (by simp[Act.eval]) K1.o ⟨P.heap.size,0,none⟩ (BK ((⟨62,a,d,u.2,[],[],false⟩:Sm),(.slice none 0 0,.slice none 0 0))) (by simp[Act.eval]) rfl K2.o K3.o (by unfold maxLen;omega) (by omega) K4.o ?_;intro v' l E b af;obtain⟨pp,cc,rfl⟩:=Zc E;have a1:l.cell? ⟨sb,5,none⟩=some (O 1):=by rw[Qo (w:=J) (b.block sb (by rw[I.o];omega) aa.o)];exact K5.o.1
   have f1:l.frozen? ⟨sb,5,none⟩=false:=by rw[Qz (w:=J) (b.block sb (by rw[I.o];omega) aa.o)];exact K5.o.2.1
   have a3:l.cell? ⟨rb,3,none⟩=some (.pointer (some ⟨sb,0,none⟩)):=by rw[Qo (w:=J) (b.block rb (by rw[I.o];omega) ak.o)];exact K5.o.2.2
   have U:=K6.o l (b.block g (by rw[I.o];omega) aj.o);refine m.out _ _ (⟨a3,U⟩) (λC=>?_);clear m Q;try simp only[Act.put,Qa,Qc,Qd]
   refine AS (i:=14) (v:=?_) rfl (Or.inl ⟨by rfl,?_⟩) (by assumption) ?_;rotate_left
   ·intro w x;go_simp<;>rfl
   try simp only[Act.put,Qa,Qc,Qd]
   refine AS (i:=15) (v:=?_) rfl (Or.inl ⟨by rfl,?_⟩) (by assumption) ?_;rotate_left
   ·intro w x;go_simp<;>rfl
   try simp only[Act.put,Qa,Qc,Qd]
   refine wpAnyH_ready (rs:=[16]) (by kernel_rfl) (by simp) (AllReadyH.cons (o:=_) rfl (λQ m=>?_) AllReadyH.nil);go_simp;refine m.out _ _ (K7.o _ _ a3 U) (λD=>?_);clear m Q;try simp only[Act.put,Qa,Qc,Qd]
   refine wpAnyH_done (by kernel_rfl) ?_ _;have X:=GP q.o.H au.o av.o t.o b E af;have a2:(l.setCell ⟨sb,5,none⟩ (.slice pp (z.sm.length+1) cc)).cell? ⟨sb,5,none⟩=some (.slice pp (z.sm.length+1) cc):=Qk _ _ _ a1;have a4:(l.setCell ⟨sb,5,none⟩ (.slice pp (z.sm.length+1) cc)).cell? ⟨rb,3,none⟩=some (.pointer (some ⟨sb,0,none⟩)):=X.1.c3;rw[al.o]at X;replace X:=Z_ X;clear E b af a1 a3 f1 U C D;generalize l.setCell ⟨sb,5,none⟩ (.slice pp (z.sm.length+1) cc)=am at *;clear l;revert a2 a4 X;revert am pp cc;exact aH.o
  ·go_simp;refine m.out _ _ (by rw[<-K.o];exact⟨K5.o.2.2,K6.o J rfl⟩) (λae=>?_);clear m Q;try simp only[Act.put,Qa,Qc,Qd]
   refine wpAnyH_ready (rs:=[10]) (by kernel_rfl) (by simp) (AllReadyH.cons (o:=_) rfl (λQ m=>?_) AllReadyH.nil);go_simp;refine m.out _ _ (by rw[<-K.o];exact⟨K5.o.2.2,K6.o J rfl⟩) (λad=>?_);clear m Q;try simp only[Act.put,Qa,Qc,Qd]
   refine wpAnyH_ready (rs:=[13]) (by kernel_rfl) (by simp) (AllReadyH.cons (o:=_) rfl (λQ m=>?_) AllReadyH.nil);rw[<-K.o];refine Zr rfl (.tmp 85) (.tmp 87) 68 rfl B 123 i0 _ 7 88 Tryz.underlying68 az aE aF aG rfl (by decide) (O 1) z.sm.length ((List.zip z.sm V).flatMap BK) (by simp[Act.eval]) K1.o ⟨P.heap.size,0,none⟩ (BK ((⟨62,a,d,u.2,[],[],false⟩:Sm),(.slice none 0 0,.slice none 0 0))) (by simp[Act.eval]) rfl K2.o K3.o (by unfold maxLen;omega) (by omega) K4.o ?_;intro v' l E b af;obtain⟨pp,cc,rfl⟩:=Zc E;have a1:l.cell? ⟨sb,5,none⟩=some (O 1):=by rw[Qo (w:=J) (b.block sb (by rw[I.o];omega) aa.o)];exact K5.o.1
   have f1:l.frozen? ⟨sb,5,none⟩=false:=by rw[Qz (w:=J) (b.block sb (by rw[I.o];omega) aa.o)];exact K5.o.2.1
   have a3:l.cell? ⟨rb,3,none⟩=some (.pointer (some ⟨sb,0,none⟩)):=by rw[Qo (w:=J) (b.block rb (by rw[I.o];omega) ak.o)];exact K5.o.2.2
   have U:=K6.o l (b.block g (by rw[I.o];omega) aj.o);refine m.out _ _ (⟨a3,U⟩) (λC=>?_);clear m Q;try simp only[Act.put,Qa,Qc,Qd]
   refine AS (i:=14) (v:=?_) rfl (Or.inl ⟨by rfl,?_⟩) (by assumption) ?_;rotate_left
   ·intro w x;go_simp<;>rfl
   try simp only[Act.put,Qa,Qc,Qd]
   refine AS (i:=15) (v:=?_) rfl (Or.inl ⟨by rfl,?_⟩) (by assumption) ?_;rotate_left
   ·intro w x;go_simp<;>rfl
   try simp only[Act.put,Qa,Qc,Qd]
   refine wpAnyH_ready (rs:=[16]) (by kernel_rfl) (by simp) (AllReadyH.cons (o:=_) rfl (λQ m=>?_) AllReadyH.nil);go_simp;refine m.out _ _ (K7.o _ _ a3 U) (λD=>?_);clear m Q;try simp only[Act.put,Qa,Qc,Qd]
   refine wpAnyH_done (by kernel_rfl) ?_ _;have X:=GP q.o.H au.o av.o t.o b E af;have a2:(l.setCell ⟨sb,5,none⟩ (.slice pp (z.sm.length+1) cc)).cell? ⟨sb,5,none⟩=some (.slice pp (z.sm.length+1) cc):=Qk _ _ _ a1;have a4:(l.setCell ⟨sb,5,none⟩ (.slice pp (z.sm.length+1) cc)).cell? ⟨rb,3,none⟩=some (.pointer (some ⟨sb,0,none⟩)):=X.1.c3;rw[al.o]at X;replace X:=Z_ X;clear E b af a1 a3 f1 U C D;generalize l.setCell ⟨sb,5,none⟩ (.slice pp (z.sm.length+1) cc)=am at *;clear l;revert a2 a4 X;revert am pp cc;exact aH.o
 intro am pp cc a2 a4 X;clear K1 K2 K3 K4 K5 K6 K7 d0 d1 d2 d3 d4 d5 d6 c c3;generalize hn:z.sm.length=n at *;replace hn:=Z_ hn;go_wp2;go_ret;exact⟨by rw[ar.o];simp,_,_,X.o.1,q.o.T.trans X.o.2,Lz q.o.N aI.o aJ.o⟩
end Go.Proofs.YtcnbifdlkalimabGreat
