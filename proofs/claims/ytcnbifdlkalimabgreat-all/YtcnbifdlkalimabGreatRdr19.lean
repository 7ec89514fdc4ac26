/- Lemmas; their conditions stand in each. -/
import Derived.Test.YtcnbifdlkalimabGreatRdrC
namespace Go.Proofs.YtcnbifdlkalimabGreat
open Go.RowKit Go.Proofs.Tryz
set_option linter.all false
set_option maxRecDepth 100000
set_option maxHeartbeats 6400000
theorem Zqp(rb sb B:Nat)(s tb:ZB)(tp:Value)(hs:s.size<=300)(k:Nat)(ih:Kp (Ho rb sb B s tb tp k))(p:Rs)(S:Nat->Value)(sv:List (Value×Value))(w:World)(H:YB w rb sb B s p tb tp S sv)(G:Gp s p)(Q:Ah s p.r<k+1)(hp:Au s p<=6000)(h2:Ae s p.r=63)(ah:Ae s (AO s (Al s k) k (CJ s {p with r:=nx (Aa s p.r)}).1).1.r=58) :
  Calls prog 141 #[.pointer (some ⟨rb,0,none⟩)] w (Js rb sb B s tb tp S sv w (Al s (k+1) p)):=by
 have ht:=Z8 (s:=s) (r:=p.r) (by omega);have hS:=IR rb s p.r w H.rd (G.ok hs);have ea:(⟨PT s p.r.a,p.r.er⟩:Rd)=Aa s p.r:=by rw[Fp ht.1,ht.1]
 rw[ea]at hS;obtain⟨y,hy⟩:∃y,Al s (k+1) p=y:=⟨_,rfl⟩
 rw[hy];simp only[Al]at hy;rw[if_neg (by omega),if_pos h2]at hy;have hA:=λ(w1:World) (T:Zi w w1 rb (Aa s p.r))=>H.rdto T;obtain⟨tv,aK⟩:∃tv,Ae s p.r=tv:=⟨_,rfl⟩
 have aL:bv s (Aa s p.r).a=tv:=by rw[<-aK];exact(if_pos ⟨by rw[Zl];exact ht.1,ht.2⟩).symm
 have bi:=Zu s p.r;have Ga:Gp s {p with r:=Aa s p.r}:=G.r (Ze G.le);have Oa:Ci s (Aa s p.r):=⟨hs,Ze G.le⟩
 obtain⟨a,ha⟩:∃a,(Aa s p.r).a=a:=⟨_,rfl⟩
 have aX:a<s.size:=by rw[<-ha];exact ht.2
 have bh:(a:Int)<(s.size:Int):=by omega
 have hv:=ZJ s a aX;rw[ha]at aL hy;rw[aL]at hv;have aq:tk s (Aa s p.r) 63=nx (Aa s p.r):=by have:=Ew (s:=s) (r:=p.r) (by omega);rw[h2]at this;exact this
 have aZ:=Zt (s:=s) (r:=p.r) (by omega);have a6:=ZR (s:=s) (r:=p.r) (by omega);obtain⟨rr,aA⟩:∃rr,nx (Aa s p.r)=rr:=⟨_,rfl⟩
 rw[aA]at aq aZ a6;have a0:rr.a<=s.size:=by rw[<-aA];exact Dk (by omega)
 have Gr:Gp s {p with r:=rr}:=G.r a0;have pr:Au s {p with r:=rr}<=5992:=by rw[Z0 s p rr];unfold Au at hp;omega
 obtain⟨u,hu⟩:∃u,CJ s {p with r:=rr}=u:=⟨_,rfl⟩
 have Gu:Gp s u.1:=by rw[<-hu];exact Fv Gr
 have pu:Au s u.1<=5993:=by rw[<-hu];exact Qg (HA s _) (by omega)
 have ru:Ah s u.1.r<k:=by have h5:=Pg s {p with r:=rr};rw[hu]at h5;have h6:Ah s u.1.r<=Ah s rr:=h5;omega
 obtain⟨b,hb⟩:∃b,AO s (Al s k) k u.1=b:=⟨_,rfl⟩
 rw[aA,hu,hb]at ah;have Gb:Gp s b.1:=by rw[<-hb];exact Jg (Fs k) k Gu
 have pb:Au s b.1<=5993:=by rw[<-hb];exact Qg (IW s (Al s k) (Hy s k) k u.1) pu
 have hK:Kp (∀w1,Cr w1 rb s (Aa s p.r)->Calls prog 137 #[.pointer (some ⟨rb,0,none⟩),.string ⟨#[63]⟩] w1 λe w'=>e=.returned (.int .i64 0)∧Zi w1 w' rb rr):=⟨λw1 A=>by
  have h:=ZP rb s ⟨#[63]⟩ 63 (Aa s p.r) w1 A Oa (by decide) (by omega);rw[aq]at h;exact h⟩
 have hX:Kp (∀w1 Z q,YB w1 rb sb B s {p with r:=rr} tb tp Z q->Calls prog 193 #[.pointer (some ⟨rb,0,none⟩)] w1 (Ef rb sb B s tb tp Z q w1 u)):=⟨λw1 Z q A=>by
  rw[<-hu];exact JH rb sb B s tb tp hs (s.size+1) {p with r:=rr} Z q w1 A Gr (by have:=Z5 s rr;show Ah s rr<_;omega) (by omega)⟩
 have hB:Kp (∀w1 Z q,YB w1 rb sb B s u.1 tb tp Z q->Calls prog 194 #[.pointer (some ⟨rb,0,none⟩)] w1 (IA rb sb B s tb tp Z q w1 b)):=⟨λw1 Z q A=>by
  rw[<-hb];exact Mz rb sb B s tb tp hs k ih u.1 Z q w1 A Gu ru (by omega)⟩
 have hY:Kp (∀w1 Z q,YB w1 rb sb B s b.1 tb tp Z q->Calls prog 138 #[.pointer (some ⟨rb,0,none⟩),.string ⟨#[58]⟩] w1 λe w'=>e=.returned (.bool true)∧Zi w1 w' rb (Aa s b.1.r)):=⟨λw1 Z q A=>by
  have h:=IQ rb s ⟨#[58]⟩ 58 b.1.r w1 A.rd (Gb.ok hs) (by decide) (by omega);rw[QL.2 ah]at h;exact h⟩
 have aJ:tk s (Aa s b.1.r) 58=nx (Aa s b.1.r):=by have:=Ew (s:=s) (r:=b.1.r) (by omega);rw[ah]at this;exact this
 have aY:=Zt (s:=s) (r:=b.1.r) (by omega);have a5:=ZR (s:=s) (r:=b.1.r) (by omega);have bj:Ah s b.1.r<k:=by
  obtain⟨K,rfl⟩:∃K,k=K+1:=⟨k-1,by omega⟩
  have h5:=SO s K (K+1) u.1 ru;rw[hb]at h5;omega
 obtain⟨rn,ab⟩:∃rn,nx (Aa s b.1.r)=rn:=⟨_,rfl⟩
 rw[ab]at aJ aY a5;have Gn:Gp s {b.1 with r:=rn}:=Gb.r (by rw[<-ab];exact Dk (by omega));have pn:Au s {b.1 with r:=rn}<=5993:=by rw[Z0 s b.1 rn];unfold Au at pb;omega
 have bb:Ah s ({b.1 with r:=rn}:Rs).r<k:=by show Ah s rn<k;omega
 obtain⟨c,hc⟩:∃c,AO s (Al s k) k {b.1 with r:=rn}=c:=⟨_,rfl⟩
 have pc:Au s c.1<=5993:=by rw[<-hc];exact Qg (IW s (Al s k) (Hy s k) k _) pn
 have hT:Kp (∀w1,Cr w1 rb s (Aa s b.1.r)->Calls prog 137 #[.pointer (some ⟨rb,0,none⟩),.string ⟨#[58]⟩] w1 λe w'=>e=.returned (.int .i64 0)∧Zi w1 w' rb rn):=⟨λw1 A=>by
  have h:=ZP rb s ⟨#[58]⟩ 58 (Aa s b.1.r) w1 A ⟨hs,Ze Gb.le⟩ (by decide) (by omega);rw[aJ]at h;exact h⟩
 have hD:Kp (∀w1 Z q,YB w1 rb sb B s {b.1 with r:=rn} tb tp Z q->Calls prog 194 #[.pointer (some ⟨rb,0,none⟩)] w1 (IA rb sb B s tb tp Z q w1 c)):=⟨λw1 Z q A=>by
  rw[<-hc];exact Mz rb sb B s tb tp hs k ih {b.1 with r:=rn} Z q w1 A Gn bb (by omega)⟩
 obtain⟨z,hz⟩:∃z:Rs,c.1=z:=⟨_,rfl⟩
 have O:z.sm.length<=10000:=by rw[<-hz];have:=KZ pc;omega
 have aB:(Dl z z.r ⟨63,a,0,u.2,b.2,c.2,true⟩).1=y.1:=by rw[<-hy,<-hz];unfold F0;dsimp only;rw[aq,hu,hb,if_pos ah,ab,hc]
 have aM:y.2=z.sm.length:=by rw[<-hy,<-hz];unfold F0;dsimp only;rw[aq,hu,hb,if_pos ah,ab,hc];rfl
 rw[h2]at aK;subst aK;replace aB:=Z_ aB;replace aM:=Z_ aM;replace hz:=Z_ hz;replace O:=Z_ O;obtain⟨i0,aW,a7,a8,a9⟩:=AX Ly;replace hS:=Z_ hS;replace hA:=Z_ hA;replace hy:=Z_ hy;replace ha:=Z_ ha;clear H G Q hp ea aL ht bi Ga Oa aq aZ a6 aA a0 Gr pr hu Gu pu ru hb Gb pb ah aJ aY a5 bj ab Gn pn bb hc pc;go_in;go_wp2_with fail;refine hS.o.mono ?_;rintro e w1 ⟨rfl,R1⟩;have A1:=hA.o w1 R1;have c0:=A1.rd.c0;have c1:w1.cell? ⟨rb,1,none⟩=some (.int .i64 a):=by rw[<-ha.o];exact A1.rd.c1
 have ar:=A1.rd.lt;have E0:=DU.new (w1:=w1) A1 (ZW.rd (S:=S) R1) (.int .u8 63) (.int .i64 a) (.int .i64 0) (.int .i64 0) (.slice none 0 0) (.slice none 0 0) (.bool false) 123;replace E0:=Z_ E0;clear hS hA A1 R1;go_wp2_with fail;go_region;go_wp2_with fail;refine(hK.o _ E0.o.H.rd).mono ?_;rintro e w2 ⟨rfl,R⟩;have E2:=E0.o.rd R;replace E2:=Z_ E2;clear R;obtain⟨g,hg⟩:∃g,w1.heap.size=g:=⟨_,rfl⟩
 rw[hg]at E2;simp only[hg];clear hg E0 c0 c1 ar;go_wp2_with fail;refine(hX.o _ _ _ E2.o.H).mono ?_;rintro e w5 ⟨rfl,S5,A5,T5⟩;have E5:=E2.o.ps A5 T5 (DM.refl _ _);clear A5 T5;have e3:=E5.W.c 3 _ rfl;have f3:=E5.W.f 3 _ rfl;have aa:=E5.W.lt;have E6:=E5.set 3 (.int .i64 (u.2:Nat)) (by simp);replace E6:=Z_ E6;clear E2 E5;go_wp2_with fail;refine(hB.o _ _ _ E6.o.H).mono ?_;rintro e w7 ⟨v1,rfl,S7,bn,A7,T7,N7,I7,F7⟩;have F1:∀k,v1.ownBlock=some k->w.heap.size<=k∧g≠k:=λk Q=>⟨Qg E6.o.T.size (F7 k Q).1,by have:=(F7 k Q).1;have:=E6.o.W.lt;omega⟩
 obtain⟨p1,q1,rfl⟩:=Zc I7.1;have E7:=E6.o.ps A7 T7 N7;clear A7 T7 N7 F7 e3 f3 aa E6;have e4:=E7.W.c 4 _ rfl;have f4:=E7.W.f 4 _ rfl;have aa:=E7.W.lt;have E8:=E7.set 4 (.slice p1 b.2.length q1) (by simp);have I8:=I7.grow (Hq w7 g 4 (.slice p1 b.2.length q1)) (λk Q e=>(F1 k e).2 (Option.some.inj Q));replace E8:=Z_ E8;replace I8:=Z_ I8;replace F1:=Z_ F1;clear E7 I7;go_wp2_with fail;refine(hY.o _ _ _ E8.o.H).mono ?_;rintro e w8 ⟨rfl,R⟩;have ad:=E8.o.rd R;have aP:=I8.o.to (ZW.rd (sb:=sb) (S:=S7) R) ad.H.b0 ad.H.b1;clear R E8 I8 e4 f4 aa;have e6:=ad.W.c 6 _ rfl;have f6:=ad.W.f 6 _ rfl;have aa:=ad.W.lt;have aj:=ad.set 6 (.bool true) (by simp);have aw:=aP.grow (Hq w8 g 6 (.bool true)) (λk Q e=>(F1.o k e).2 (Option.some.inj Q));replace aj:=Z_ aj;replace aw:=Z_ aw;clear ad aP;go_wp2_with fail;refine(hT.o _ aj.o.H.rd).mono ?_;rintro e bp ⟨rfl,R⟩;have P:=aj.o.rd R;have ax:=aw.o.to (ZW.rd (sb:=sb) (S:=S7) R) P.H.b0 P.H.b1;replace P:=Z_ P;replace ax:=Z_ ax;clear R aj aw e6 f6 aa;go_wp2_with fail;refine(hD.o _ _ _ P.o.H).mono ?_;rintro e aN ⟨v2,rfl,bd,bc,av,aH,aR,aG,aF⟩;have F2:∀k,v2.ownBlock=some k->w.heap.size<=k∧g≠k:=λk Q=>⟨Qg P.o.T.size (aF k Q).1,by have:=(aF k Q).1;have:=P.o.W.lt;omega⟩
 obtain⟨U,V,rfl⟩:=Zc aG.1;have ak:=P.o.ps av aH aR;have aQ:=ax.o.to aH av.b0 av.b1;clear av aH aR aF P ax;have e5:=ak.W.c 5 _ rfl;have f5:=ak.W.f 5 _ rfl;have aa:=ak.W.lt;have aO:=ak.set 5 (.slice U c.2.length V) (by simp);have al:=aQ.grow (Hq aN g 5 (.slice U c.2.length V)) (λk Q e=>(F1.o k e).2 (Option.some.inj Q));have am:=aG.grow (Hq aN g 5 (.slice U c.2.length V)) (λk Q e=>(F2 k e).2 (Option.some.inj Q));replace F2:=Z_ F2;clear ak aQ aG;obtain⟨X,au⟩:∃X,aN.setCell ⟨g,5,none⟩ (.slice U c.2.length V)=X:=⟨_,rfl⟩
 have C:Kp _:=⟨aO⟩
 rw[hz.o,au]at C;rw[au]at al am;clear aO;obtain⟨Y,aI⟩:∃Y,Y=bd:=⟨_,rfl⟩
 obtain⟨af,aE⟩:∃af,af=bc:=⟨_,rfl⟩
 have C:Kp (DU X rb sb B s z tb tp Y af g [.int .u8 63,.int .i64 a,.int .i64 0,.int .i64 (u.2:Nat),.slice p1 b.2.length q1,.slice U c.2.length V,.bool true] w S sv):=⟨by rw[aE,aI];exact C.o⟩
 rw[<-aI]at al am;clear aE aI;have aU:BD X B Y (.slice p1 b.2.length q1) b.2:=al;have aV:BD X B Y (.slice U c.2.length V) c.2:=am;have be:Kp (∀k,(Value.slice p1 b.2.length q1).ownBlock=some k->w.heap.size<=k):=⟨λk Q=>(F1.o k Q).1⟩
 have bf:Kp (∀k,(Value.slice U c.2.length V).ownBlock=some k->w.heap.size<=k):=⟨λk Q=>(F2.o k Q).1⟩
 have O:=O.o;replace al:=Z_ al;replace am:=Z_ am;have aS:Kp (BD X B Y (.slice p1 b.2.length q1) (⟨63,a,0,u.2,b.2,c.2,true⟩:Sm).bo):=⟨aU⟩
 have aT:Kp (BD X B Y (.slice U c.2.length V) (⟨63,a,0,u.2,b.2,c.2,true⟩:Sm).el):=⟨aV⟩
 have c5:X.cell? ⟨sb,5,none⟩=some (Y 1):=C.o.H.c 1 (by omega);have c3:=C.o.H.c3;have aD:=C.o.H.lt;have ar:=C.o.H.rd.lt;have ag:X.ownsRow B 123 7 (Y 1) z.sm.length ((List.zip z.sm af).flatMap BK):=C.o.H.o 1 (by omega);have ai:some sb≠(Y 1).ownBlock:=λe=>by have:=(ag.lt _ e.symm).1;have:=C.o.H.b1;omega
 have az:some rb≠(Y 1).ownBlock:=λe=>by have:=(ag.lt _ e.symm).1;have:=C.o.H.b0;omega
 have aa:=C.o.W.lt;have d0:=C.o.W.c 0 _ rfl;have d1:=C.o.W.c 1 _ rfl;have d2:=C.o.W.c 2 _ rfl;have d3:=C.o.W.c 3 _ rfl;have d4:=C.o.W.c 4 _ rfl;have d5:=C.o.W.c 5 _ rfl;have d6:=C.o.W.c 6 _ rfl;obtain⟨L,M⟩:∃L,L=(X.alloc (.cells #[.int .u8 63,.int .i64 a,.int .i64 0,.int .i64 (u.2:Nat),.slice p1 b.2.length q1,.slice U c.2.length V,.bool true] 123)).drew:=⟨_,rfl⟩
 have O2:AF L X.heap.size (BK ((⟨63,a,0,u.2,b.2,c.2,true⟩:Sm),(.slice p1 b.2.length q1,.slice U c.2.length V))):=by have:=(Dd X (.int .u8 63) (.int .i64 a) (.int .i64 0) (.int .i64 (u.2:Nat)) (.slice p1 b.2.length q1) (.slice U c.2.length V) (.bool true) 123).step ((Qh _ _).drew);rw[<-M]at this;exact this
 have t:Below X.heap.size X L:=by rw[M];exact((Qh _ _).alloc (Qb _) _).drew
 have ay:some g≠(Y 1).ownBlock:=λe=>C.o.F.o 1 (by omega) e.symm;have bk:g≠sb:=C.o.F.s
 have K6:Kp (∀l:World,l.heap[g]?=L.heap[g]?->l.cell? ⟨g,0,none⟩=some (.int .u8 63)∧l.cell? ⟨g,1,none⟩=some (.int .i64 a)∧l.cell? ⟨g,2,none⟩=some (.int .i64 0)∧l.cell? ⟨g,3,none⟩=some (.int .i64 (u.2:Nat))∧l.cell? ⟨g,4,none⟩=some (.slice p1 b.2.length q1)∧l.cell? ⟨g,5,none⟩=some (.slice U c.2.length V)∧l.cell? ⟨g,6,none⟩=some (.bool true)):=⟨λl hb=>by
  have hc:∀i,l.cell? ⟨g,i,none⟩=X.cell? ⟨g,i,none⟩:=λi=>by rw[Qo (w:=L) (a:=⟨g,i,none⟩) hb];exact t.cell (p:=⟨g,i,none⟩) aa
  exact⟨by rw[hc];exact d0,by rw[hc];exact d1,by rw[hc];exact d2,by rw[hc];exact d3,by rw[hc];exact d4,by rw[hc];exact d5,by rw[hc];exact d6⟩⟩
 have K7:Kp (∀(l:World) (v:Value),l.cell? ⟨rb,3,none⟩=some (.pointer (some ⟨sb,0,none⟩))->(l.cell? ⟨g,0,none⟩=some (.int .u8 63)∧l.cell? ⟨g,1,none⟩=some (.int .i64 a)∧l.cell? ⟨g,2,none⟩=some (.int .i64 0)∧l.cell? ⟨g,3,none⟩=some (.int .i64 (u.2:Nat))∧l.cell? ⟨g,4,none⟩=some (.slice p1 b.2.length q1)∧l.cell? ⟨g,5,none⟩=some (.slice U c.2.length V)∧l.cell? ⟨g,6,none⟩=some (.bool true))->(l.setCell ⟨sb,5,none⟩ v).cell? ⟨rb,3,none⟩=some (.pointer (some ⟨sb,0,none⟩))∧(l.setCell ⟨sb,5,none⟩ v).cell? ⟨g,0,none⟩=some (.int .u8 63)∧(l.setCell ⟨sb,5,none⟩ v).cell? ⟨g,1,none⟩=some (.int .i64 a)∧(l.setCell ⟨sb,5,none⟩ v).cell? ⟨g,2,none⟩=some (.int .i64 0)∧(l.setCell ⟨sb,5,none⟩ v).cell? ⟨g,3,none⟩=some (.int .i64 (u.2:Nat))∧(l.setCell ⟨sb,5,none⟩ v).cell? ⟨g,4,none⟩=some (.slice p1 b.2.length q1)∧(l.setCell ⟨sb,5,none⟩ v).cell? ⟨g,5,none⟩=some (.slice U c.2.length V)∧(l.setCell ⟨sb,5,none⟩ v).cell? ⟨g,6,none⟩=some (.bool true)):=⟨λl v h1 h2=>by
  have hc:∀i,(l.setCell ⟨sb,5,none⟩ v).cell? ⟨g,i,none⟩=l.cell? ⟨g,i,none⟩:=λi=>World.cell?_setCell_far _ _ _ _ (by show sb≠g;omega);refine⟨by rw[QN _ _ _ _ (by simp)];exact h1,?_⟩;simp only[hc];exact h2⟩
 have J:L.heap.size=X.heap.size+1:=by rw[M];simp
 have K1:Kp (L.ownsRow B 123 7 (Y 1) z.sm.length ((List.zip z.sm af).flatMap BK)):=⟨Zo ag t⟩
 have K2:Kp (∀j uq,(BK ((⟨63,a,0,u.2,b.2,c.2,true⟩:Sm),(.slice p1 b.2.length q1,.slice U c.2.length V)))[j]?=some uq->L.cell? ((⟨X.heap.size,0,none⟩:Addr).add j)=some uq):=⟨λj uq hj=>by
  have:=O2.c j uq hj;rcases Q0 j with h0|h0
  ·subst h0;simpa [Addr.add] using this
  ·have h1:¬j=0:=by omega
   simpa [Addr.add,h1] using this⟩
 have K3:Kp (∀uq,uq∈BK ((⟨63,a,0,u.2,b.2,c.2,true⟩:Sm),(.slice p1 b.2.length q1,.slice U c.2.length V))->uq.oneCell'=true):=⟨λuq hu=>by
  unfold BK at hu;simp only[Uc,QV,or_false]at hu;rcases hu with rfl|rfl|rfl|rfl|rfl|rfl|rfl
  ·rfl
  ·rfl
  ·rfl
  ·rfl
  ·rfl
  ·rfl
  ·rfl⟩
 have K4:Kp (B<=L.heap.size):=⟨by rw[J];have:=C.o.H.hB;omega⟩
 have K5:Kp (L.cell? ⟨sb,5,none⟩=some (Y 1)∧L.frozen? ⟨sb,5,none⟩=false∧L.cell? ⟨rb,3,none⟩=some (.pointer (some ⟨sb,0,none⟩))):=⟨by rw[t.cell (p:=⟨sb,5,none⟩) aD];exact c5,by rw[t.frozen (p:=⟨sb,5,none⟩) aD];exact C.o.H.f 5 (by omega),by rw[t.cell (p:=⟨rb,3,none⟩) ar];exact c3⟩
 have bm:z.sm.length<=10000:=O;replace ai:=Z_ ai;replace ay:=Z_ ay;replace az:=Z_ az;replace t:=Z_ t;replace J:=Z_ J;replace M:=Z_ M;clear ag O2 O aU aV;replace au:=Z_ au;clear ih hv bh aX hK hX hB hY hT hD;go_wp2_with fail;rw[au.o];apply LP
 ·intro ba;refine wp_region_held_drew (S:=(λw'=>w'.cell? ⟨rb,3,none⟩=some (.pointer (some ⟨sb,0,none⟩))∧w'.cell? ⟨g,0,none⟩=some (.int .u8 63)∧w'.cell? ⟨g,1,none⟩=some (.int .i64 a)∧w'.cell? ⟨g,2,none⟩=some (.int .i64 0)∧w'.cell? ⟨g,3,none⟩=some (.int .i64 (u.2:Nat))∧w'.cell? ⟨g,4,none⟩=some (.slice p1 b.2.length q1)∧w'.cell? ⟨g,5,none⟩=some (.slice U c.2.length V)∧w'.cell? ⟨g,6,none⟩=some (.bool true))) (by kernel_rfl) (by go_keep) (λbg=>?_);refine AS (i:=0) (v:=?_) rfl (Or.inl ⟨by rfl,?_⟩) (by assumption) ?_;rotate_left
  ·intro w x;go_simp<;>rfl
  try simp only[Act.put,Qa,Qc,Qd]
  refine AS (i:=1) (v:=?_) rfl (Or.inl ⟨by rfl,?_⟩) (by assumption) ?_;rotate_left
  ·intro w x;go_simp<;>rfl
  try simp only[Act.put,Qa,Qc,Qd]
  refine AS (i:=2) (v:=?_) rfl (Or.inl ⟨by rfl,?_⟩) (by assumption) ?_;rotate_left
  ·intro w x;go_simp<;>rfl
  try simp only[Act.put,Qa,Qc,Qd]
  refine AS (i:=3) (v:=?_) rfl (Or.inl ⟨by rfl,?_⟩) (by assumption) ?_;rotate_left
  ·intro w x;go_simp<;>rfl
  try simp only[Act.put,Qa,Qc,Qd]
  refine AS (i:=4) (v:=?_) rfl (Or.inl ⟨by rfl,?_⟩) (by assumption) ?_;rotate_left
  ·intro w x;go_simp<;>rfl
  try simp only[Act.put,Qa,Qc,Qd]
  refine AS (i:=5) (v:=?_) rfl (Or.inl ⟨by rfl,?_⟩) (by assumption) ?_;rotate_left
  ·intro w x;go_simp<;>rfl
  try simp only[Act.put,Qa,Qc,Qd]
  refine AS (i:=6) (v:=?_) rfl (Or.inl ⟨by rfl,?_⟩) (by assumption) ?_;rotate_left
  ·intro w x;go_simp<;>rfl
  try simp only[Act.put,Qa,Qc,Qd]
  refine AS (i:=7) (v:=?_) rfl (Or.inl ⟨by rfl,?_⟩) (by assumption) ?_;rotate_left
  ·intro w x;go_simp<;>rfl
  try simp only[Act.put,Qa,Qc,Qd]
  refine AS (i:=8) (v:=?_) rfl (Or.inl ⟨by rfl,?_⟩) (by assumption) ?_;rotate_left
  ·intro w x;go_simp<;>rfl
  try simp only[Act.put,Qa,Qc,Qd]
  refine AS (i:=9) (v:=?_) rfl (Or.inl ⟨by rfl,?_⟩) (by assumption) ?_;rotate_left
  ·intro w x;go_simp<;>rfl
  try simp only[Act.put,Qa,Qc,Qd]
  refine AS (i:=11) (v:=?_) rfl (Or.inl ⟨by rfl,?_⟩) (by assumption) ?_;rotate_left
  ·intro w x;go_simp<;>rfl
  try simp only[Act.put,Qa,Qc,Qd]
  refine wpAnyH_ready (rs:=[10,12]) (by kernel_rfl) (by simp) (AllReadyH.cons (o:=_) rfl (λKK m=>?_) (AllReadyH.cons (o:=_) rfl (λKK m=>?_) AllReadyH.nil))
  ·go_simp;refine m.out _ _ (by go_keep) (λan=>?_);clear m KK;try simp only[Act.put,Qa,Qc,Qd]
   refine wpAnyH_ready (rs:=[12]) (by kernel_rfl) (by simp) (AllReadyH.cons (o:=_) rfl (λKK m=>?_) AllReadyH.nil);go_simp;refine m.out _ _ (by rw[<-M.o];exact⟨K5.o.2.2,K6.o L rfl⟩) (λao=>?_);clear m KK;try simp only[Act.put,Qa,Qc,Qd]
   refine wpAnyH_ready (rs:=[13]) (by kernel_rfl) (by simp) (AllReadyH.cons (o:=_) rfl (λKK m=>?_) AllReadyH.nil);rw[<-M.o];refine Zr rfl (.tmp 85) (.tmp 87) 68 rfl B 123 i0 _ 7 88 Tryz.underlying68 aW a7 a8 a9 rfl (by decide) (Y 1) z.sm.length ((List.zip z.sm af).flatMap BK) (by simp[Act.eval]) K1.o ⟨X.heap.size,0,none⟩ (BK ((⟨63,a,0,u.2,b.2,c.2,true⟩:Sm),(.slice p1 b.2.length q1,.slice U c.2.length V))) (by simp[Act.eval]) rfl K2.o K3.o (by unfold maxLen;omega) (by omega) K4.o ?_;intro v' l I d ap;obtain⟨pp,cc,rfl⟩:=Zc I;have a1:l.cell? ⟨sb,5,none⟩=some (Y 1):=by rw[Qo (w:=L) (d.block sb (by rw[J.o];omega) ai.o)];exact K5.o.1
   have f1:l.frozen? ⟨sb,5,none⟩=false:=by rw[Qz (w:=L) (d.block sb (by rw[J.o];omega) ai.o)];exact K5.o.2.1
   have a3:l.cell? ⟨rb,3,none⟩=some (.pointer (some ⟨sb,0,none⟩)):=by rw[Qo (w:=L) (d.block rb (by rw[J.o];omega) az.o)];exact K5.o.2.2
   have ae:=K6.o l (d.block g (by rw[J.o];omega) ay.o);refine m.out _ _ (⟨a3,ae⟩) (λD=>?_);clear m KK;try simp only[Act.put,Qa,Qc,Qd]
   refine AS (i:=14) (v:=?_) rfl (Or.inl ⟨by rfl,?_⟩) (by assumption) ?_;rotate_left
   ·intro w x;go_simp<;>rfl
   try simp only[Act.put,Qa,Qc,Qd]
   refine AS (i:=15) (v:=?_) rfl (Or.inl ⟨by rfl,?_⟩) (by assumption) ?_;rotate_left
   ·intro w x;go_simp<;>rfl
   try simp only[Act.put,Qa,Qc,Qd]
   refine wpAnyH_ready (rs:=[16]) (by kernel_rfl) (by simp) (AllReadyH.cons (o:=_) rfl (λKK m=>?_) AllReadyH.nil);go_simp;refine m.out _ _ (K7.o _ _ a3 ae) (λE=>?_);clear m KK;try simp only[Act.put,Qa,Qc,Qd]
   refine wpAnyH_done (by kernel_rfl) ?_ _;have hR:=GP C.o.H aS.o aT.o t.o d I ap;have a2:(l.setCell ⟨sb,5,none⟩ (.slice pp (z.sm.length+1) cc)).cell? ⟨sb,5,none⟩=some (.slice pp (z.sm.length+1) cc):=Qk _ _ _ a1;have a4:(l.setCell ⟨sb,5,none⟩ (.slice pp (z.sm.length+1) cc)).cell? ⟨rb,3,none⟩=some (.pointer (some ⟨sb,0,none⟩)):=hR.1.c3;rw[aB.o]at hR;replace hR:=Z_ hR;clear I d ap a1 a3 f1 ae D E;generalize l.setCell ⟨sb,5,none⟩ (.slice pp (z.sm.length+1) cc)=aC at *;clear l;revert a2 a4 hR;revert aC pp cc;exact ba.o
  ·go_simp;refine m.out _ _ (by rw[<-M.o];exact⟨K5.o.2.2,K6.o L rfl⟩) (λao=>?_);clear m KK;try simp only[Act.put,Qa,Qc,Qd]
   refine wpAnyH_ready (rs:=[10]) (by kernel_rfl) (by simp) (AllReadyH.cons (o:=_) rfl (λKK m=>?_) AllReadyH.nil);go_simp;refine m.out _ _ (by rw[<-M.o];exact⟨K5.o.2.2,K6.o L rfl⟩) (λan=>?_);clear m KK;try simp only[Act.put,Qa,Qc,Qd]
   refine wpAnyH_ready (rs:=[13]) (by kernel_rfl) (by simp) (AllReadyH.cons (o:=_) rfl (λKK m=>?_) AllReadyH.nil);rw[<-M.o];refine Zr rfl (.tmp 85) (.tmp 87) 68 rfl B 123 i0 _ 7 88 Tryz.underlying68 aW a7 a8 a9 rfl (by decide) (Y 1) z.sm.length ((List.zip z.sm af).flatMap BK) (by simp[Act.eval]) K1.o ⟨X.heap.size,0,none⟩ (BK ((⟨63,a,0,u.2,b.2,c.2,true⟩:Sm),(.slice p1 b.2.length q1,.slice U c.2.length V))) (by simp[Act.eval]) rfl K2.o K3.o (by unfold maxLen;omega) (by omega) K4.o ?_;intro v' l I d ap;obtain⟨pp,cc,rfl⟩:=Zc I;have a1:l.cell? ⟨sb,5,none⟩=some (Y 1):=by rw[Qo (w:=L) (d.block sb (by rw[J.o];omega) ai.o)];exact K5.o.1
   have f1:l.frozen? ⟨sb,5,none⟩=false:=by rw[Qz (w:=L) (d.block sb (by rw[J.o];omega) ai.o)];exact K5.o.2.1
   have a3:l.cell? ⟨rb,3,none⟩=some (.pointer (some ⟨sb,0,none⟩)):=by rw[Qo (w:=L) (d.block rb (by rw[J.o];omega) az.o)];exact K5.o.2.2
   have ae:=K6.o l (d.block g (by rw[J.o];omega) ay.o);refine m.out _ _ (⟨a3,ae⟩) (λD=>?_);clear m KK;try simp only[Act.put,Qa,Qc,Qd]
   refine AS (i:=14) (v:=?_) rfl (Or.inl ⟨by rfl,?_⟩) (by assumption) ?_;rotate_left
   ·intro w x;go_simp<;>rfl
   try simp only[Act.put,Qa,Qc,Qd]
   refine AS (i:=15) (v:=?_) rfl (Or.inl ⟨by rfl,?_⟩) (by assumption) ?_;rotate_left
   ·intro w x;go_simp<;>rfl
   try simp only[Act.put,Qa,Qc,Qd]
   refine wpAnyH_ready (rs:=[16]) (by kernel_rfl) (by simp) (AllReadyH.cons (o:=_) rfl (λKK m=>?_) AllReadyH.nil);go_simp;refine m.out _ _ (K7.o _ _ a3 ae) (λE=>?_);clear m KK;try simp only[Act.put,Qa,Qc,Qd]
   refine wpAnyH_done (by kernel_rfl) ?_ _;have hR:=GP C.o.H aS.o aT.o t.o d I ap;have a2:(l.setCell ⟨sb,5,none⟩ (.slice pp (z.sm.length+1) cc)).cell? ⟨sb,5,none⟩=some (.slice pp (z.sm.length+1) cc):=Qk _ _ _ a1;have a4:(l.setCell ⟨sb,5,none⟩ (.slice pp (z.sm.length+1) cc)).cell? ⟨rb,3,none⟩=some (.pointer (some ⟨sb,0,none⟩)):=hR.1.c3;rw[aB.o]at hR;replace hR:=Z_ hR;clear I d ap a1 a3 f1 ae D E;generalize l.setCell ⟨sb,5,none⟩ (.slice pp (z.sm.length+1) cc)=aC at *;clear l;revert a2 a4 hR;revert aC pp cc;exact ba.o
 intro aC pp cc a2 a4 hR;clear K1 K2 K3 K4 K5 K6 K7 d0 d1 d2 d3 d4 d5 d6 c5 c3;generalize hn:z.sm.length=n at *;replace hn:=Z_ hn;go_wp2;go_ret;exact⟨by rw[aM.o];simp,_,_,hR.o.1,C.o.T.trans hR.o.2,Lz C.o.N be.o bf.o⟩
end Go.Proofs.YtcnbifdlkalimabGreat
