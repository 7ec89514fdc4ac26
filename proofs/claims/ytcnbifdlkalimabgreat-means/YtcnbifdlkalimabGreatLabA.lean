import Derived.Test.YtcnbifdlkalimabGreatPlnA
import Derived.Test.YtcnbifdlkalimabGreatWayB
import Derived.Test.YtcnbifdlkalimabGreatPlnB
import Derived.Test.YtcnbifdlkalimabGreatLatM
/- Lemmas for the statement Means; their conditions stand in each. -/
namespace Go.Proofs.YtcnbifdlkalimabGreat
open Go.RowKit Go.Proofs.Tryz
variable{d i j lev n x y:Int}{L L':Int->Int->Int}{b hb k p:Nat}{W W' m m':Nat->Bool}{h h':Nat->Int}{R:Nat->Nat->Bool}{w w1:World}{c t v:ZB}
structure ZeF(c:ZB)(m:Nat->Bool)(h:Nat->Int)(p:Nat)(y:Int):Prop where
 hi:(p:Int)<=half c
 live:Live c p
 lo:0<=y
 up:y<=9
 fit:∀f,Zr c f->f p=y∧∀j,m j=true->h j=f j
structure Znu(c:ZB)(m:Nat->Bool)(h:Nat->Int)(i:Nat):Prop where
 hi:(i:Int)<=half c
 lo:0<=h i
 up:h i<=8
 fin:(i:Int)=half c->h i=0
 pops:(i:Int)<half c->takesAt c i<=h i
 step:(i:Int)<half c->∀j:Int,j∈nxt c i->m j.toNat=true∧h j.toNat=h i-takesAt c i+givesAt c i
structure Zis(c:ZB)(m:Nat->Bool)(h:Nat->Int)(m':Nat->Bool)(h':Nat->Int):Prop where
 more:∀j,m j=true->m' j=true
 same:∀j,m j=true->h' j=h j
 shut:∀i,m' i=true->m i=false->Znu c m' h' i
 fit:∀f,Zr c f->∀j,m' j=true->h' j=f j
structure ZcJ(c:ZB)(m:Nat->Bool)(h:Nat->Int)(p:Nat)(y:Int)(m':Nat->Bool)(h':Nat->Int)(ok:Bool):Prop where
 yes:ok=true->Zis c m h m' h'∧m' p=true∧h' p=y
 no:ok=false->¬∃f,Zr c f
theorem Znu.mono{i:Nat}(H:Znu c m h i)(hi:m i=true)(more:∀j,m j=true->m' j=true)(same:∀j,m j=true->h' j=h j):Znu c m' h' i:=by
 have e:=same i hi
 refine⟨H.hi,by rw[e];exact H.lo,by rw[e];exact H.up,λk=>by rw[e];exact H.fin k,λk=>by rw[e];exact H.pops k,λk j hj=>?_⟩
 have:=H.step k j hj
 exact⟨more _ this.1,by rw[same _ this.1,this.2,e]⟩
theorem Zis.trans{m'':Nat->Bool}{h'':Nat->Int}(H:Zis c m h m' h')(K:Zis c m' h' m'' h''):Zis c m h m'' h'':=by
 refine⟨λj hj=>K.more j (H.more j hj),λj hj=>by rw[K.same j (H.more j hj),H.same j hj],λi h1 h2=>?_,K.fit⟩
 cases hm:m' i
 ·exact K.shut i h1 hm
 ·exact(H.shut i hm h2).mono hm K.more K.same
theorem ZpN(I:ZeF c m h p y)(hm:m p=true):ZcJ c m h p y m h (h p==y):=by
 refine⟨λe=>⟨⟨λ_ h=>h,λ_ _=>rfl,λi h1 h2=>by rw[h1]at h2;exact absurd h2 (by simp),λf hf=>(I.fit f hf).2⟩,hm,by simpa using e⟩,λe=>?_⟩
 rintro⟨f,hf⟩
 have:=I.fit f hf
 have h2:=this.2 p hm
 rw[this.1]at h2
 simp[h2]at e
def setH(h:Nat->Int)(p:Nat)(y:Int):Nat->Int:=λj=>if j=p then y else h j
def setM(m:Nat->Bool)(p:Nat):Nat->Bool:=λj=>if j=p then true else m j
theorem ZpO(I:ZeF c m h p y)(hm:m p=false)(hK:(p:Int)=half c):ZcJ c m h p y (setM m p) (setH h p y) (y==0):=by
 have fitp:∀f,Zr c f->y=0:=λf hf=>by
  have h1:=hf.fin (by rw[<-hK];exact I.live)
  rw[<-(I.fit f hf).1]
  rw[<-hK]at h1
  exact h1
 refine⟨λe=>?_,λe=>?_⟩
 ·have e:y=0:=by simpa using e
  subst e
  refine⟨⟨λj hj=>by simp[setM,hj],λj hj=>?_,λi h1 h2=>?_,λf hf j hj=>?_⟩,by simp[setM],by simp[setH]⟩
  ·have:j≠p:=λk=>by rw[k,hm]at hj;exact absurd hj (by simp)
   simp[setH,this]
  ·by_cases k:i=p
   ·subst k
    have e0:setH h i 0 i=0:=by simp[setH]
    exact⟨I.hi,by rw[e0];omega,by rw[e0];omega,λ_=>e0,λk=>by omega,λk=>by omega⟩
   ·simp[setM,k,h2]at h1
  ·by_cases k:j=p
   ·subst k;simp[setH,(I.fit f hf).1]
   ·simp[setM,k]at hj
    simp[setH,k,(I.fit f hf).2 j hj]
 ·rintro⟨f,hf⟩
  have:=fitp f hf
  simp[this]at e
theorem ZlS(I:ZeF c m h p y)(hK:(p:Int)<half c)(hb:8<y∨y-takesAt c p<0):ZcJ c m h p y m' h' false:=by
 refine⟨λe=>absurd e (by simp),λ_=>?_⟩
 rintro⟨f,hf⟩
 have h1:=(I.fit f hf).1
 have h2:=hf.rng p I.hi I.live
 have h3:=hf.pops p hK I.live
 omega
theorem ZjN{m1:Nat->Bool}{h1:Nat->Int}(hr:Ranged c)(I:ZeF c m h p y)(hK:(p:Int)<half c)(hg:y<=8∧takesAt c p<=y)(hf:∀f,Zr c f->∀j,m1 j=true->h1 j=f j){q:Nat}(hq:(q:Int)∈nxt c p):ZeF c m1 h1 q (y-takesAt c p+givesAt c p):=by
 obtain⟨d1,d2,d3⟩:=ZeK c p
 have he:Edge c p q:=⟨by omega,hK,hq⟩
 have hrq:=hr p q he
 refine⟨hrq.2,I.live.step he (by omega),by omega,by omega,λf hfo=>⟨?_,hf f hfo⟩⟩
 have:=hfo.step p hK I.live q hq
 rw[QC]at this
 rw[this,(I.fit f hfo).1]
theorem ZiI(I:ZeF c m h p y):∀f,Zr c f->∀j,setM m p j=true->setH h p y j=f j:=by
 intro f hf j hj
 by_cases k:j=p
 ·subst k;simp[setH,(I.fit f hf).1]
 ·simp[setM,k]at hj
  simp[setH,k,(I.fit f hf).2 j hj]
theorem ZpP{m2 m3:Nat->Bool}{h2 h3:Nat->Int}{q1 q2:Nat}(I:ZeF c m h p y)(hm:m p=false)(hK:(p:Int)<half c)(hg:y<=8∧takesAt c p<=y)
  (hq:∀j:Int,j∈nxt c p->j=q1∨j=q2) (H1:Zis c (setM m p) (setH h p y) m2 h2) (e1:m2 q1=true∧h2 q1=y-takesAt c p+givesAt c p) (H2:Zis c m2 h2 m3 h3) (e2:m3 q2=true∧h3 q2=y-takesAt c p+givesAt c p):ZcJ c m h p y m3 h3 true:=by
 have H:=H1.trans H2
 have hp:h3 p=y:=by rw[H.same p (by simp[setM])];simp[setH]
 refine⟨λ_=>⟨⟨λj hj=>H.more j (by simp[setM,hj]),λj hj=>?_,λi k1 k2=>?_,H.fit⟩,H.more p (by simp[setM]),hp⟩,λe=>absurd e (by simp)⟩
 ·have k:j≠p:=λk=>by rw[k,hm]at hj;exact absurd hj (by simp)
  rw[H.same j (by simp[setM,hj])]
  simp[setH,k]
 ·by_cases k:i=p
  ·subst k
   refine⟨I.hi,by rw[hp];exact I.lo,by rw[hp];exact hg.1,λk=>by omega,λ_=>by rw[hp];exact hg.2,λ_ j hj=>?_⟩
   rw[hp]
   rcases hq j hj with e|e
   ·subst e
    rw[QC]
    exact⟨H2.more _ e1.1,by rw[H2.same _ e1.1];exact e1.2⟩
   ·subst e
    rw[QC]
    exact e2
  ·exact H.shut i k1 (by simp[setM,k,k2])
theorem ZiJ(hr:Ranged c)(H:Zis c (λ_=>false) (λ_=>0) m h)(h0:m 0=true∧h 0=0):Zr c h:=by
 have hh:=(Z4 c).1
 have hl:∀i:Int,Live c i->0<=i∧m i.toNat=true:=λi hl=>by
  refine hl (λx=>0<=x∧m x.toNat=true) (λx hx _=>?_) (λx y hx he _=>?_)
  ·have hx:x=0:=hx
   subst hx
   exact⟨by omega,h0.1⟩
  ·have hA:=H.shut x.toNat hx.2 rfl
   have e:((x.toNat:Nat):Int)=x:=Qj hx.1
   exact⟨(hr x y he).1,(hA.step (by rw[e];exact he.2.1) y (by rw[e];exact he.2.2)).1⟩
 have hA:∀i:Nat,Live c i->Znu c m h i:=λi k=>by
  have:=(hl i k).2
  rw[QC]at this
  exact H.shut i this rfl
 refine⟨h0.2,λi _ k=>⟨(hA i k).lo,(hA i k).up⟩,λk=>?_,λi h1 k=>(hA i k).pops h1,λi h1 k j hj=>((hA i k).step h1 j hj).2⟩
 have e:(((half c).toNat:Nat):Int)=half c:=Qj hh
 exact(hA (half c).toNat (by rw[e];exact k)).fin e
set_option linter.unusedVariables false
set_option maxRecDepth 100000
structure ZeG(w:World)(b:Nat)(m:Nat->Bool)(h:Nat->Int):Prop where
 s:Zal w b 0 m
 a:∀j:Nat,j<201->w.cell? ⟨b,201+j,none⟩=some (.int .i64 (h j))
 f:∀j:Nat,j<201->w.frozen? ⟨b,201+j,none⟩=false
theorem ZeG.step(H:ZeG w b m h)(hb:Below w.heap.size w w1):ZeG w1 b m h:=
 ⟨H.s.step hb,λj hj=>by rw[hb.cell (p:=⟨b,201+j,none⟩) H.s.lt];exact H.a j hj,λj hj=>by rw[hb.frozen (p:=⟨b,201+j,none⟩) H.s.lt];exact H.f j hj⟩
theorem ZeG.but{b':Nat}(H:ZeG w b m h)(hb:But b' w.heap.size w w1)(hne:b≠b'):ZeG w1 b m h:=
 ⟨H.s.but hb hne,λj hj=>by rw[hb.cell (p:=⟨b,201+j,none⟩) H.s.lt hne];exact H.a j hj,λj hj=>by rw[hb.frozen (p:=⟨b,201+j,none⟩) H.s.lt hne];exact H.f j hj⟩
theorem ZL(w:World)(b i j:Nat)(x:Value)(h:i≠j):(w.setCell ⟨b,i,none⟩ x).cell? ⟨b,j,none⟩=w.cell? ⟨b,j,none⟩:=
 QN w ⟨b,i,none⟩ ⟨b,j,none⟩ x (by intro k;exact h (congrArg Addr.off k))
theorem ZeG.setM(H:ZeG w b m h)(hp:p<201):ZeG (w.setCell ⟨b,0+p,none⟩ (.bool true)) b (setM m p) h:=
 ⟨H.s.set hp true,λj hj=>by rw[ZL _ _ _ _ _ (by omega)];exact H.a j hj,λj hj=>by rw[Qu];exact H.f j hj⟩
theorem ZeG.setH(H:ZeG w b m h)(hp:p<201)(y:Int):ZeG (w.setCell ⟨b,201+p,none⟩ (.int .i64 y)) b m (setH h p y):=by
 refine⟨⟨by simpa using H.s.lt,λj hj=>by rw[ZL _ _ _ _ _ (by omega)];exact H.s.c j hj,λj hj=>by rw[World.frozen?_setCell];exact H.s.f j hj⟩,λj hj=>?_,λj hj=>by rw[World.frozen?_setCell];exact H.f j hj⟩
 by_cases e:j=p
 ·subst e
  rw[Qk _ _ _ (H.a j hj)]
  simp[Go.Proofs.YtcnbifdlkalimabGreat.setH]
 ·rw[ZL _ _ _ _ _ (by omega)]
  simp[Go.Proofs.YtcnbifdlkalimabGreat.setH,e]
  exact H.a j hj
set_option maxHeartbeats 6400000
theorem Zo7(b:Nat)(m:Nat->Bool)(h:Nat->Int)(p:Nat)(w:World)(H:ZeG w b m h)(hp:p<201) :
  Calls prog 221 #[.pointer (some ⟨b,0,none⟩),.int .i64 p] w λe w'=>e=.returned (.int .i64 (h p))∧w'=w:=by
 have hc:=H.a p hp
 have hp2:(p:Int)<201:=by omega
 clear H
 go_enter func221,ntmps221
 go_wp2
 go_ret
 exact⟨rfl,rfl⟩
def Znv(c:ZB)(b:Nat)(m:Nat->Bool)(h:Nat->Int)(p:Nat)(y:Int)(w:World)(e:Ending)(w':World):Prop:=
 ∃(ok:Bool) (m':Nat->Bool) (h':Nat->Int),e=.returned (.bool ok)∧ZeG w' b m' h'∧But b w.heap.size w w'∧Kp (ZcJ c m h p y m' h' ok)
theorem ZhC(n y:Int)(b p:Nat)(m:Nat->Bool)(h:Nat->Int)(t v c:ZB)(w:World)(hK:half c<=200)(H:ZeG w b m h)(I:ZeF c m h p y)(hm:m p=true) :
  Calls prog 122 #[.pointer (some ⟨b,0,none⟩),.agg #[.int .i64 n,.string t,.string v,.string c],.int .i64 p,.int .i64 y] w (Znv c b m h p y w):=by
 have hp:=I.hi
 have hO:Kp (ZcJ c m h p y m h (h p==y)):=⟨ZpN I hm⟩
 have hp2:(p:Int)<201:=by omega
 have bl:=λo=>(Qh w.heap.size w).alloc (Qb _) o
 have H1:=H.step (bl (.cells #[.int .i64 n,.string t,.string v,.string c] 76))
 have hB1:=But.of (b:=b) (bl (.cells #[.int .i64 n,.string t,.string v,.string c] 76))
 have hca:=H1.a p (by omega)
 clear H I bl
 go_enter func122,ntmps122
 go_wp2_with fail
 refine(Ze2 b 0 m p _ H1.s (by omega) hm).mono ?_
 rintro e w1 ⟨rfl,rfl⟩
 go_wp2
 go_ret
 exact⟨_,m,h,rfl,H1,hB1,hO⟩
theorem ZpQ(n:Int)(b:Nat)(t v c:ZB)(hc:c.size<=maxLen)(hK:half c<=200)(hr:Kp (Ranged c))(hop:Kp (∀i:Int,0<=i->i<half c->bv c (2*i)<=11))(k:Nat):∀(m:Nat->Bool) (h:Nat->Int) (p:Nat) (y:Int) (w:World),ZfN m 201<=k->ZeG w b m h->ZeF c m h p y->
  Calls prog 122 #[.pointer (some ⟨b,0,none⟩),.agg #[.int .i64 n,.string t,.string v,.string c],.int .i64 p,.int .i64 y] w (Znv c b m h p y w):=by
 induction k with
 | zero=>
  intro m h p y w hk H I
  refine ZhC n y b p m h t v c w hK H I ?_
  cases hm:m p
  ·have:=Zdu (m:=m) (k:=201) (j:=p) (by have:=I.hi;omega) hm
   omega
  ·rfl
 | succ k ih=>
  intro m h p y w hk H I
  cases hm:m p with
  | true=>exact ZhC n y b p m h t v c w hK H I hm
  | false=>
   have hp:=I.hi
   have y0:=I.lo
   have y9:=I.up
   have hcnt:Kp (ZfN (setM m p) 201<=k):=⟨by have:=Zdu (m:=m) (k:=201) (j:=p) (by omega) hm;unfold setM;omega⟩
   have hp2:(p:Int)<201:=by omega
   have bl:=λo=>(Qh w.heap.size w).alloc (Qb _) o
   have H1:=H.step (bl (.cells #[.int .i64 n,.string t,.string v,.string c] 76))
   have hB1:=But.of (b:=b) (bl (.cells #[.int .i64 n,.string t,.string v,.string c] 76))
   have o1:=Own.new4 w (.int .i64 n) (.string t) (.string v) (.string c) 76
   have hlt:=H.s.lt
   replace I:=Z_ I
   clear hk bl H
   go_enter func122,ntmps122
   go_wp2_with fail
   refine(Ze3 b 0 m p _ H1.s (by omega) hm).mono ?_
   rintro e w1 ⟨rfl,hw1⟩
   have H2:ZeG w1 b (setM m p) h:=by rw[hw1];exact H1.setM (by omega)
   have hB2:But b w.heap.size w w1:=by rw[hw1];exact hB1.setCell _ _
   have o2:Own w1 w.heap.size [.int .i64 n,.string t,.string v,.string c]:=by rw[hw1];exact o1.but ((But.refl b _ _).setCell _ _) (by omega)
   have hca:=H2.a p (by omega)
   have hcf:=H2.f p (by omega)
   clear hw1 H1 hB1 o1
   have H3:=H2.setH (p:=p) (by omega) y
   have hB3:=hB2.setCell (201+p) (.int .i64 y)
   have o3:=o2.but ((But.refl b _ _).setCell (201+p) (.int .i64 y)) (by omega)
   have hlt2:=hB2.size
   clear H2 hB2 o2
   obtain⟨w3,hw3⟩:∃w3,w1.setCell ⟨b,201+p,none⟩ (.int .i64 y)=w3:=⟨_,rfl⟩
   rw[hw3]at H3 hB3 o3
   have q0:=o3.c 0 _ rfl
   have q1:=o3.c 1 _ rfl
   have q2:=o3.c 2 _ rfl
   have q3:=o3.c 3 _ rfl
   go_wp2_with fail
   refine(ZT n t v c _ hc).mono ?_
   rintro e w4 ⟨rfl,hb4⟩
   have H4:=H3.step hb4
   have hB4:=hB3.trans (But.of (hb4.mono hB3.size))
   have o4:=o3.step hb4
   clear hca hcf hw3 q0 q1 q2 q3 H3 hB3 o3 hb4
   by_cases hpK:(p:Int)=half c
   ·have hO:Kp (ZcJ c m h p y (setM m p) (setH h p y) (y==0)):=⟨ZpO I.out hm hpK⟩
    rw[<-hpK]
    go_wp2
    go_ret
    exact⟨_,_,_,rfl,H4,hB4,hO⟩
   ·have hne:((p:Int)==half c)=false:=Qf.2 hpK
    have hlt3:(p:Int)<half c:=by omega
    have ho1:=Zag c (2*p)
    have ho2:=hop.out p (by omega) hlt3
    have q0:=o4.c 0 _ rfl
    have q1:=o4.c 1 _ rfl
    have q2:=o4.c 2 _ rfl
    have q3:=o4.c 3 _ rfl
    go_wp2_with fail
    refine(Za7 n p t v c _ hc (by omega) hlt3).mono ?_
    rintro e w5 ⟨rfl,hb5⟩
    have H5:=H4.step hb5
    have hB5:=hB4.trans (But.of (hb5.mono hB4.size))
    have o5:=o4.step hb5
    clear q0 q1 q2 q3 H4 hB4 o4 hb5
    obtain⟨dt,dg,_⟩:=ZeK c p
    obtain⟨d1,d2⟩:=dt
    obtain⟨d3,d4⟩:=dg
    obtain⟨tk,htk⟩:∃tk,takesAt c p=tk:=⟨_,rfl⟩
    obtain⟨gv,hgv⟩:∃gv,givesAt c p=gv:=⟨_,rfl⟩
    rw[htk]at d1 d2
    rw[hgv]at d3 d4
    go_wp2_with fail
    refine(ZgH (bv c (2*p)) _ ho1.1 ho2).mono ?_
    rintro e w6 ⟨rfl,rfl⟩
    rw[show takesF (bv c (2*p))=tk from htk]
    by_cases hbad:8<y
    ·have hO:Kp (ZcJ c m h p y (setM m p) (setH h p y) false):=⟨ZlS I.out hlt3 (.inl hbad)⟩
     replace htk:=Z_ htk
     replace hgv:=Z_ hgv
     go_wp2
     go_ret
     exact⟨_,_,_,rfl,H5,hB5,hO⟩
    ·by_cases hbad2:y-tk<0
     ·have hO:Kp (ZcJ c m h p y (setM m p) (setH h p y) false):=⟨ZlS I.out hlt3 (.inr (by rw[htk];exact hbad2))⟩
      replace htk:=Z_ htk
      replace hgv:=Z_ hgv
      go_wp2
      go_ret
      exact⟨_,_,_,rfl,H5,hB5,hO⟩
     ·have hg:Kp (y<=8∧takesAt c p<=y):=⟨by rw[htk];omega⟩
      obtain⟨⟨n1,n2⟩,n3,n4⟩:=ZkT hr.out (k:=p) (by omega) (by omega)
      obtain⟨a1,e1⟩:∃a1:Nat,nx1 c p=a1:=⟨(nx1 c p).toNat,by omega⟩
      obtain⟨a2,e2⟩:∃a2:Nat,nx2 c p=a2:=⟨(nx2 c p).toNat,by omega⟩
      have m1:Kp ((a1:Int)∈nxt c p):=⟨(Zah hlt3).2 (.inl e1.symm)⟩
      have m2:Kp ((a2:Int)∈nxt c p):=⟨(Zah hlt3).2 (.inr e2.symm)⟩
      have m3:Kp (∀x,x∈nxt c p->x=a1∨x=a2):=⟨λx hx=>by have:=(Zah hlt3).1 hx;rwa [e1,e2]at this⟩
      have q0:=o5.c 0 _ rfl
      have q1:=o5.c 1 _ rfl
      have q2:=o5.c 2 _ rfl
      have q3:=o5.c 3 _ rfl
      replace htk:=Z_ htk
      replace hgv:=Z_ hgv
      go_wp2_with fail
      refine(Za0 n p t v c _ hc hK (by omega) (by omega)).mono ?_
      rintro e w6 ⟨rfl,hb6⟩
      have H6:=H5.step hb6
      have hB6:=hB5.trans (But.of (hb6.mono hB5.size))
      have o6:=o5.step hb6
      rw[e1,e2]
      clear q0 q1 q2 q3 H5 hB5 o5 hb6 e1 e2 n1 n2 n3 n4
      go_wp2_with fail
      refine(Zd4 (bv c (2*p)) _ ho1.1 ho2).mono ?_
      rintro e w7 ⟨rfl,rfl⟩
      rw[show givesF (bv c (2*p))=gv from hgv.out]
      have q0:=o6.c 0 _ rfl
      have q1:=o6.c 1 _ rfl
      have q2:=o6.c 2 _ rfl
      have q3:=o6.c 3 _ rfl
      go_wp2_with fail
      have I1:ZeF c (setM m p) (setH h p y) a1 (y-tk+gv):=by
       have:=ZjN hr.out I.out hlt3 hg.out (ZiI I.out) m1.out
       rwa [htk.out,hgv.out]at this
      refine(ih (setM m p) (setH h p y) a1 (y-tk+gv) _ hcnt.out H6 I1).mono ?_
      rintro e w7 ⟨ok,m7,h7,rfl,H7,hb7,hO7⟩
      have hB7:=hB6.trans (hb7.mono hB6.size)
      have o7:=o6.but hb7 (by omega)
      clear q0 q1 q2 q3 H6 hB6 o6 hb7 I1
      cases ok with
      | false=>
       have hO:Kp (ZcJ c m h p y m7 h7 false):=⟨⟨λe=>absurd e (by simp),hO7.out.no⟩⟩
       go_wp2
       go_ret
       exact⟨_,_,_,rfl,H7,hB7,hO⟩
      | true=>
       obtain⟨L7,e7⟩:=hO7.out.yes rfl
       have hcnt7:Kp (ZfN m7 201<=k):=⟨Qg (Zl5 L7.more 201) hcnt.out⟩
       have I2:ZeF c m7 h7 a2 (y-tk+gv):=by
        have:=ZjN hr.out I.out hlt3 hg.out L7.fit m2.out
        rwa [htk.out,hgv.out]at this
       replace L7:=Z_ L7
       replace e7:=Z_ e7
       replace I2:=Z_ I2
       have q0:=o7.c 0 _ rfl
       have q1:=o7.c 1 _ rfl
       have q2:=o7.c 2 _ rfl
       have q3:=o7.c 3 _ rfl
       go_wp2_with fail
       refine(ih m7 h7 a2 (y-tk+gv) _ hcnt7.out H7 I2.out).mono ?_
       rintro e w8 ⟨ok,m8,h8,rfl,H8,hb8,hO8⟩
       have hB8:=hB7.trans (hb8.mono hB7.size)
       clear q0 q1 q2 q3 H7 hB7 o7 hb8
       have hO:Kp (ZcJ c m h p y m8 h8 ok):=⟨by
        cases ok
        ·exact⟨λe=>absurd e (by simp),hO8.out.no⟩
        ·obtain⟨L8,e8⟩:=hO8.out.yes rfl
         refine ZpP I.out hm hlt3 hg.out m3.out L7.out ?_ L8 ?_
         ·rw[htk.out,hgv.out];exact e7.out
         ·rw[htk.out,hgv.out];exact e8⟩
       go_wp2
       go_ret
       exact⟨_,_,_,rfl,H8,hB8,hO⟩
def ZE(m:Nat->Bool)(h:Nat->Int)(j:Nat):Value:=if j<201 then .bool (m j) else .int .i64 (h (j-201))
theorem ZhD(m:Nat->Bool)(h:Nat->Int)(j:Nat):(ZE m h j).oneCell'=true:=by
 unfold ZE
 split<;>rfl
theorem ZeG.cells(H:ZeG w b m h)(j:Nat)(hj:j<402):w.cell? ⟨b,0+j,none⟩=some (ZE m h j):=by
 unfold ZE
 split
 ·exact H.s.c j (by omega)
 ·have:=H.a (j-201) (by omega)
  rw[show 201+(j-201)=0+j from by omega]at this
  exact this
theorem ZjO(R:Room w b 402)(m:Nat->Bool)(h:Nat->Int):ZeG (w.setCells b 0 (big 402 (ZE m h)).toList) b m h:=by
 have e:∀j,j<402->(w.setCells b 0 (big 402 (ZE m h)).toList).cell? ⟨b,0+j,none⟩=some (ZE m h j):=λj hj=>ZA w b 0 402 _ R.c j hj
 have f:∀j,j<402->(w.setCells b 0 (big 402 (ZE m h)).toList).frozen? ⟨b,0+j,none⟩=false:=λj hj=>by rw[QQ];exact R.f j hj
 refine⟨⟨?_,λj hj=>?_,λj hj=>f j (by omega)⟩,λj hj=>?_,λj hj=>?_⟩
 ·have:=(Z2 (But.refl b 0 w) (big 402 (ZE m h)).toList 0).size
  exact Qq R.lt this
 ·rw[e j (by omega)]
  unfold ZE
  rw[if_pos hj]
 ·have:=e (201+j) (by omega)
  rw[QT]at this
  rw[this]
  unfold ZE
  rw[if_neg (by omega),show 201+j-201=j from by omega]
 ·have:=f (201+j) (by omega)
  rwa [QT]at this
theorem ZgB(n:Int)(t v c:ZB)(w:World)(hc:c.size<=maxLen)(hK:half c<=200)(hr:Kp (Ranged c))(hop:Kp (∀i:Int,0<=i->i<half c->bv c (2*i)<=11)) :
  Calls prog 63 #[.agg #[.int .i64 n,.string t,.string v,.string c]] w λe w'=>
   ∃(m:Nat->Bool) (h:Nat->Int),((e=.returned (.tuple #[.agg (big 402 (ZE m h)),.bool true])∧Kp (Zr c h))∨(e=.returned (.tuple #[.agg (big 402 (ZE m h)),.bool false])∧Kp (¬∃f,Zr c f)))∧Below w.heap.size w w':=by
 have hh:=(Z4 c).1
 obtain⟨w0,hw0⟩:∃w0,w0=(((w.alloc (.cells #[.int .i64 n,.string t,.string v,.string c] 76)).alloc (.cells Tryz.zeroCells144 144)).alloc (.cells Tryz.zeroCells144 144)):=⟨_,rfl⟩
 have hsz:w0.heap.size=w.heap.size+3:=by rw[hw0];simp
 have hR0:Room w0 (w.heap.size+1+1) 402:=by rw[hw0];exact Room.of_row (row3 _ _ _ _) (by kernel_rfl)
 have hR1:Room w0 (w.heap.size+1) 402:=by rw[hw0];exact Room.of_row (row2 _ _ _ _) (by kernel_rfl)
 have hO0:Own w0 w.heap.size [.int .i64 n,.string t,.string v,.string c]:=by rw[hw0];exact((Own.new4 w _ _ _ _ _).alloc _).alloc _
 have hB0:Below w.heap.size w w0:=by rw[hw0];exact(((Qh _ _).alloc (Qb _) _).alloc (by simp) _).alloc (by simp;omega) _
 obtain⟨w1,hw1⟩:∃w1,w1=w0.setCells (w.heap.size+1+1) 0 (big 402 (ZE (λ_=>false) (λ_=>0))).toList:=⟨_,rfl⟩
 have hB:But (w.heap.size+1+1) w0.heap.size w0 w1:=by rw[hw1];exact Z2 (But.refl _ _ _) _ _
 have H1:ZeG w1 (w.heap.size+1+1) (λ_=>false) (λ_=>0):=by rw[hw1];exact ZjO hR0 _ _
 have hR2:=hR1.but hB (by omega)
 have hO1:=hO0.but hB (by omega)
 have hB1:Below w.heap.size w w1:=hB0.trans ((hB.mono hB0.size).below (by omega))
 have hz1:=hB.size
 replace hw0:=Z_ hw0
 replace hw1:=Z_ hw1
 have q0:=hO1.c 0 _ rfl
 have q1:=hO1.c 1 _ rfl
 have q2:=hO1.c 2 _ rfl
 have q3:=hO1.c 3 _ rfl
 clear hO0 hR1 hB0 hB
 go_enter func63,ntmps63
 repeat (first|refine Zar 144 #[] rfl _ built_ht ?_|(refine Zm 144 (.tmp 4) (.tmp 6) rfl (w.heap.size+1+1) 0 402 (ZE (λ_=>false) (λ_=>0)) rfl rfl (by kernel_rfl) (by rw[<-hw0.out];exact hR0.c) (by rw[<-hw0.out];exact hR0.f) (λj _=>ZhD _ _ j) ?_;rw[<-hw0.out,<-hw1.out];dsimp only [Act.put])|go_step)
 have I0:ZeF c (λ_=>false) (λ_=>0) 0 0:=⟨by omega,Reach.start rfl (by omega),by omega,by omega,λf hf=>⟨hf.zero,λj hj=>absurd hj (by simp)⟩⟩
 refine(ZpQ n (w.heap.size+1+1) t v c hc hK hr hop 201 (λ_=>false) (λ_=>0) 0 0 w1 (Ze4 _ _) H1 I0).mono ?_
 rintro e w2 ⟨ok,m,h,rfl,H2,hb2,hO2⟩
 have hR3:=hR2.but hb2 (by omega)
 have hB2:Below w.heap.size w w2:=hB1.trans ((hb2.mono hB1.size).below (by omega))
 clear q0 q1 q2 q3 hO1 H1 hR2 hR0 hB1 hb2 hw0 hw1 I0
 cases ok with
 | true=>
  have hH:Kp (Zr c h):=⟨ZiJ hr.out (hO2.out.yes rfl).1 (hO2.out.yes rfl).2⟩
  clear hO2
  obtain⟨w5,hw5⟩:∃w5:World,w2.setCells (w.heap.size+1) 0 (big 402 (ZE m h)).toList=w5:=⟨_,rfl⟩
  have hcell:Kp (∀j,j<402->w5.cell? ⟨w.heap.size+1,0+j,none⟩=some (ZE m h j)):=⟨by rw[<-hw5];exact ZA w2 (w.heap.size+1) 0 402 _ hR3.c⟩
  have hB5:Below w.heap.size w w5:=by rw[<-hw5];exact Zai hB2 (b:=w.heap.size+1) (by omega) _ 0
  replace hw5:=Z_ hw5
  dsimp only
  repeat (first|refine Zbr 144 (.tmp 4) rfl (w.heap.size+1+1) 0 402 (ZE m h) rfl _ Tryz.underlying144 rfl (by kernel_rfl) H2.cells ?_|(refine Zm 144 (.tmp 2) (.tmp 12) rfl (w.heap.size+1) 0 402 (ZE m h) rfl rfl (by kernel_rfl) hR3.c hR3.f (λj _=>ZhD _ _ j) ?_;rw[hw5.out];dsimp only [Act.put])|go_step)
  have hl:=ZeL (P:=prog) w5 144 _ (w.heap.size+1) 0 402 (ZE m h) Tryz.underlying144 rfl (by kernel_rfl) hcell.out
  refine bodyPost_ret (v:=.tuple #[.agg (big 402 (ZE m h)),.bool true]) (by simp[results,Tryz.results63,asAddr,hl]) rfl ⟨m,h,.inl ⟨rfl,hH⟩,hB5⟩
 | false=>
  have hH:Kp (¬∃f,Zr c f):=⟨hO2.out.no rfl⟩
  clear hO2
  obtain⟨w5,hw5⟩:∃w5:World,w2.setCells (w.heap.size+1) 0 (big 402 (ZE (λ_=>false) (λ_=>0))).toList=w5:=⟨_,rfl⟩
  have hcell:Kp (∀j,j<402->w5.cell? ⟨w.heap.size+1,0+j,none⟩=some (ZE (λ_=>false) (λ_=>0) j)):=⟨by rw[<-hw5];exact ZA w2 (w.heap.size+1) 0 402 _ hR3.c⟩
  have hB5:Below w.heap.size w w5:=by rw[<-hw5];exact Zai hB2 (b:=w.heap.size+1) (by omega) _ 0
  replace hw5:=Z_ hw5
  dsimp only
  repeat (first|refine Zar 144 #[] rfl _ built_ht ?_|(refine Zm 144 (.tmp 2) (.tmp 11) rfl (w.heap.size+1) 0 402 (ZE (λ_=>false) (λ_=>0)) rfl rfl (by kernel_rfl) hR3.c hR3.f (λj _=>ZhD _ _ j) ?_;rw[hw5.out];dsimp only [Act.put])|go_step)
  have hl:=ZeL (P:=prog) w5 144 _ (w.heap.size+1) 0 402 (ZE (λ_=>false) (λ_=>0)) Tryz.underlying144 rfl (by kernel_rfl) hcell.out
  refine bodyPost_ret (v:=.tuple #[.agg (big 402 (ZE (λ_=>false) (λ_=>0))),.bool false]) (by simp[results,Tryz.results63,asAddr,hl]) rfl ⟨_,_,.inr ⟨rfl,hH⟩,hB5⟩
def Zav(c v t:ZB)(n:Int)(h:Nat->Int)(L:Int->Int->Int)(i:Int):Int:=
 if bv c (2*i)=1 then jn t n (L i (-1)) (bv v (bv c (2*i+1)))
 else if bv c (2*i)=10 then jn t n (L i (-1)) (bv c (2*i+1))
 else if 3<=bv c (2*i)∧bv c (2*i)<=7 then jn t n (jn t n (L i (-1)) (L i (h i.toNat-1))) (L i (h i.toNat-2))
 else L i (-1)
structure ZbT(c v t:ZB)(n:Int)(h:Nat->Int)(L:Int->Int->Int):Prop where
 rng:∀p d,Lv n (L p d)
 sound:∀p d u,Lv n u->(∀a,Lv n a->Flow c v h a p d->le t n a u=true)->le t n (L p d) u=true
def ZbU(c v t:ZB)(n:Int)(h:Nat->Int)(p d lev:Int):Prop:=Lv n lev∧∀u,Lv n u->(∀a,Lv n a->Flow c v h a p d->le t n a u=true)->le t n lev u=true
structure Rise(t:ZB)(n:Int)(L:Int->Int->Int)(W:Nat->Bool)(L':Int->Int->Int)(W':Nat->Bool):Prop where
 up:∀p d,le t n (L p d) (L' p d)=true
 same:∀p:Nat,W' p=false->W p=false∧∀d,L' p d=L p d
theorem Rise.refl(H:Zam t n)(hr:∀p d,Lv n (L p d)):Rise t n L W L W:=⟨λp d=>H.refl _ (hr p d),λ_ h=>⟨h,λ_=>rfl⟩⟩
theorem Rise.trans(H:Zam t n){L'':Int->Int->Int}{W'':Nat->Bool}(r:∀p d,Lv n (L p d))(r':∀p d,Lv n (L' p d))(r'':∀p d,Lv n (L'' p d))(a:Rise t n L W L' W')(b:Rise t n L' W' L'' W''):Rise t n L W L'' W'':=
 ⟨λp d=>H.trans _ _ _ (r p d) (r' p d) (r'' p d) (a.up p d) (b.up p d),λp h=>by
  have h1:=b.same p h
  have h2:=a.same p h1.1
  exact⟨h2.1,λd=>by rw[h1.2 d,h2.2 d]⟩⟩
structure Zez(c v t:ZB)(n:Int)(h:Nat->Int)(L:Int->Int->Int)(i j:Int):Prop where
 stay:∀d,0<=d->d<h i.toNat-takesAt c i->le t n (L i d) (L j d)=true
 push:givesAt c i=1->le t n (Zav c v t n h L i) (L j (h i.toNat-takesAt c i))=true
def zeroLev(t:ZB)(n:Int)(h:Nat->Int)(L:Int->Int->Int)(i:Int):Int:=jn t n (L i (-1)) (L i (h i.toNat-1))
structure Handed(c v t:ZB)(n:Int)(h:Nat->Int)(L:Int->Int->Int)(i:Int):Prop where
 to:∀j,j∈nxt c i->Zez c v t n h L i j
 hide:bv c (2*i)=9->∀p,0<=p->p<half c->Reg c i p->le t n (zeroLev t n h L i) (L p (-1))=true
theorem ZhE(e:∀d,L' i d=L i d):Zav c v t n h L' i=Zav c v t n h L i:=by
 unfold Zav
 rw[e,e,e]
theorem ZhF(e:∀d,L' i d=L i d):zeroLev t n h L' i=zeroLev t n h L i:=by
 unfold zeroLev
 rw[e,e]
theorem ZgC(H:Zam t n)(hr:∀p d,Lv n (L p d))(hv:bv c (2*i)=1->Lv n (bv v (bv c (2*i+1))))(ha:bv c (2*i)=10->Lv n (bv c (2*i+1))):Lv n (Zav c v t n h L i):=by
 unfold Zav
 split
 ·rename_i e;exact H.jin _ _ (hr _ _) (hv e)
 ·split
  ·rename_i e;exact H.jin _ _ (hr _ _) (ha e)
  ·split
   ·exact H.jin _ _ (H.jin _ _ (hr _ _) (hr _ _)) (hr _ _)
   ·exact hr _ _
theorem Zez.rise{i:Nat}(H:Zam t n)(hr:∀p d,Lv n (L p d))(hr':∀p d,Lv n (L' p d))(hp:Lv n (Zav c v t n h L i))(R:Rise t n L W L' W')(hw:W' i=false)(K:Zez c v t n h L i j):Zez c v t n h L' i j:=by
 have e:=(R.same i hw).2
 refine⟨λd h0 h1=>?_,λhg=>?_⟩
 ·rw[e d];exact H.trans _ _ _ (hr _ _) (hr _ _) (hr' _ _) (K.stay d h0 h1) (R.up _ _)
 ·rw[ZhE e];exact H.trans _ _ _ hp (hr _ _) (hr' _ _) (K.push hg) (R.up _ _)
theorem Handed.rise{i:Nat}(H:Zam t n)(hr:∀p d,Lv n (L p d))(hr':∀p d,Lv n (L' p d))(hp:Lv n (Zav c v t n h L i))(R:Rise t n L W L' W')(hw:W' i=false)(K:Handed c v t n h L i):Handed c v t n h L' i:=by
 have e:=(R.same i hw).2
 refine⟨λj hj=>(K.to j hj).rise H hr hr' hp R hw,λh9 p h0 h1 hR=>?_⟩
 rw[ZhF e]
 exact H.trans _ _ _ (H.jin _ _ (hr _ _) (hr _ _)) (hr _ _) (hr' _ _) (K.hide h9 p h0 h1 hR) (R.up _ _)
def Zhq(L:Int->Int->Int)(p d x:Int):Int->Int->Int:=λq e=>if q=p∧e=d then x else L q e
theorem ZbN(L:Int->Int->Int)(p d x:Int):Zhq L p d x p d=x:=if_pos ⟨rfl,rfl⟩
theorem ZaZ{p q e:Int}(h:¬(q=p∧e=d)):Zhq L p d x q e=L q e:=if_neg h
theorem ZbT.raise{p:Int}(H:Zam t n)(K:ZbT c v t n h L)(hm:ZbU c v t n h p d lev):ZbT c v t n h (Zhq L p d (jn t n (L p d) lev)):=by
 refine⟨λq e=>?_,λq e u hu ha=>?_⟩
 ·by_cases k:q=p∧e=d
  ·obtain⟨rfl,rfl⟩:=k;rw[ZbN];exact H.jin _ _ (K.rng _ _) hm.1
  ·rw[ZaZ k];exact K.rng q e
 ·by_cases k:q=p∧e=d
  ·obtain⟨rfl,rfl⟩:=k;rw[ZbN];exact H.jm _ _ _ (K.rng _ _) hm.1 hu (K.sound _ _ u hu ha) (hm.2 u hu ha)
  ·rw[ZaZ k];exact K.sound q e u hu ha
theorem Rise.raise(H:Zam t n)(hr:∀p d,Lv n (L p d))(hl:Lv n lev):Rise t n L W (Zhq L p d (jn t n (L p d) lev)) (λj=>if j=p then true else W j):=by
 refine⟨λq e=>?_,λq hq=>?_⟩
 ·by_cases k:q=p∧e=d
  ·obtain⟨rfl,rfl⟩:=k;rw[ZbN];exact H.jl _ _ (hr _ _) hl
  ·rw[ZaZ k];exact H.refl _ (hr _ _)
 ·by_cases k:q=p
  ·simp[k]at hq
  ·simp[k]at hq
   exact⟨hq,λe=>ZaZ (λh=>k (by have:=h.1;omega))⟩
def ZdX(t:ZB)(n x:Int):Nat->Nat
 | 0=>0
 | k+1=>ZdX t n x k+(if le t n x k then 1 else 0)
theorem ZpR(k:Nat)(h:∀u:Nat,u<k->le t n y u=true->le t n x u=true):ZdX t n y k<=ZdX t n x k∧(ZdX t n y k=ZdX t n x k->∀u:Nat,u<k->le t n x u=true->le t n y u=true):=by
 induction k with
 | zero=>exact⟨Qb _,λ_ u hu=>by omega⟩
 | succ k ih=>
  have ih:=ih (λu hu=>h u (by omega))
  have hk:=h k (by omega)
  simp only[ZdX]
  cases hy:le t n y k<;>cases hx:le t n x k
  ·refine⟨by simpa using ih.1,λe u hu hu2=>?_⟩
   by_cases k2:u=k
   ·rw[k2,hx]at hu2;exact absurd hu2 (by simp)
   ·exact ih.2 (by simpa using e) u (by omega) hu2
  ·refine⟨by simp;omega,λe=>?_⟩
   simp at e;omega
  ·rw[hy,hx]at hk;exact absurd (hk rfl) (by simp)
  ·refine⟨by simpa using ih.1,λe u hu hu2=>?_⟩
   by_cases k2:u=k
   ·rw[k2];exact hy
   ·exact ih.2 (by simpa using e) u (by omega) hu2
def rank(t:ZB)(n x:Int):Nat:=ZdX t n x n.toNat
theorem ZpS(H:Zam t n)(hx:Lv n x)(hy:Lv n y)(h:le t n x y=true)(hne:y≠x):rank t n y<rank t n x:=by
 have h1:=ZpR (t:=t) (n:=n) (x:=x) (y:=y) n.toNat (λu hu hu2=>H.trans _ _ _ hx hy ⟨by omega,by omega⟩ h hu2)
 unfold rank
 rcases Nat.lt_or_ge (ZdX t n y n.toNat) (ZdX t n x n.toNat) with k|k
 ·exact k
 ·exfalso
  have h2:=h1.2 (by omega) x.toNat (by have:=hx.2;have:=hx.1;omega)
  rw[Qj hx.1]at h2
  exact hne (H.anti _ _ hy hx (h2 (H.refl _ hx)) h)
def ZfZ(f:Nat->Nat):Nat->Nat
 | 0=>0
 | k+1=>ZfZ f k+f k
theorem ZiK{f g:Nat->Nat}(h:∀i,i<k->f i=g i):ZfZ f k=ZfZ g k:=by
 induction k with
 | zero=>rfl
 | succ k ih=>simp only[ZfZ,ih (λi hi=>h i (by omega)),h k (by omega)]
theorem Zf4{f g:Nat->Nat}{j:Nat}(hj:j<k)(h:∀i,i≠j->f i=g i)(hlt:f j<g j):ZfZ f k<ZfZ g k:=by
 induction k with
 | zero=>omega
 | succ k ih=>
  simp only[ZfZ]
  by_cases e:j=k
  ·subst e
   rw[ZiK (f:=f) (g:=g) (λi hi=>h i (by omega))]
   omega
  ·have:=ih (by omega)
   rw[h k (λk2=>e k2.symm)]
   omega
def Zr8(W:Nat->Bool):Nat->Nat:=ZfZ (λj=>if W j then 1 else 0)
theorem ZpT(W:Nat->Bool)(k:Nat):Zr8 W k<=k:=by
 unfold Zr8
 induction k with
 | zero=>exact Qb _
 | succ k ih=>simp only[ZfZ];split<;>omega
theorem ZnP(hp:p<k)(h:W p=true):Zr8 (λj=>if j=p then false else W j) k<Zr8 W k:=by
 refine Zf4 hp (λi hi=>by simp[hi]) ?_
 simp[h]
def mu(t:ZB)(n:Int)(L:Int->Int->Int)(W:Nat->Bool):Nat:=202*ZfZ (λk=>rank t n (L ((k/9:Nat):Int) (((k%9:Nat):Int)-1))) 1809+Zr8 W 201
theorem ZnQ(H:Zam t n)(hr:∀p d,Lv n (L p d))(hl:Lv n lev)(hp:p<201)(hd0:-1<=d)(hd:d<8)(hne:jn t n (L p d) lev≠L p d):mu t n (Zhq L p d (jn t n (L p d) lev)) (λj=>if j=p then true else W j)<mu t n L W:=by
 have hup:=ZpS H (hr p d) (H.jin _ _ (hr p d) hl) (H.jl _ _ (hr p d) hl) hne
 have hs:=Zf4 (f:=λk=>rank t n (Zhq L p d (jn t n (L p d) lev) ((k/9:Nat):Int) (((k%9:Nat):Int)-1))) (g:=λk=>rank t n (L ((k/9:Nat):Int) (((k%9:Nat):Int)-1))) (k:=1809) (j:=9*p+(d+1).toNat) (by omega) (λi hi=>by
  rw[ZaZ (λk=>hi (by have h1:=k.1;have h2:=k.2;omega))]) (by
  rw[show (9*p+(d+1).toNat)/9=p from by omega,show (((9*p+(d+1).toNat)%9:Nat):Int)-1=d from by omega,ZbN]
  exact hup)
 have h1:=ZpT (λj=>if j=p then true else W j) 201
 unfold mu
 omega
theorem Zrn(hp:p<201)(h:W p=true):mu t n L (λj=>if j=p then false else W j)<mu t n L W:=by
 have:=ZnP hp h
 unfold mu
 omega
theorem ZiL(H:Zam t n)(K:ZbT c v t n h L)(hH:Zr c h)
  (hv:∀i,0<=i->i<half c->bv c (2*i)=1->Lv n (bv v (bv c (2*i+1)))) (ha:∀i,0<=i->i<half c->bv c (2*i)=10->Lv n (bv c (2*i+1)))
  (all:∀i:Int,0<=i->i<half c->Live c i->Handed c v t n h L i) {a p d:Int} (hla:Lv n a) (hf:Flow c v h a p d):(d=-1∧¬p<half c)∨le t n a (L p d)=true:=by
 have plv:∀i,0<=i->i<half c->Lv n (Zav c v t n h L i):=λi h0 h1=>ZgC H K.rng (hv i h0 h1) (ha i h0 h1)
 refine hf (λp d=>(d=-1∧¬p<half c)∨le t n a (L p d)=true) ⟨λi j d hl he h0 h1 hp=>.inr ?_,λi j hl he hg hs=>.inr ?_,λi p hl h0 h1 h9 hp hR hp0 hp1=>?_⟩
 ·rcases hp with hp|hp
  ·omega
  ·exact H.trans _ _ _ hla (K.rng _ _) (K.rng _ _) hp (((all i he.1 he.2.1 hl).to j he.2.2).stay d h0 h1)
 ·refine H.trans _ _ _ hla (plv i he.1 he.2.1) (K.rng _ _) ?_ (((all i he.1 he.2.1 hl).to j he.2.2).push hg)
  have lt:=he.2.1
  have e:((i.toNat:Nat):Int)=i:=Qj he.1
  have hpops:=hH.pops i.toNat (by rw[e];exact lt) (by rw[e];exact hl)
  rw[e]at hpops
  have base:∀x,le t n a (L i (-1))=true->Lv n x->le t n a (jn t n (L i (-1)) x)=true:=λx h1 h2=>H.trans _ _ _ hla (K.rng _ _) (H.jin _ _ (K.rng _ _) h2) h1 (H.jl _ _ (K.rng _ _) h2)
  unfold Zav
  rcases hs with hs|⟨h1,h2⟩|⟨h1,h2⟩|⟨h1,h2⟩
  ·have hs:le t n a (L i (-1))=true:=by
    rcases hs with hs|hs
    ·omega
    ·exact hs
   split
   ·rename_i e;exact base _ hs (hv i he.1 lt e)
   ·split
    ·rename_i e;exact base _ hs (ha i he.1 lt e)
    ·split
     ·exact H.trans _ _ _ hla (H.jin _ _ (K.rng _ _) (K.rng _ _)) (H.jin _ _ (H.jin _ _ (K.rng _ _) (K.rng _ _)) (K.rng _ _)) (base _ hs (K.rng _ _)) (H.jl _ _ (H.jin _ _ (K.rng _ _) (K.rng _ _)) (K.rng _ _))
     ·exact hs
  ·rw[if_pos h1,h2];exact H.jr _ _ (K.rng _ _) hla
  ·rw[if_neg (by omega),if_pos h1,h2];exact H.jr _ _ (K.rng _ _) hla
  ·rw[if_neg (by omega),if_neg (by omega),if_pos h1]
   have ht:takesAt c i=2:=by
    unfold takesAt takesF
    rw[if_neg (by omega),if_neg (by omega)]
   have j1:=H.jin _ _ (K.rng i (-1)) (K.rng i (h i.toNat-1))
   rcases h2 with h2|h2
   ·rcases h2 with h2|h2
    ·omega
    ·exact H.trans _ _ _ hla j1 (H.jin _ _ j1 (K.rng _ _)) (H.trans _ _ _ hla (K.rng _ _) j1 h2 (H.jr _ _ (K.rng _ _) (K.rng _ _))) (H.jl _ _ j1 (K.rng _ _))
   ·rcases h2 with h2|h2
    ·omega
    ·exact H.trans _ _ _ hla (K.rng _ _) (H.jin _ _ j1 (K.rng _ _)) h2 (H.jr _ _ j1 (K.rng _ _))
 ·by_cases hpK:p<half c
  ·refine .inr ?_
   have jz:=H.jin _ _ (K.rng i (-1)) (K.rng i (h i.toNat-1))
   refine H.trans _ _ _ hla jz (K.rng _ _) ?_ ((all i h0 h1 hl).hide h9 p hp0 hpK hR)
   have e:((i.toNat:Nat):Int)=i:=Qj h0
   have hpops:=hH.pops i.toNat (by rw[e];exact h1) (by rw[e];exact hl)
   rw[e]at hpops
   have ht:takesAt c i=1:=by unfold takesAt takesF;rw[if_pos (by omega)]
   rcases hp with hp|hp
   ·rcases hp with hp|hp
    ·omega
    ·exact H.trans _ _ _ hla (K.rng _ _) jz hp (H.jl _ _ (K.rng _ _) (K.rng _ _))
   ·rcases hp with hp|hp
    ·omega
    ·exact H.trans _ _ _ hla (K.rng _ _) jz hp (H.jr _ _ (K.rng _ _) (K.rng _ _))
  ·exact .inl ⟨rfl,hpK⟩
theorem ZnR(K:ZbT c v t n h L)(hl:Live c i)(he:Edge c i j)(h0:0<=d)(h1:d<h i.toNat-takesAt c i):ZbU c v t n h j d (L i d):=
 ⟨K.rng _ _,λu hu ha=>K.sound i d u hu (λa hla hf=>ha a hla ((ZiH c v h a).stay i j d hl he h0 h1 hf))⟩
theorem ZnS(H:Zam t n)(K:ZbT c v t n h L)(hl:Live c i)(he:Edge c i j)(hg:givesAt c i=1)
  (hv:bv c (2*i)=1->Lv n (bv v (bv c (2*i+1)))) (ha:bv c (2*i)=10->Lv n (bv c (2*i+1))):ZbU c v t n h j (h i.toNat-takesAt c i) (Zav c v t n h L i):=by
 refine⟨ZgC H K.rng hv ha,λu hu hall=>?_⟩
 have src:∀a,Lv n a->Zlz c v h a (Flow c v h a) i->le t n a u=true:=λa hla hs=>hall a hla ((ZiH c v h a).push i j hl he hg hs)
 have b0:le t n (L i (-1)) u=true:=K.sound i (-1) u hu (λa hla hf=>src a hla (.inl hf))
 unfold Zav
 split
 ·rename_i e
  exact H.jm _ _ _ (K.rng _ _) (hv e) hu b0 (src _ (hv e) (.inr (.inl ⟨e,rfl⟩)))
 ·split
  ·rename_i e
   exact H.jm _ _ _ (K.rng _ _) (ha e) hu b0 (src _ (ha e) (.inr (.inr (.inl ⟨e,rfl⟩))))
  ·split
   ·rename_i e
    have b1:le t n (L i (h i.toNat-1)) u=true:=K.sound i _ u hu (λa hla hf=>src a hla (.inr (.inr (.inr ⟨e,.inl hf⟩))))
    have b2:le t n (L i (h i.toNat-2)) u=true:=K.sound i _ u hu (λa hla hf=>src a hla (.inr (.inr (.inr ⟨e,.inr hf⟩))))
    exact H.jm _ _ _ (H.jin _ _ (K.rng _ _) (K.rng _ _)) (K.rng _ _) hu (H.jm _ _ _ (K.rng _ _) (K.rng _ _) hu b0 b1) b2
   ·exact b0
theorem ZnT(H:Zam t n)(K:ZbT c v t n h L){p:Int}(hl:Live c i)(h0:0<=i)(h1:i<half c)(h9:bv c (2*i)=9)(hR:Reg c i p)(hp0:0<=p)(hp1:p<=half c):ZbU c v t n h p (-1) (zeroLev t n h L i):=by
 refine⟨H.jin _ _ (K.rng _ _) (K.rng _ _),λu hu hall=>?_⟩
 have src:∀a,Lv n a->(Flow c v h a i (-1)∨Flow c v h a i (h i.toNat-1))->le t n a u=true:=λa hla hs=>hall a hla ((ZiH c v h a).hide i p hl h0 h1 h9 hs hR hp0 hp1)
 exact H.jm _ _ _ (K.rng _ _) (K.rng _ _) hu (K.sound i _ u hu (λa hla hf=>src a hla (.inl hf))) (K.sound i _ u hu (λa hla hf=>src a hla (.inr hf)))
def ZcK(c v t:ZB)(n:Int)(h:Nat->Int)(L:Int->Int->Int)(i:Int):Bool:=
 if bv c (2*i)=2 then !(le t n (zeroLev t n h L i) (bv v (bv c (2*i+1))))
 else if bv c (2*i)=11 then !(le t n (zeroLev t n h L i) (bv c (2*i+1)))
 else if bv c (2*i)=10 then !(le t n (L i (-1)) (bv c (2*i+1)))
 else false
theorem ZnU(H:Zam t n)(K:ZbT c v t n h L)(hH:Zr c h)
  (hs:∀i,0<=i->i<half c->bv c (2*i)=2->Lv n (bv v (bv c (2*i+1)))) (ha:∀i,0<=i->i<half c->(bv c (2*i)=10∨bv c (2*i)=11)->Lv n (bv c (2*i+1)))
  (full:∀a p d,Lv n a->Flow c v h a p d->(d=-1∧¬p<half c)∨le t n a (L p d)=true) {i:Int} (h0:0<=i) (h1:i<half c) (hl:Live c i):ZcK c v t n h L i=true↔Breaks c v t n h i:=by
 have e:((i.toNat:Nat):Int)=i:=Qj h0
 have hpops:=hH.pops i.toNat (by rw[e];exact h1) (by rw[e];exact hl)
 rw[e]at hpops
 have f1:∀a,Lv n a->Flow c v h a i (-1)->le t n a (L i (-1))=true:=λa hla hf=>by
  rcases full a i (-1) hla hf with k|k
  ·omega
  ·exact k
 have key:∀u,Lv n u->(le t n (L i (-1)) u=true↔∀a,Lv n a->Flow c v h a i (-1)->le t n a u=true):=λu hu=>
  ⟨λk a hla hf=>H.trans _ _ _ hla (K.rng _ _) hu (f1 a hla hf) k,K.sound i (-1) u hu⟩
 have key2:∀u,Lv n u->1<=h i.toNat->(le t n (zeroLev t n h L i) u=true↔∀a,Lv n a->(Flow c v h a i (-1)∨Flow c v h a i (h i.toNat-1))->le t n a u=true):=λu hu hge=>by
  have jz:=H.jin _ _ (K.rng i (-1)) (K.rng i (h i.toNat-1))
  constructor
  ·intro k a hla hf
   rcases hf with hf|hf
   ·exact H.trans _ _ _ hla jz hu (H.trans _ _ _ hla (K.rng _ _) jz (f1 a hla hf) (H.jl _ _ (K.rng _ _) (K.rng _ _))) k
   ·rcases full a i _ hla hf with k2|k2
    ·omega
    ·exact H.trans _ _ _ hla jz hu (H.trans _ _ _ hla (K.rng _ _) jz k2 (H.jr _ _ (K.rng _ _) (K.rng _ _))) k
  ·intro k
   exact H.jm _ _ _ (K.rng _ _) (K.rng _ _) hu (K.sound i _ u hu (λa hla hf=>k a hla (.inl hf))) (K.sound i _ u hu (λa hla hf=>k a hla (.inr hf)))
 have two:∀u,Lv n u->Zae c v i=u->ZcH c i=true->1<=h i.toNat->((!(le t n (zeroLev t n h L i) u))=true↔Breaks c v t n h i):=λu hu hto hval hge=>by
  constructor
  ·intro k
   by_cases hb:∃a,Lv n a∧le t n a u=false∧(Flow c v h a i (-1)∨Flow c v h a i (h i.toNat-1))
   ·obtain⟨a,hla,hle,hf⟩:=hb
    refine⟨⟨h0,h1⟩,hl,by rw[hto];exact hu.1,a,hla,by rw[hto];exact hle,?_⟩
    rcases hf with hf|hf
    ·exact .inl hf
    ·exact .inr ⟨hval,hf⟩
   ·exfalso
    have:=(key2 u hu hge).2 (λa hla hf=>by
     cases hle:le t n a u
     ·exact absurd ⟨a,hla,hle,hf⟩ hb
     ·rfl)
    rw[this]at k
    exact absurd k (by simp)
  ·rintro⟨_,_,_,a,hla,hle,hf⟩
   rw[hto]at hle
   cases hz:le t n (zeroLev t n h L i) u
   ·rfl
   ·have:=(key2 u hu hge).1 hz a hla (by rcases hf with hf|⟨_,hf⟩;exact .inl hf;exact .inr hf)
    rw[this]at hle
    exact absurd hle (by simp)
 unfold ZcK
 by_cases o2:bv c (2*i)=2
 ·rw[if_pos o2]
  refine two _ (hs i h0 h1 o2) (by unfold Zae;rw[if_pos o2]) (by unfold ZcH;exact Qv (.inl o2)) ?_
  have:takesAt c i=1:=by unfold takesAt takesF;rw[if_pos (by omega)]
  omega
 ·rw[if_neg o2]
  by_cases o11:bv c (2*i)=11
  ·rw[if_pos o11]
   refine two _ (ha i h0 h1 (.inr o11)) (by unfold Zae;rw[if_neg o2,if_pos (.inr o11)]) (by unfold ZcH;exact Qv (.inr o11)) ?_
   have:takesAt c i=1:=by unfold takesAt takesF;rw[if_pos (by omega)]
   omega
  ·rw[if_neg o11]
   by_cases o10:bv c (2*i)=10
   ·rw[if_pos o10]
    have hto:Zae c v i=bv c (2*i+1):=by unfold Zae;rw[if_neg o2,if_pos (.inl o10)]
    have hval:ZcH c i=false:=by unfold ZcH;exact Qx (by omega)
    have hu:=ha i h0 h1 (.inl o10)
    constructor
    ·intro k
     by_cases hb:∃a,Lv n a∧le t n a (bv c (2*i+1))=false∧Flow c v h a i (-1)
     ·obtain⟨a,hla,hle,hf⟩:=hb
      exact⟨⟨h0,h1⟩,hl,by rw[hto];exact hu.1,a,hla,by rw[hto];exact hle,.inl hf⟩
     ·exfalso
      have:=(key _ hu).2 (λa hla hf=>by
       cases hle:le t n a (bv c (2*i+1))
       ·exact absurd ⟨a,hla,hle,hf⟩ hb
       ·rfl)
      rw[this]at k
      exact absurd k (by simp)
    ·rintro⟨_,_,_,a,hla,hle,hf⟩
     rw[hto]at hle
     rw[hval]at hf
     cases hz:le t n (L i (-1)) (bv c (2*i+1))
     ·rfl
     ·have:=(key _ hu).1 hz a hla (by rcases hf with hf|⟨k,_⟩;exact hf;exact absurd k (by simp))
      rw[this]at hle
      exact absurd hle (by simp)
   ·rw[if_neg o10]
    constructor
    ·intro k;exact absurd k (by simp)
    ·rintro⟨_,_,hs0,_⟩
     have:Zae c v i=-1:=by unfold Zae;rw[if_neg o2,if_neg (by omega)]
     omega
structure ZP(w:World)(b:Nat)(n:Int)(t v c:ZB)(hb:Nat)(R:Nat->Nat->Bool)(L:Int->Int->Int)(W:Nat->Bool):Prop where
 lt:b<w.heap.size
 c0:w.cell? ⟨b,0,none⟩=some (.int .i64 n)
 c1:w.cell? ⟨b,1,none⟩=some (.string t)
 c2:w.cell? ⟨b,2,none⟩=some (.string v)
 c3:w.cell? ⟨b,3,none⟩=some (.string c)
 hp:w.cell? ⟨b,4,none⟩=some (.pointer (some ⟨hb,0,none⟩))
 r:∀i j:Nat,i<201->j<201->w.cell? ⟨b,5+i*201+j,none⟩=some (.bool (R i j))
 pl:∀j:Nat,j<201->w.cell? ⟨b,40406+j,none⟩=some (.int .i64 (L j (-1)))
 vl:∀j d:Nat,j<201->d<8->w.cell? ⟨b,40607+j*8+d,none⟩=some (.int .i64 (L j d))
 wt:∀j:Nat,j<201->w.cell? ⟨b,42215+j,none⟩=some (.bool (W j))
 f:∀j:Nat,j<42416->w.frozen? ⟨b,j,none⟩=false
theorem ZP.frame(h:ZP w b n t v c hb R L W)(hs:w.heap.size<=w1.heap.size)(e:∀j,w1.cell? ⟨b,j,none⟩=w.cell? ⟨b,j,none⟩)(ef:∀j,w1.frozen? ⟨b,j,none⟩=w.frozen? ⟨b,j,none⟩):ZP w1 b n t v c hb R L W:=
 ⟨Qq h.lt hs,by rw[e];exact h.c0,by rw[e];exact h.c1,by rw[e];exact h.c2,by rw[e];exact h.c3,by rw[e];exact h.hp,λi j hi hj=>by rw[e];exact h.r i j hi hj,λj hj=>by rw[e];exact h.pl j hj,λj d hj hd=>by rw[e];exact h.vl j d hj hd,λj hj=>by rw[e];exact h.wt j hj,λj hj=>by rw[ef];exact h.f j hj⟩
theorem ZP.step(h:ZP w b n t v c hb R L W)(hB:Below w.heap.size w w1):ZP w1 b n t v c hb R L W:=
 h.frame hB.size (λj=>hB.cell (p:=⟨b,j,none⟩) h.lt) (λj=>hB.frozen (p:=⟨b,j,none⟩) h.lt)
theorem ZP.setP(h:ZP w b n t v c hb R L W)(p:Nat)(hp:p<201)(x:Int):ZP (w.setCell ⟨b,40406+p,none⟩ (.int .i64 x)) b n t v c hb R (Zhq L p (-1) x) W:=by
 refine⟨by simpa using h.lt,?_,?_,?_,?_,?_,λi j hi hj=>?_,λj hj=>?_,λj d hj hd=>?_,λj hj=>?_,λj hj=>by rw[World.frozen?_setCell];exact h.f j hj⟩
 ·rw[Zf _ _ _ _ _ (by omega)];exact h.c0
 ·rw[Zf _ _ _ _ _ (by omega)];exact h.c1
 ·rw[Zf _ _ _ _ _ (by omega)];exact h.c2
 ·rw[Zf _ _ _ _ _ (by omega)];exact h.c3
 ·rw[Zf _ _ _ _ _ (by omega)];exact h.hp
 ·rw[Zf _ _ _ _ _ (by omega)];exact h.r i j hi hj
 ·by_cases e:j=p
  ·subst e;rw[ZbN];exact Qk _ _ _ (h.pl j hj)
  ·rw[Zf _ _ _ _ _ (by omega),ZaZ (by omega)];exact h.pl j hj
 ·rw[Zf _ _ _ _ _ (by omega),ZaZ (by omega)];exact h.vl j d hj hd
 ·rw[Zf _ _ _ _ _ (by omega)];exact h.wt j hj
theorem ZP.setV(h:ZP w b n t v c hb R L W)(p d:Nat)(hp:p<201)(hd:d<8)(x:Int):ZP (w.setCell ⟨b,40607+p*8+d,none⟩ (.int .i64 x)) b n t v c hb R (Zhq L p d x) W:=by
 refine⟨by simpa using h.lt,?_,?_,?_,?_,?_,λi j hi hj=>?_,λj hj=>?_,λj e hj he=>?_,λj hj=>?_,λj hj=>by rw[World.frozen?_setCell];exact h.f j hj⟩
 ·rw[Zf _ _ _ _ _ (by omega)];exact h.c0
 ·rw[Zf _ _ _ _ _ (by omega)];exact h.c1
 ·rw[Zf _ _ _ _ _ (by omega)];exact h.c2
 ·rw[Zf _ _ _ _ _ (by omega)];exact h.c3
 ·rw[Zf _ _ _ _ _ (by omega)];exact h.hp
 ·rw[Zf _ _ _ _ _ (by omega)];exact h.r i j hi hj
 ·rw[Zf _ _ _ _ _ (by omega),ZaZ (by omega)];exact h.pl j hj
 ·by_cases k:j=p∧e=d
  ·obtain⟨rfl,rfl⟩:=k;rw[ZbN];exact Qk _ _ _ (h.vl j e hj he)
  ·rw[Zf _ _ _ _ _ (by omega),ZaZ (by omega)];exact h.vl j e hj he
 ·rw[Zf _ _ _ _ _ (by omega)];exact h.wt j hj
theorem ZP.setW(h:ZP w b n t v c hb R L W)(p:Nat)(hp:p<201)(x:Bool):ZP (w.setCell ⟨b,42215+p,none⟩ (.bool x)) b n t v c hb R L (λj=>if j=p then x else W j):=by
 refine⟨by simpa using h.lt,?_,?_,?_,?_,?_,λi j hi hj=>?_,λj hj=>?_,λj e hj he=>?_,λj hj=>?_,λj hj=>by rw[World.frozen?_setCell];exact h.f j hj⟩
 ·rw[Zf _ _ _ _ _ (by omega)];exact h.c0
 ·rw[Zf _ _ _ _ _ (by omega)];exact h.c1
 ·rw[Zf _ _ _ _ _ (by omega)];exact h.c2
 ·rw[Zf _ _ _ _ _ (by omega)];exact h.c3
 ·rw[Zf _ _ _ _ _ (by omega)];exact h.hp
 ·rw[Zf _ _ _ _ _ (by omega)];exact h.r i j hi hj
 ·rw[Zf _ _ _ _ _ (by omega)];exact h.pl j hj
 ·rw[Zf _ _ _ _ _ (by omega)];exact h.vl j e hj he
 ·by_cases k:j=p
  ·subst k;rw[if_pos rfl];exact Qk _ _ _ (h.wt j hj)
  ·rw[Zf _ _ _ _ _ (by omega),if_neg k];exact h.wt j hj
theorem ZP.wait(h:ZP w b n t v c hb R L W):Zal w b 42215 W:=⟨h.lt,h.wt,λj hj=>h.f _ (by omega)⟩
theorem ZP.reg(h:ZP w b n t v c hb R L W)(i:Nat)(hi:i<201):Zal w b (5+i*201) (R i):=⟨h.lt,λj hj=>h.r i j hi hj,λj hj=>h.f _ (by omega)⟩
theorem Zda(b:Nat)(n:Int)(t v c:ZB)(hb:Nat)(R:Nat->Nat->Bool)(L:Int->Int->Int)(W:Nat->Bool)(p:Nat)(w:World)(H:ZP w b n t v c hb R L W)(hp:p<201) :
  Calls prog 186 #[.pointer (some ⟨b,0,none⟩),.int .i64 p] w λe w'=>e=.returned (.int .i64 (L p (-1)))∧w'=w:=by
 have hc:=H.pl p hp
 have hp2:(p:Int)<201:=by omega
 clear H
 go_enter func186,ntmps186
 go_wp2
 go_ret
 exact⟨rfl,rfl⟩
theorem ZeX(b:Nat)(n:Int)(t v c:ZB)(hb:Nat)(R:Nat->Nat->Bool)(L:Int->Int->Int)(W:Nat->Bool)(p d:Nat)(w:World)(H:ZP w b n t v c hb R L W)(hp:p<201)(hd:d<8) :
  Calls prog 222 #[.pointer (some ⟨b,0,none⟩),.int .i64 p,.int .i64 d] w λe w'=>e=.returned (.int .i64 (L p d))∧w'=w:=by
 have hc:=H.vl p d hp hd
 have hp2:(p:Int)<201:=by omega
 have hd2:(d:Int)<8:=by omega
 clear H
 go_enter func222,ntmps222
 go_wp2
 go_ret
 exact⟨rfl,rfl⟩
theorem ZhG(b:Nat)(n:Int)(t v c:ZB)(hb:Nat)(R:Nat->Nat->Bool)(L:Int->Int->Int)(W:Nat->Bool)(p z:Nat)(w:World)(H:ZP w b n t v c hb R L W)(hp:p<201)(hz:z<201) :
  Calls prog 233 #[.pointer (some ⟨b,0,none⟩),.int .i64 p,.int .i64 z] w λe w'=>e=.returned (.bool (R z p))∧w'=w:=by
 have hz2:(z:Int)<201:=by omega
 go_enter func233,ntmps233
 go_wp2_with fail
 refine(Za1 b (5+z*201) (R z) p w (H.reg z hz) hp).mono ?_
 rintro e w1 ⟨rfl,rfl⟩
 go_wp2
 go_ret
 exact⟨rfl,rfl⟩
structure Zq9(t:ZB)(n:Int):Prop where
 tab:Tab t n
 ord:ZaY t n=true
 lat:Zam t n
theorem ZaS(b:Nat)(n x y:Int)(t v c:ZB)(hb:Nat)(R:Nat->Nat->Bool)(L:Int->Int->Int)(W:Nat->Bool)(w:World)(H:ZP w b n t v c hb R L W)(hT:Zq9 t n)(hx:Lv n x)(hy:Lv n y) :
  Calls prog 187 #[.pointer (some ⟨b,0,none⟩),.int .i64 x,.int .i64 y] w λe w'=>e=.returned (.int .i64 (jn t n x y))∧Below w.heap.size w w':=by
 have q0:=H.c0
 have q1:=H.c1
 have hj:Kp ((Zcm t n x y).getD 0=jn t n x y):=⟨by unfold jn;rw[Zdr hT.ord]⟩
 have hC:=λw1=>ZeM hT.tab x y w1 hx.1 hx.2 hy.1 hy.2
 clear H hT hx hy
 go_enter func187,ntmps187
 go_wp2_with fail
 refine(hC _).mono ?_
 rintro e w1 ⟨rfl,hb1⟩
 rw[hj.out]
 generalize (Zcm t n x y).isSome=g
 go_wp2
 go_ret
 exact⟨rfl,hb1⟩
theorem ZbY(b k d:Nat)(n:Int)(t v c:ZB)(hb:Nat)(R:Nat->Nat->Bool)(L:Int->Int->Int)(W:Nat->Bool)(m:Nat->Bool)(h:Nat->Int)(p:Nat)(w:World)(H:ZP w b n t v c hb R L W)(hH:ZeG w hb m h)(hp:p<201)(hd:h p-k=d)(h8:d<8)(hk:k<=2) :
  Calls prog 188 #[.pointer (some ⟨b,0,none⟩),.int .i64 p,.int .i64 k] w λe w'=>e=.returned (.int .i64 (L p (h p-k)))∧w'=w:=by
 have q:=H.hp
 rw[hd]
 have hy:h p=d+k:=by omega
 clear hd
 go_enter func188,ntmps188
 go_wp2_with fail
 refine(Zo7 hb m h p w hH hp).mono ?_
 rintro e w1 ⟨rfl,rfl⟩
 rw[hy]
 go_wp2_with fail
 refine(ZeX b n t v c hb R L W p d _ H hp h8).mono ?_
 rintro e w1 ⟨rfl,rfl⟩
 go_wp2
 go_ret
 exact⟨rfl,rfl⟩
structure Ris(c v t:ZB)(n:Int)(h:Nat->Int)(L:Int->Int->Int)(W:Nat->Bool)(L':Int->Int->Int)(W':Nat->Bool):Prop where
 rise:Rise t n L W L' W'
 ok:ZbT c v t n h L'
 mu:mu t n L' W'<=mu t n L W
 wl:∀j:Nat,W' j=true->W j=true∨((j:Int)<=half c∧Live c j)
theorem Ris.refl(H:Zam t n)(K:ZbT c v t n h L):Ris c v t n h L W L W:=⟨Rise.refl H K.rng,K,Qb _,λ_ h=>.inl h⟩
theorem Ris.trans{L'':Int->Int->Int}{W'':Nat->Bool}(H:Zam t n)(K:ZbT c v t n h L)(a:Ris c v t n h L W L' W')(b:Ris c v t n h L' W' L'' W''):Ris c v t n h L W L'' W'':=
 ⟨a.rise.trans H K.rng a.ok.rng b.ok.rng b.rise,b.ok,Qg b.mu a.mu,λj hj=>by
  rcases b.wl j hj with k|k
  ·exact a.wl j k
  ·exact .inr k⟩
theorem Ris.raise(H:Zam t n)(K:ZbT c v t n h L)(hm:ZbU c v t n h p d lev)(hp:p<201)(hpK:(p:Int)<=half c)(hl:Live c p)(hd0:-1<=d)(hd:d<8)(hne:jn t n (L p d) lev≠L p d):Ris c v t n h L W (Zhq L p d (jn t n (L p d) lev)) (λj=>if j=p then true else W j):=
 ⟨Rise.raise H K.rng hm.1,K.raise H hm,Uf (ZnQ H K.rng hm.1 hp hd0 hd hne),λj hj=>by
  by_cases e:j=p
  ·subst e;exact .inr ⟨hpK,hl⟩
  ·simp[e]at hj;exact .inl hj⟩
def Zit(b:Nat)(n:Int)(t v c:ZB)(hb:Nat)(R:Nat->Nat->Bool)(h:Nat->Int)(L:Int->Int->Int)(W:Nat->Bool)(p d lev:Int)(w:World)(e:Ending)(w':World):Prop:=
 ∃(L':Int->Int->Int) (W':Nat->Bool),e=.returned (.tuple #[])∧ZP w' b n t v c hb R L' W'∧But b w.heap.size w w'∧Kp (Ris c v t n h L W L' W'∧le t n lev (L' p d)=true)
theorem ZkM(b:Nat)(n lev:Int)(t v c:ZB)(hb:Nat)(R:Nat->Nat->Bool)(h:Nat->Int)(L:Int->Int->Int)(W:Nat->Bool)(p:Nat)(w:World)(H:ZP w b n t v c hb R L W)(hT:Zq9 t n)(K:Kp (ZbT c v t n h L))(hm:Kp (ZbU c v t n h p (-1) lev))(hp:p<201)(hpK:Kp ((p:Int)<=half c∧Live c p)) :
  Calls prog 234 #[.pointer (some ⟨b,0,none⟩),.int .i64 p,.int .i64 lev] w (Zit b n t v c hb R h L W p (-1) lev w):=by
 have hp2:(p:Int)<201:=by omega
 have q:=H.pl p hp
 go_enter func234,ntmps234
 go_wp2_with fail
 refine(ZaS b n (L p (-1)) lev t v c hb R L W w H hT (K.out.rng _ _) hm.out.1).mono ?_
 rintro e w1 ⟨rfl,hb1⟩
 have H1:=H.step hb1
 have hB1:But b w.heap.size w w1:=But.of hb1
 clear q H hb1
 have q:=H1.pl p hp
 have qf:=H1.f (40406+p) (by omega)
 by_cases hne:jn t n (L p (-1)) lev=L p (-1)
 ·have hR:Kp (Ris c v t n h L W L W∧le t n lev (L p (-1))=true):=⟨Ris.refl hT.lat K.out,by have:=hT.lat.jr _ _ (K.out.rng p (-1)) hm.out.1;rwa [hne]at this⟩
  rw[hne]
  go_wp2_with fail
  first|go_end0|refine Qi (Qp rfl _ _ _) rfl ?_
  exact⟨L,W,rfl,H1,hB1,hR⟩
 ·have hR:Kp (Ris c v t n h L W (Zhq L p (-1) (jn t n (L p (-1)) lev)) (λj=>if j=p then true else W j)∧le t n lev (Zhq L p (-1) (jn t n (L p (-1)) lev) p (-1))=true):=⟨Ris.raise hT.lat K.out hm.out hp hpK.out.1 hpK.out.2 (by omega) (by omega) hne,by rw[ZbN];exact hT.lat.jr _ _ (K.out.rng p (-1)) hm.out.1⟩
  have hne2:(jn t n (L p (-1)) lev != L p (-1))=true:=by simpa using hne
  have H2:=H1.setP p hp (jn t n (L p (-1)) lev)
  have hB2:=hB1.setCell (40406+p) (.int .i64 (jn t n (L p (-1)) lev))
  obtain⟨w2,hw2⟩:∃w2,w1.setCell ⟨b,40406+p,none⟩ (.int .i64 (jn t n (L p (-1)) lev))=w2:=⟨_,rfl⟩
  rw[hw2]at H2 hB2
  generalize jn t n (L p (-1)) lev=z at *
  clear hne H1 hB1
  cases hW:W p with
  | true=>
   have hWW:(λj=>if j=p then true else W j)=W:=by funext j;by_cases e:j=p<;>simp[e,hW]
   rw[hWW]at hR
   go_wp2_with fail
   refine(Ze2 b 42215 W p w2 H2.wait hp hW).mono ?_
   rintro e w3 ⟨rfl,rfl⟩
   go_wp2_with fail
   first|go_end0|refine Qi (Qp rfl _ _ _) rfl ?_
   exact⟨_,W,rfl,H2,hB2,hR⟩
  | false=>
   go_wp2_with fail
   refine(Ze3 b 42215 W p w2 H2.wait hp hW).mono ?_
   rintro e w3 ⟨rfl,hw3⟩
   have H3:=H2.setW p hp true
   have hB3:=hB2.setCell (42215+p) (.bool true)
   rw[<-hw3]at H3 hB3
   clear hw3 H2 hB2
   go_wp2_with fail
   first|go_end0|refine Qi (Qp rfl _ _ _) rfl ?_
   exact⟨_,_,rfl,H3,hB3,hR⟩
theorem Zf5(b:Nat)(n lev:Int)(t v c:ZB)(hb:Nat)(R:Nat->Nat->Bool)(h:Nat->Int)(L:Int->Int->Int)(W:Nat->Bool)(p d:Nat)(w:World)(H:ZP w b n t v c hb R L W)(hT:Zq9 t n)(K:Kp (ZbT c v t n h L))(hm:Kp (ZbU c v t n h p d lev))(hp:p<201)(hd:d<8)(hpK:Kp ((p:Int)<=half c∧Live c p)) :
  Calls prog 231 #[.pointer (some ⟨b,0,none⟩),.int .i64 p,.int .i64 d,.int .i64 lev] w (Zit b n t v c hb R h L W p d lev w):=by
 have hp2:(p:Int)<201:=by omega
 have hd2:(d:Int)<8:=by omega
 have q:=H.vl p d hp hd
 go_enter func231,ntmps231
 go_wp2_with fail
 refine(ZaS b n (L p d) lev t v c hb R L W w H hT (K.out.rng _ _) hm.out.1).mono ?_
 rintro e w1 ⟨rfl,hb1⟩
 have H1:=H.step hb1
 have hB1:But b w.heap.size w w1:=But.of hb1
 clear q H hb1
 have q:=H1.vl p d hp hd
 have qf:=H1.f (40607+p*8+d) (by omega)
 by_cases hne:jn t n (L p d) lev=L p d
 ·have hR:Kp (Ris c v t n h L W L W∧le t n lev (L p d)=true):=⟨Ris.refl hT.lat K.out,by have:=hT.lat.jr _ _ (K.out.rng p d) hm.out.1;rwa [hne]at this⟩
  rw[hne]
  go_wp2_with fail
  first|go_end0|refine Qi (Qp rfl _ _ _) rfl ?_
  exact⟨L,W,rfl,H1,hB1,hR⟩
 ·have hR:Kp (Ris c v t n h L W (Zhq L p d (jn t n (L p d) lev)) (λj=>if j=p then true else W j)∧le t n lev (Zhq L p d (jn t n (L p d) lev) p d)=true):=⟨Ris.raise hT.lat K.out hm.out hp hpK.out.1 hpK.out.2 (by omega) (by omega) hne,by rw[ZbN];exact hT.lat.jr _ _ (K.out.rng p d) hm.out.1⟩
  have hne2:(jn t n (L p d) lev != L p d)=true:=by simpa using hne
  have H2:=H1.setV p d hp hd (jn t n (L p d) lev)
  have hB2:=hB1.setCell (40607+p*8+d) (.int .i64 (jn t n (L p d) lev))
  obtain⟨w2,hw2⟩:∃w2,w1.setCell ⟨b,40607+p*8+d,none⟩ (.int .i64 (jn t n (L p d) lev))=w2:=⟨_,rfl⟩
  rw[hw2]at H2 hB2
  generalize jn t n (L p d) lev=z at *
  clear hne H1 hB1
  cases hW:W p with
  | true=>
   have hWW:(λj=>if j=p then true else W j)=W:=by funext j;by_cases e:j=p<;>simp[e,hW]
   rw[hWW]at hR
   go_wp2_with fail
   refine(Ze2 b 42215 W p w2 H2.wait hp hW).mono ?_
   rintro e w3 ⟨rfl,rfl⟩
   go_wp2_with fail
   first|go_end0|refine Qi (Qp rfl _ _ _) rfl ?_
   exact⟨_,W,rfl,H2,hB2,hR⟩
  | false=>
   go_wp2_with fail
   refine(Ze3 b 42215 W p w2 H2.wait hp hW).mono ?_
   rintro e w3 ⟨rfl,hw3⟩
   have H3:=H2.setW p hp true
   have hB3:=hB2.setCell (42215+p) (.bool true)
   rw[<-hw3]at H3 hB3
   clear hw3 H2 hB2
   go_wp2_with fail
   first|go_end0|refine Qi (Qp rfl _ _ _) rfl ?_
   exact⟨_,_,rfl,H3,hB3,hR⟩
structure Zdj(c v t:ZB)(n:Int)(h:Nat->Int):Prop where
 hc:c.size<=maxLen
 hv:v.size<=maxLen
 hK:half c<=200
 ok:Zc8 c v n=true
 vars:∀k:Int,0<=k->k<v.size->Lv n (bv v k)
 ht:Zr c h
 lat:Zq9 t n
structure ZsL(c v:ZB)(n i:Int):Prop where
 hi:bv c (2*i)<=11
 vr:bv c (2*i)=1∨bv c (2*i)=2->bv c (2*i+1)<v.size∧Lv n (bv v (bv c (2*i+1)))
 lv:bv c (2*i)=10∨bv c (2*i)=11->Lv n (bv c (2*i+1))
theorem Zdj.ins(F:Zdj c v t n h)(h0:0<=i)(h1:i<half c):ZsL c v n i:=by
 have hok:=QB (Zo5 F.ok h0 h1)
 have hb:=Zag c (2*i+1)
 refine⟨by omega,λk=>?_,λk=>⟨hb.1,by omega⟩⟩
 have:bv c (2*i+1)<v.size:=by omega
 exact⟨this,F.vars _ hb.1 this⟩
theorem Zdj.pops(F:Zdj c v t n h){i:Nat}(h1:(i:Int)<half c)(hl:Live c i):takesAt c i<=h i∧0<=h i∧h i<=8:=
 ⟨F.ht.pops i h1 hl,F.ht.rng i (by omega) hl⟩
theorem ZkN(b:Nat)(n:Int)(t v c:ZB)(hb:Nat)(R:Nat->Nat->Bool)(L:Int->Int->Int)(W:Nat->Bool)(m:Nat->Bool)(h:Nat->Int)(p:Nat)(w:World)(H:ZP w b n t v c hb R L W)(hH:ZeG w hb m h)(F:Kp (Zdj c v t n h))(hr:Kp (∀p d,Lv n (L p d)))(hp:(p:Int)<half c)(hl:Kp (Live c p)) :
  Calls prog 232 #[.pointer (some ⟨b,0,none⟩),.int .i64 p] w λe w'=>e=.returned (.int .i64 (Zav c v t n h L p))∧Below w.heap.size w w':=by
 have hK:=F.out.hK
 have hc:=F.out.hc
 have hv:=F.out.hv
 have hI:=F.out.ins (i:=p) (by omega) hp
 have hP:=F.out.pops hp hl.out
 have hT:=F.out.lat
 have ho:=Zag c (2*p)
 have q0:=H.c0
 have q1:=H.c1
 have q2:=H.c2
 have q3:=H.c3
 have hpush:Kp (Zav c v t n h L p=if bv c (2*p)=1 then jn t n (L p (-1)) (bv v (bv c (2*p+1))) else if bv c (2*p)=10 then jn t n (L p (-1)) (bv c (2*p+1)) else if 3<=bv c (2*p)∧bv c (2*p)<=7 then jn t n (jn t n (L p (-1)) (L p (h p-1))) (L p (h p-2)) else L p (-1)):=⟨rfl⟩
 have htk:Kp (3<=bv c (2*p)∧bv c (2*p)<=7->2<=h p):=⟨λk=>by
  have:takesAt c p=2:=by unfold takesAt takesF;rw[if_neg (by omega),if_neg (by omega)]
  omega⟩
 have i1:=hI.hi
 have i2:Kp _:=⟨hI.vr⟩
 have i3:Kp _:=⟨hI.lv⟩
 have ha0:=(Zag c (2*p+1)).1
 clear hI F hl
 go_enter func232,ntmps232
 go_wp2_with fail
 refine(Za7 n p t v c _ hc (by omega) hp).mono ?_
 rintro e w1 ⟨rfl,hb1⟩
 have H1:=H.step hb1
 have hH1:=hH.step hb1
 clear q0 q1 q2 q3 H hH
 go_wp2_with fail
 refine(Zda b n t v c hb R L W p _ H1 (by omega)).mono ?_
 rintro e w2 ⟨rfl,rfl⟩
 obtain⟨op,hop⟩:∃op,bv c (2*p)=op:=⟨_,rfl⟩
 obtain⟨arg,harg⟩:∃arg,bv c (2*p+1)=arg:=⟨_,rfl⟩
 rw[hop]at hpush htk i1 i2 i3 ho ⊢
 rw[harg]at hpush i2 i3 ha0 ⊢
 clear hop harg
 have q0:=H1.c0
 have q1:=H1.c1
 have q2:=H1.c2
 have q3:=H1.c3
 obtain⟨o0,_⟩:=ho
 have hcs:op=1∨op=10∨(op=0∨op=2∨op=8∨op=9∨op=11)∨(op=3∨op=4∨op=5∨op=6∨op=7):=by omega
 rcases hcs with rfl|rfl|hcs|hcs
 ·obtain⟨a1,a2⟩:=i2.out (.inl rfl)
  have hpl:=hpush.out
  rw[if_pos rfl]at hpl
  replace hpl:=Z_ hpl
  clear htk hpush i2 i3
  go_wp2_with fail
  refine(ZhL n arg t v c _ hv ha0 a1).mono ?_
  rintro e w3 ⟨rfl,hb3⟩
  have H3:=H1.step hb3
  have hbb:=hb1.trans (hb3.mono hb1.size)
  clear q0 q1 q2 q3 H1 hH1 hb3
  go_wp2_with fail
  refine(ZaS b n (L p (-1)) (bv v arg) t v c hb R L W _ H3 hT (hr.out _ _) a2).mono ?_
  rintro e w4 ⟨rfl,hb4⟩
  go_wp2
  go_ret
  exact⟨ZR hpl.out.symm,hbb.trans (hb4.mono hbb.size)⟩
 ·have a2:=i3.out (.inl rfl)
  have hpl:=hpush.out
  rw[if_neg (by decide),if_pos rfl]at hpl
  replace hpl:=Z_ hpl
  clear htk hpush i2 i3
  go_wp2_with fail
  refine(ZaS b n (L p (-1)) arg t v c hb R L W _ H1 hT (hr.out _ _) a2).mono ?_
  rintro e w4 ⟨rfl,hb4⟩
  go_wp2
  go_ret
  exact⟨ZR hpl.out.symm,hb1.trans (hb4.mono hb1.size)⟩
 ·have hpl:=hpush.out
  rw[if_neg (by omega),if_neg (by omega),if_neg (by omega)]at hpl
  replace hpl:=Z_ hpl
  clear htk hpush i2 i3
  rcases hcs with rfl|rfl|rfl|rfl|rfl
  all_goals
   go_wp2
   go_ret
   exact⟨ZR hpl.out.symm,hb1⟩
 ·have hpl:=hpush.out
  rw[if_neg (by omega),if_neg (by omega),if_pos (by omega)]at hpl
  replace hpl:=Z_ hpl
  have h2:=htk.out (by omega)
  obtain⟨_,h0,h8⟩:=hP
  obtain⟨d1,hd1⟩:∃d1:Nat,h p-((1:Nat):Int)=d1:=⟨(h p-1).toNat,by omega⟩
  obtain⟨d2,hd2⟩:∃d2:Nat,h p-((2:Nat):Int)=d2:=⟨(h p-2).toNat,by omega⟩
  have hd1':d1<8:=by omega
  have hd2':d2<8:=by omega
  clear htk hpush i2 i3
  rcases hcs with rfl|rfl|rfl|rfl|rfl
  all_goals
   go_wp2_with fail
   refine(ZbY b 1 d1 n t v c hb R L W m h p _ H1 hH1 (by omega) hd1 hd1' (by omega)).mono ?_
   rintro e w3 ⟨rfl,rfl⟩
   go_wp2_with fail
   refine(ZaS b n (L p (-1)) (L p (h p-((1:Nat):Int))) t v c hb R L W _ H1 hT (hr.out _ _) (hr.out _ _)).mono ?_
   rintro e w4 ⟨rfl,hb4⟩
   have H4:=H1.step hb4
   have hH4:=hH1.step hb4
   have hbb:=hb1.trans (hb4.mono hb1.size)
   go_wp2_with fail
   refine(ZbY b 2 d2 n t v c hb R L W m h p _ H4 hH4 (by omega) hd2 hd2' (by omega)).mono ?_
   rintro e w5 ⟨rfl,rfl⟩
   go_wp2_with fail
   refine(ZaS b n (jn t n (L p (-1)) (L p (h p-((1:Nat):Int)))) (L p (h p-((2:Nat):Int))) t v c hb R L W _ H4 hT (hT.lat.jin _ _ (hr.out _ _) (hr.out _ _)) (hr.out _ _)).mono ?_
   rintro e w6 ⟨rfl,hb6⟩
   go_wp2
   go_ret
   exact⟨ZR hpl.out.symm,hbb.trans (hb6.mono hbb.size)⟩
end Go.Proofs.YtcnbifdlkalimabGreat
