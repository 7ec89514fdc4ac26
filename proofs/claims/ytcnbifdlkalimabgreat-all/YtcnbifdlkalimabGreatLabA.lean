/- Lemmas; their conditions stand in each. -/
import Derived.Test.YtcnbifdlkalimabGreatWayB
import Derived.Test.YtcnbifdlkalimabGreatPlnB
namespace Go.Proofs.YtcnbifdlkalimabGreat
open Go.RowKit Go.Proofs.Tryz
variable{d i j lev n x y:Int}{L L':Int->Int->Int}{b hb k p:Nat}{W W' m m':Nat->Bool}{h h':Nat->Int}{R:Nat->Nat->Bool}{w w1:World}{c t v:ZB}
structure FT(c:ZB)(m:Nat->Bool)(h:Nat->Int)(p:Nat)(y:Int):Prop where
 hi:(p:Int)<=half c
 live:Aq c p
 lo:0<=y
 up:y<=9
 fit:∀f,Zj c f->f p=y∧∀j,m j=true->h j=f j
structure LY(c:ZB)(m:Nat->Bool)(h:Nat->Int)(i:Nat):Prop where
 hi:(i:Int)<=half c
 lo:0<=h i
 up:h i<=8
 fin:(i:Int)=half c->h i=0
 pops:(i:Int)<half c->Ab c i<=h i
 step:(i:Int)<half c->∀j:Int,j∈AP c i->m j.toNat=true∧h j.toNat=h i-Ab c i+As c i
structure Iz(c:ZB)(m:Nat->Bool)(h:Nat->Int)(m':Nat->Bool)(h':Nat->Int):Prop where
 more:∀j,m j=true->m' j=true
 same:∀j,m j=true->h' j=h j
 shut:∀i,m' i=true->m i=false->LY c m' h' i
 fit:∀f,Zj c f->∀j,m' j=true->h' j=f j
structure Gt(c:ZB)(m:Nat->Bool)(h:Nat->Int)(p:Nat)(y:Int)(m':Nat->Bool)(h':Nat->Int)(ok:Bool):Prop where
 yes:ok=true->Iz c m h m' h'∧m' p=true∧h' p=y
 no:ok=false->¬∃f,Zj c f
theorem LY.mono{i:Nat}(H:LY c m h i)(f:m i=true)(more:∀j,m j=true->m' j=true)(a:∀j,m j=true->h' j=h j):LY c m' h' i:=by have e:=a i f;refine⟨H.hi,by rw[e];exact H.lo,by rw[e];exact H.up,λk=>by rw[e];exact H.fin k,λk=>by rw[e];exact H.pops k,λk j g=>?_⟩;have:=H.step k j g;exact⟨more _ this.1,by rw[a _ this.1,this.2,e]⟩
theorem Iz.trans{e:Nat->Bool}{a:Nat->Int}(H:Iz c m h m' h')(K:Iz c m' h' e a):Iz c m h e a:=by
 refine⟨λj f=>K.more j (H.more j f),λj f=>by rw[K.same j (H.more j f),H.same j f],λi l o=>?_,K.fit⟩;cases g:m' i
 ·exact K.shut i l g
 ·exact(H.shut i g o).mono g K.more K.same
theorem Zqv(I:FT c m h p y)(l:m p=true):Gt c m h p y m h (h p==y):=by refine⟨λe=>⟨⟨λ_ h=>h,λ_ _=>rfl,λi o a=>by rw[o]at a;exact absurd a (by simp),λf g=>(I.fit f g).2⟩,l,by simpa using e⟩,λe=>?_⟩;rintro⟨f,g⟩;have:=I.fit f g;have a:=this.2 p l;rw[this.1]at a;simp[a]at e
def Co(h:Nat->Int)(p:Nat)(y:Int):Nat->Int:=λj=>if j=p then y else h j
def B7(m:Nat->Bool)(p:Nat):Nat->Bool:=λj=>if j=p then true else m j
theorem Zqw(I:FT c m h p y)(u:m p=false)(r:(p:Int)=half c):Gt c m h p y (B7 m p) (Co h p y) (y==0):=by
 have l:∀f,Zj c f->y=0:=λf a=>by have o:=a.fin (by rw[<-r];exact I.live);rw[<-(I.fit f a).1];rw[<-r]at o;exact o
 refine⟨λe=>?_,λe=>?_⟩
 ·have e:y=0:=by simpa using e
  subst e;refine⟨⟨λj g=>by simp[B7,g],λj g=>?_,λi o s=>?_,λf a j g=>?_⟩,by simp[B7],by simp[Co]⟩
  ·have:j≠p:=λk=>by rw[k,u]at g;exact absurd g (by simp)
   simp[Co,this]
  ·by_cases k:i=p
   ·subst k;have q:Co h i 0 i=0:=by simp[Co]
    exact⟨I.hi,by rw[q];omega,by rw[q];omega,λ_=>q,λk=>by omega,λk=>by omega⟩
   ·simp[B7,k,s]at o
  ·by_cases k:j=p
   ·subst k;simp[Co,(I.fit f a).1]
   ·simp[B7,k]at g;simp[Co,k,(I.fit f a).2 j g]
 ·rintro⟨f,a⟩;have:=l f a;simp[this]at e
theorem TP(I:FT c m h p y)(g:(p:Int)<half c)(hb:8<y∨y-Ab c p<0):Gt c m h p y m' h' false:=by refine⟨λe=>absurd e (by simp),λ_=>?_⟩;rintro⟨f,a⟩;have l:=(I.fit f a).1;have o:=a.rng p I.hi I.live;have q:=a.pops p g I.live;omega
theorem Tu{s:Nat->Bool}{g:Nat->Int}(z:Ay c)(I:FT c m h p y)(l:(p:Int)<half c)(D:y<=8∧Ab c p<=y)(u:∀f,Zj c f->∀j,s j=true->g j=f j){q:Nat}(r:(q:Int)∈AP c p):FT c s g q (y-Ab c p+As c p):=by
 obtain⟨A,B,C⟩:=Hv c p;have o:Cq c p q:=⟨by omega,l,r⟩
 have e:=z p q o;refine⟨e.2,I.live.step o (by omega),by omega,by omega,λf a=>⟨?_,u f a⟩⟩;have:=a.step p l I.live q r;rw[QC]at this;rw[this,(I.fit f a).1]
theorem WL(I:FT c m h p y):∀f,Zj c f->∀j,B7 m p j=true->Co h p y j=f j:=by
 intro f a j e;by_cases k:j=p
 ·subst k;simp[Co,(I.fit f a).1]
 ·simp[B7,k]at e;simp[Co,k,(I.fit f a).2 j e]
theorem Zqx{r s:Nat->Bool}{q g:Nat->Int}{u z:Nat}(I:FT c m h p y)(D:m p=false)(J:(p:Int)<half c)(A:y<=8∧Ab c p<=y)
  (E:∀j:Int,j∈AP c p->j=u∨j=z) (B:Iz c (B7 m p) (Co h p y) r q) (o:r u=true∧q u=y-Ab c p+As c p) (l:Iz c r q s g) (C:s z=true∧g z=y-Ab c p+As c p):Gt c m h p y s g true:=by
 have H:=B.trans l;have f:g p=y:=by rw[H.same p (by simp[B7])];simp[Co]
 refine⟨λ_=>⟨⟨λj a=>H.more j (by simp[B7,a]),λj a=>?_,λi F G=>?_,H.fit⟩,H.more p (by simp[B7]),f⟩,λe=>absurd e (by simp)⟩
 ·have k:j≠p:=λk=>by rw[k,D]at a;exact absurd a (by simp)
  rw[H.same j (by simp[B7,a])];simp[Co,k]
 ·by_cases k:i=p
  ·subst k;refine⟨I.hi,by rw[f];exact I.lo,by rw[f];exact A.1,λk=>by omega,λ_=>by rw[f];exact A.2,λ_ j a=>?_⟩;rw[f];rcases E j a with e|e
   ·subst e;rw[QC];exact⟨l.more _ o.1,by rw[l.same _ o.1];exact o.2⟩
   ·subst e;rw[QC];exact C
  ·exact H.shut i F (by simp[B7,k,G])
theorem WM(u:Ay c)(H:Iz c (λ_=>false) (λ_=>0) m h)(q:m 0=true∧h 0=0):Zj c h:=by
 have r:=(Zn c).1;have o:∀i:Int,Aq c i->0<=i∧m i.toNat=true:=λi o=>by
  refine o (λx=>0<=x∧m x.toNat=true) (λx f _=>?_) (λx y f l _=>?_)
  ·have f:x=0:=f;subst f;exact⟨by omega,q.1⟩
  ·have a:=H.shut x.toNat f.2 rfl;have e:((x.toNat:Nat):Int)=x:=Qj f.1;exact⟨(u x y l).1,(a.step (by rw[e];exact l.2.1) y (by rw[e];exact l.2.2)).1⟩
 have a:∀i:Nat,Aq c i->LY c m h i:=λi k=>by have:=(o i k).2;rw[QC]at this;exact H.shut i this rfl
 refine⟨q.2,λi _ k=>⟨(a i k).lo,(a i k).up⟩,λk=>?_,λi g k=>(a i k).pops g,λi g k j s=>((a i k).step g j s).2⟩;have e:(((half c).toNat:Nat):Int)=half c:=Qj r;exact(a (half c).toNat (by rw[e];exact k)).fin e
set_option linter.all false
set_option maxRecDepth 100000
structure Dm(w:World)(b:Nat)(m:Nat->Bool)(h:Nat->Int):Prop where
 s:Cp w b 0 m
 a:∀j:Nat,j<201->w.cell? ⟨b,201+j,none⟩=some (.int .i64 (h j))
 f:∀j:Nat,j<201->w.frozen? ⟨b,201+j,none⟩=false
theorem Dm.step(H:Dm w b m h)(hb:Below w.heap.size w w1):Dm w1 b m h:=
 ⟨H.s.step hb,λj e=>by rw[hb.cell (p:=⟨b,201+j,none⟩) H.s.lt];exact H.a j e,λj e=>by rw[hb.frozen (p:=⟨b,201+j,none⟩) H.s.lt];exact H.f j e⟩
theorem Dm.but{l:Nat}(H:Dm w b m h)(hb:AG l w.heap.size w w1)(e:b≠l):Dm w1 b m h:=
 ⟨H.s.but hb e,λj g=>by rw[hb.cell (p:=⟨b,201+j,none⟩) H.s.lt e];exact H.a j g,λj g=>by rw[hb.frozen (p:=⟨b,201+j,none⟩) H.s.lt e];exact H.f j g⟩
theorem Z1(w:World)(b i j:Nat)(x:Value)(h:i≠j):(w.setCell ⟨b,i,none⟩ x).cell? ⟨b,j,none⟩=w.cell? ⟨b,j,none⟩:=
 QN w ⟨b,i,none⟩ ⟨b,j,none⟩ x (by intro k;exact h (congrArg Addr.off k))
theorem Dm.setM(H:Dm w b m h)(g:p<201):Dm (w.setCell ⟨b,0+p,none⟩ (.bool true)) b (B7 m p) h:=
 ⟨H.s.set g true,λj e=>by rw[Z1 _ _ _ _ _ (by omega)];exact H.a j e,λj e=>by rw[Qu];exact H.f j e⟩
theorem Dm.setH(H:Dm w b m h)(l:p<201)(y:Int):Dm (w.setCell ⟨b,201+p,none⟩ (.int .i64 y)) b m (Co h p y):=by
 refine⟨⟨by simpa using H.s.lt,λj g=>by rw[Z1 _ _ _ _ _ (by omega)];exact H.s.c j g,λj g=>by rw[World.frozen?_setCell];exact H.s.f j g⟩,λj g=>?_,λj g=>by rw[World.frozen?_setCell];exact H.f j g⟩;by_cases e:j=p
 ·subst e;rw[Qk _ _ _ (H.a j g)];simp[Go.Proofs.YtcnbifdlkalimabGreat.Co]
 ·rw[Z1 _ _ _ _ _ (by omega)];simp[Go.Proofs.YtcnbifdlkalimabGreat.Co,e];exact H.a j g
set_option maxHeartbeats 6400000
theorem U7(b:Nat)(m:Nat->Bool)(h:Nat->Int)(p:Nat)(w:World)(H:Dm w b m h)(f:p<201) :
  Calls prog 221 #[.pointer (some ⟨b,0,none⟩),.int .i64 p] w λe l=>e=.returned (.int .i64 (h p))∧l=w:=by
 have o:=H.a p f;have g:(p:Int)<201:=by omega
 clear H;go_in;go_wp2;go_ret;exact⟨rfl,rfl⟩
def TY(c:ZB)(b:Nat)(m:Nat->Bool)(h:Nat->Int)(p:Nat)(y:Int)(w:World)(e:Ending)(w':World):Prop:=
 ∃(ok:Bool) (m':Nat->Bool) (h':Nat->Int),e=.returned (.bool ok)∧Dm w' b m' h'∧AG b w.heap.size w w'∧Kp (Gt c m h p y m' h' ok)
theorem RR(n y:Int)(b p:Nat)(m:Nat->Bool)(h:Nat->Int)(t v c:ZB)(w:World)(z:half c<=200)(H:Dm w b m h)(I:FT c m h p y)(l:m p=true) :
  Calls prog 122 #[.pointer (some ⟨b,0,none⟩),.agg #[.int .i64 n,.string t,.string v,.string c],.int .i64 p,.int .i64 y] w (TY c b m h p y w):=by
 have A:=I.hi;have q:Kp (Gt c m h p y m h (h p==y)):=⟨Zqv I l⟩
 have u:(p:Int)<201:=by omega
 have bl:=λo=>(Qh w.heap.size w).alloc (Qb _) o;have f:=H.step (bl (.cells #[.int .i64 n,.string t,.string v,.string c] 76))
 have g:=AG.of (b:=b) (bl (.cells #[.int .i64 n,.string t,.string v,.string c] 76));have r:=f.a p (by omega);clear H I bl;go_in;go_wp2_with fail;refine(LI b 0 m p _ f.s (by omega) l).mono ?_;rintro e w1 ⟨rfl,rfl⟩;go_wp2;go_ret;exact⟨_,m,h,rfl,f,g,q⟩
theorem Zqy(n:Int)(b:Nat)(t v c:ZB)(hc:c.size<=maxLen)(hK:half c<=200)(hr:Kp (Ay c))(am:Kp (∀i:Int,0<=i->i<half c->bv c (2*i)<=11))(k:Nat):∀(m:Nat->Bool) (h:Nat->Int) (p:Nat) (y:Int) (w:World),BG m 201<=k->Dm w b m h->FT c m h p y->
  Calls prog 122 #[.pointer (some ⟨b,0,none⟩),.agg #[.int .i64 n,.string t,.string v,.string c],.int .i64 p,.int .i64 y] w (TY c b m h p y w):=by
 induction k with
 | zero=>
  intro m h p y w hk H I;refine RR n y b p m h t v c w hK H I ?_;cases V:m p
  ·have:=Hu (m:=m) (k:=201) (j:=p) (by have:=I.hi;omega) V;omega
  ·rfl
 | succ k ih=>
  intro m h p y w hk H I;cases V:m p with
  | true=>exact RR n y b p m h t v c w hK H I V
  | false=>
   have hp:=I.hi;have y0:=I.lo;have y9:=I.up;have N:Kp (BG (B7 m p) 201<=k):=⟨by have:=Hu (m:=m) (k:=201) (j:=p) (by omega) V;unfold B7;omega⟩
   have aq:(p:Int)<201:=by omega
   have bl:=λo=>(Qh w.heap.size w).alloc (Qb _) o;have H1:=H.step (bl (.cells #[.int .i64 n,.string t,.string v,.string c] 76))
   have aa:=AG.of (b:=b) (bl (.cells #[.int .i64 n,.string t,.string v,.string c] 76));have o1:=AF.new4 w (.int .i64 n) (.string t) (.string v) (.string c) 76;have ao:=H.s.lt;replace I:=Z_ I;clear hk bl H;go_in;go_wp2_with fail;refine(LJ b 0 m p _ H1.s (by omega) V).mono ?_;rintro e w1 ⟨rfl,F⟩;have H2:Dm w1 b (B7 m p) h:=by rw[F];exact H1.setM (by omega)
   have P:AG b w.heap.size w w1:=by rw[F];exact aa.setCell _ _
   have o2:AF w1 w.heap.size [.int .i64 n,.string t,.string v,.string c]:=by rw[F];exact o1.but ((AG.refl b _ _).setCell _ _) (by omega)
   have ak:=H2.a p (by omega);have al:=H2.f p (by omega);clear F H1 aa o1;have H3:=H2.setH (p:=p) (by omega) y;have u:=P.setCell (201+p) (.int .i64 y);have Y:=o2.but ((AG.refl b _ _).setCell (201+p) (.int .i64 y)) (by omega);have an:=P.size;clear H2 P o2;obtain⟨w3,ai⟩:∃w3,w1.setCell ⟨b,201+p,none⟩ (.int .i64 y)=w3:=⟨_,rfl⟩
   rw[ai]at H3 u Y;have G:=Y.c 0 _ rfl;have J:=Y.c 1 _ rfl;have K:=Y.c 2 _ rfl;have M:=Y.c 3 _ rfl;go_wp2_with fail;refine(ZY n t v c _ hc).mono ?_;rintro e w4 ⟨rfl,C⟩;have H4:=H3.step C;have z:=u.trans (AG.of (C.mono u.size));have o4:=Y.step C;clear ak al ai G J K M H3 u Y C;by_cases X:(p:Int)=half c
   ·have B:Kp (Gt c m h p y (B7 m p) (Co h p y) (y==0)):=⟨Zqw I.o V X⟩
    rw[<-X];go_wp2;go_ret;exact⟨_,_,_,rfl,H4,z,B⟩
   ·have ap:((p:Int)==half c)=false:=Qf.2 X;have g:(p:Int)<half c:=by omega
    have ag:=Zx c (2*p);have ah:=am.o p (by omega) g;have G:=o4.c 0 _ rfl;have J:=o4.c 1 _ rfl;have K:=o4.c 2 _ rfl;have M:=o4.c 3 _ rfl;go_wp2_with fail;refine(HX n p t v c _ hc (by omega) g).mono ?_;rintro e w5 ⟨rfl,D⟩;have H5:=H4.step D;have r:=z.trans (AG.of (D.mono z.size));have o5:=o4.step D;clear G J K M H4 z o4 D;obtain⟨dt,dg,_⟩:=Hv c p;obtain⟨d1,d2⟩:=dt;obtain⟨d3,d4⟩:=dg;obtain⟨tk,l⟩:∃tk,Ab c p=tk:=⟨_,rfl⟩
    obtain⟨O,q⟩:∃O,As c p=O:=⟨_,rfl⟩
    rw[l]at d1 d2;rw[q]at d3 d4;go_wp2_with fail;refine(Og (bv c (2*p)) _ ag.1 ah).mono ?_;rintro e w6 ⟨rfl,rfl⟩;rw[show Aj (bv c (2*p))=tk from l];by_cases af:8<y
    ·have B:Kp (Gt c m h p y (B7 m p) (Co h p y) false):=⟨TP I.o g (.inl af)⟩
     replace l:=Z_ l;replace q:=Z_ q;go_wp2;go_ret;exact⟨_,_,_,rfl,H5,r,B⟩
    ·by_cases T:y-tk<0
     ·have B:Kp (Gt c m h p y (B7 m p) (Co h p y) false):=⟨TP I.o g (.inr (by rw[l];exact T))⟩
      replace l:=Z_ l;replace q:=Z_ q;go_wp2;go_ret;exact⟨_,_,_,rfl,H5,r,B⟩
     ·have hg:Kp (y<=8∧Ab c p<=y):=⟨by rw[l];omega⟩
      obtain⟨⟨n1,n2⟩,n3,n4⟩:=Kn hr.o (k:=p) (by omega) (by omega);obtain⟨Z,e1⟩:∃Z:Nat,nx1 c p=Z:=⟨(nx1 c p).toNat,by omega⟩
      obtain⟨a2,e2⟩:∃a2:Nat,nx2 c p=a2:=⟨(nx2 c p).toNat,by omega⟩
      have m1:Kp ((Z:Int)∈AP c p):=⟨(D8 g).2 (.inl e1.symm)⟩
      have m2:Kp ((a2:Int)∈AP c p):=⟨(D8 g).2 (.inr e2.symm)⟩
      have m3:Kp (∀x,x∈AP c p->x=Z∨x=a2):=⟨λx hx=>by have:=(D8 g).1 hx;rwa [e1,e2]at this⟩
      have G:=o5.c 0 _ rfl;have J:=o5.c 1 _ rfl;have K:=o5.c 2 _ rfl;have M:=o5.c 3 _ rfl;replace l:=Z_ l;replace q:=Z_ q;go_wp2_with fail;refine(II n p t v c _ hc hK (by omega) (by omega)).mono ?_;rintro e w6 ⟨rfl,E⟩;have H6:=H5.step E;have Q:=r.trans (AG.of (E.mono r.size));have o6:=o5.step E;rw[e1,e2];clear G J K M H5 r o5 E e1 e2 n1 n2 n3 n4;go_wp2_with fail;refine(NL (bv c (2*p)) _ ag.1 ah).mono ?_;rintro e w7 ⟨rfl,rfl⟩;rw[show Ar (bv c (2*p))=O from q.o];have G:=o6.c 0 _ rfl;have J:=o6.c 1 _ rfl;have K:=o6.c 2 _ rfl;have M:=o6.c 3 _ rfl;go_wp2_with fail;have I1:FT c (B7 m p) (Co h p y) Z (y-tk+O):=by
       have:=Tu hr.o I.o g hg.o (WL I.o) m1.o
       rwa [l.o,q.o]at this
      refine(ih (B7 m p) (Co h p y) Z (y-tk+O) _ N.o H6 I1).mono ?_;rintro e w7 ⟨ok,m7,h7,rfl,H7,S,ab⟩;have A:=Q.trans (S.mono Q.size);have o7:=o6.but S (by omega);clear G J K M H6 Q o6 S I1;cases ok with
      | false=>
       have B:Kp (Gt c m h p y m7 h7 false):=⟨⟨λe=>absurd e (by simp),ab.o.no⟩⟩
       go_wp2;go_ret;exact⟨_,_,_,rfl,H7,A,B⟩
      | true=>
       obtain⟨L7,e7⟩:=ab.o.yes rfl;have U:Kp (BG m7 201<=k):=⟨Qg (TV L7.more 201) N.o⟩
       have I2:FT c m7 h7 a2 (y-tk+O):=by
        have:=Tu hr.o I.o g hg.o L7.fit m2.o
        rwa [l.o,q.o]at this
       replace L7:=Z_ L7;replace e7:=Z_ e7;replace I2:=Z_ I2;have G:=o7.c 0 _ rfl;have J:=o7.c 1 _ rfl;have K:=o7.c 2 _ rfl;have M:=o7.c 3 _ rfl;go_wp2_with fail;refine(ih m7 h7 a2 (y-tk+O) _ U.o H7 I2.o).mono ?_;rintro e w8 ⟨ok,m8,h8,rfl,H8,ae,ad⟩;have aj:=A.trans (ae.mono A.size);clear G J K M H7 A o7 ae;have B:Kp (Gt c m h p y m8 h8 ok):=⟨by
        cases ok
        ·exact⟨λe=>absurd e (by simp),ad.o.no⟩
        ·obtain⟨L8,e8⟩:=ad.o.yes rfl;refine Zqx I.o V g hg.o m3.o L7.o ?_ L8 ?_
         ·rw[l.o,q.o];exact e7.o
         ·rw[l.o,q.o];exact e8⟩
       go_wp2;go_ret;exact⟨_,_,_,rfl,H8,aj,B⟩
def ZH(m:Nat->Bool)(h:Nat->Int)(j:Nat):Value:=if j<201 then .bool (m j) else .int .i64 (h (j-201))
theorem Tv:prog.built 144 []=some (Bg 402 (ZH (λ_=>false) (λ_=>0))):=by kernel_rfl
theorem LM(m:Nat->Bool)(h:Nat->Int)(j:Nat):(ZH m h j).oneCell'=true:=by unfold ZH;split<;>rfl
theorem Dm.cells(H:Dm w b m h)(j:Nat)(e:j<402):w.cell? ⟨b,0+j,none⟩=some (ZH m h j):=by
 unfold ZH;split
 ·exact H.s.c j (by omega)
 ·have:=H.a (j-201) (by omega);rw[show 201+(j-201)=0+j from by omega]at this;exact this
theorem Tw(R:Bk w b 402)(m:Nat->Bool)(h:Nat->Int):Dm (w.setCells b 0 (Bg 402 (ZH m h)).toList) b m h:=by
 have e:∀j,j<402->(w.setCells b 0 (Bg 402 (ZH m h)).toList).cell? ⟨b,0+j,none⟩=some (ZH m h j):=λj a=>ZE w b 0 402 _ R.c j a;have f:∀j,j<402->(w.setCells b 0 (Bg 402 (ZH m h)).toList).frozen? ⟨b,0+j,none⟩=false:=λj a=>by rw[QQ];exact R.f j a
 refine⟨⟨?_,λj a=>?_,λj a=>f j (by omega)⟩,λj a=>?_,λj a=>?_⟩
 ·have:=(Z6 (AG.refl b 0 w) (Bg 402 (ZH m h)).toList 0).size;exact Qq R.lt this
 ·rw[e j (by omega)];unfold ZH;rw[if_pos a]
 ·have:=e (201+j) (by omega);rw[QT]at this;rw[this];unfold ZH;rw[if_neg (by omega),show 201+j-201=j from by omega]
 ·have:=f (201+j) (by omega)
  rwa [QT]at this
theorem VV(n:Int)(t v c:ZB)(w:World)(Y:c.size<=maxLen)(X:half c<=200)(U:Kp (Ay c))(Q:Kp (∀i:Int,0<=i->i<half c->bv c (2*i)<=11)) :
  Calls prog 63 #[.agg #[.int .i64 n,.string t,.string v,.string c]] w λe w'=>
   ∃(m:Nat->Bool) (h:Nat->Int),((e=.returned (.tuple #[.agg (Bg 402 (ZH m h)),.bool true])∧Kp (Zj c h))∨(e=.returned (.tuple #[.agg (Bg 402 (ZH m h)),.bool false])∧Kp (¬∃f,Zj c f)))∧Below w.heap.size w w':=by
 have hh:=(Zn c).1;obtain⟨A,a⟩:∃A,A=(((w.alloc (.cells #[.int .i64 n,.string t,.string v,.string c] 76)).alloc (.cells Tryz.zeroCells144 144)).alloc (.cells Tryz.zeroCells144 144)):=⟨_,rfl⟩
 have aa:A.heap.size=w.heap.size+3:=by rw[a];simp
 have B:Bk A (w.heap.size+1+1) 402:=by rw[a];exact Bk.of_row (Et _ _ _ _) (by kernel_rfl)
 have J:Bk A (w.heap.size+1) 402:=by rw[a];exact Bk.of_row (EV _ _ _ _) (by kernel_rfl)
 have I:AF A w.heap.size [.int .i64 n,.string t,.string v,.string c]:=by rw[a];exact((AF.new4 w _ _ _ _ _).alloc _).alloc _
 have C:Below w.heap.size w A:=by rw[a];exact(((Qh _ _).alloc (Qb _) _).alloc (by simp) _).alloc (by simp;omega) _
 obtain⟨w1,r⟩:∃w1,w1=A.setCells (w.heap.size+1+1) 0 (Bg 402 (ZH (λ_=>false) (λ_=>0))).toList:=⟨_,rfl⟩
 have G:AG (w.heap.size+1+1) A.heap.size A w1:=by rw[r];exact Z6 (AG.refl _ _ _) _ _
 have S:Dm w1 (w.heap.size+1+1) (λ_=>false) (λ_=>0):=by rw[r];exact Tw B _ _
 have K:=J.but G (by omega);have s:=I.but G (by omega);have D:Below w.heap.size w w1:=C.trans ((G.mono C.size).below (by omega));have ab:=G.size;replace a:=Z_ a;replace r:=Z_ r;have q0:=s.c 0 _ rfl;have q1:=s.c 1 _ rfl;have q2:=s.c 2 _ rfl;have q3:=s.c 3 _ rfl;clear I J C G;go_in;repeat (first|refine IP 144 #[] rfl _ Tv ?_|(refine Zp 144 (.tmp 4) (.tmp 6) rfl (w.heap.size+1+1) 0 402 (ZH (λ_=>false) (λ_=>0)) rfl rfl (by kernel_rfl) (by rw[<-a.o];exact B.c) (by rw[<-a.o];exact B.f) (λj _=>LM _ _ j) ?_;rw[<-a.o,<-r.o];dsimp only [Act.put])|go_step)
 have T:FT c (λ_=>false) (λ_=>0) 0 0:=⟨by omega,Ac.start rfl (by omega),by omega,by omega,λf Z=>⟨Z.zero,λj hj=>absurd hj (by simp)⟩⟩
 refine(Zqy n (w.heap.size+1+1) t v c Y X U Q 201 (λ_=>false) (λ_=>0) 0 0 w1 (LK _ _) S T).mono ?_;rintro e M ⟨ok,m,h,rfl,V,F,u⟩;have q:=K.but F (by omega);have H:Below w.heap.size w M:=D.trans ((F.mono D.size).below (by omega));clear q0 q1 q2 q3 s S K B D F a r T;cases ok with
 | true=>
  have N:Kp (Zj c h):=⟨WM U.o (u.o.yes rfl).1 (u.o.yes rfl).2⟩
  clear u;obtain⟨z,g⟩:∃z:World,M.setCells (w.heap.size+1) 0 (Bg 402 (ZH m h)).toList=z:=⟨_,rfl⟩
  have l:Kp (∀j,j<402->z.cell? ⟨w.heap.size+1,0+j,none⟩=some (ZH m h j)):=⟨by rw[<-g];exact ZE M (w.heap.size+1) 0 402 _ q.c⟩
  have E:Below w.heap.size w z:=by rw[<-g];exact Hs H (b:=w.heap.size+1) (by omega) _ 0
  replace g:=Z_ g;dsimp only;repeat (first|refine KO 144 (.tmp 4) rfl (w.heap.size+1+1) 0 402 (ZH m h) rfl _ Tryz.underlying144 rfl (by kernel_rfl) V.cells ?_|(refine Zp 144 (.tmp 2) (.tmp 12) rfl (w.heap.size+1) 0 402 (ZH m h) rfl rfl (by kernel_rfl) q.c q.f (λj _=>LM _ _ j) ?_;rw[g.o];dsimp only [Act.put])|go_step)
  have O:=MM (P:=prog) z 144 _ (w.heap.size+1) 0 402 (ZH m h) Tryz.underlying144 rfl (by kernel_rfl) l.o;refine bodyPost_ret (v:=.tuple #[.agg (Bg 402 (ZH m h)),.bool true]) (by simp[results,Tryz.results63,asAddr,O]) rfl ⟨m,h,.inl ⟨rfl,N⟩,E⟩
 | false=>
  have N:Kp (¬∃f,Zj c f):=⟨u.o.no rfl⟩
  clear u;obtain⟨z,g⟩:∃z:World,M.setCells (w.heap.size+1) 0 (Bg 402 (ZH (λ_=>false) (λ_=>0))).toList=z:=⟨_,rfl⟩
  have l:Kp (∀j,j<402->z.cell? ⟨w.heap.size+1,0+j,none⟩=some (ZH (λ_=>false) (λ_=>0) j)):=⟨by rw[<-g];exact ZE M (w.heap.size+1) 0 402 _ q.c⟩
  have E:Below w.heap.size w z:=by rw[<-g];exact Hs H (b:=w.heap.size+1) (by omega) _ 0
  replace g:=Z_ g;dsimp only;repeat (first|refine IP 144 #[] rfl _ Tv ?_|(refine Zp 144 (.tmp 2) (.tmp 11) rfl (w.heap.size+1) 0 402 (ZH (λ_=>false) (λ_=>0)) rfl rfl (by kernel_rfl) q.c q.f (λj _=>LM _ _ j) ?_;rw[g.o];dsimp only [Act.put])|go_step)
  have O:=MM (P:=prog) z 144 _ (w.heap.size+1) 0 402 (ZH (λ_=>false) (λ_=>0)) Tryz.underlying144 rfl (by kernel_rfl) l.o;refine bodyPost_ret (v:=.tuple #[.agg (Bg 402 (ZH (λ_=>false) (λ_=>0))),.bool false]) (by simp[results,Tryz.results63,asAddr,O]) rfl ⟨_,_,.inr ⟨rfl,N⟩,E⟩
def Ei(c v t:ZB)(n:Int)(h:Nat->Int)(L:Int->Int->Int)(i:Int):Int:=
 if bv c (2*i)=1 then jn t n (L i (-1)) (bv v (bv c (2*i+1)))
 else if bv c (2*i)=10 then jn t n (L i (-1)) (bv c (2*i+1))
 else if 3<=bv c (2*i)∧bv c (2*i)<=7 then jn t n (jn t n (L i (-1)) (L i (h i.toNat-1))) (L i (h i.toNat-2))
 else L i (-1)
structure DT(c v t:ZB)(n:Int)(h:Nat->Int)(L:Int->Int->Int):Prop where
 rng:∀p d,Lv n (L p d)
 sound:∀p d u,Lv n u->(∀a,Lv n a->AC c v h a p d->le t n a u=true)->le t n (L p d) u=true
def GY(c v t:ZB)(n:Int)(h:Nat->Int)(p d lev:Int):Prop:=Lv n lev∧∀u,Lv n u->(∀a,Lv n a->AC c v h a p d->le t n a u=true)->le t n lev u=true
structure Da(t:ZB)(n:Int)(L:Int->Int->Int)(W:Nat->Bool)(L':Int->Int->Int)(W':Nat->Bool):Prop where
 up:∀p d,le t n (L p d) (L' p d)=true
 same:∀p:Nat,W' p=false->W p=false∧∀d,L' p d=L p d
theorem Da.refl(H:Cs t n)(a:∀p d,Lv n (L p d)):Da t n L W L W:=⟨λp d=>H.refl _ (a p d),λ_ h=>⟨h,λ_=>rfl⟩⟩
theorem Da.trans(H:Cs t n){e:Int->Int->Int}{f:Nat->Bool}(r:∀p d,Lv n (L p d))(r':∀p d,Lv n (L' p d))(g:∀p d,Lv n (e p d))(a:Da t n L W L' W')(b:Da t n L' W' e f):Da t n L W e f:=
 ⟨λp d=>H.trans _ _ _ (r p d) (r' p d) (g p d) (a.up p d) (b.up p d),λp h=>by
  have l:=b.same p h;have o:=a.same p l.1;exact⟨o.1,λd=>by rw[l.2 d,o.2 d]⟩⟩
structure Iu(c v t:ZB)(n:Int)(h:Nat->Int)(L:Int->Int->Int)(i j:Int):Prop where
 stay:∀d,0<=d->d<h i.toNat-Ab c i->le t n (L i d) (L j d)=true
 push:As c i=1->le t n (Ei c v t n h L i) (L j (h i.toNat-Ab c i))=true
def AU(t:ZB)(n:Int)(h:Nat->Int)(L:Int->Int->Int)(i:Int):Int:=jn t n (L i (-1)) (L i (h i.toNat-1))
structure Ce(c v t:ZB)(n:Int)(h:Nat->Int)(L:Int->Int->Int)(i:Int):Prop where
 to:∀j,j∈AP c i->Iu c v t n h L i j
 hide:bv c (2*i)=9->∀p,0<=p->p<half c->CO c i p->le t n (AU t n h L i) (L p (-1))=true
theorem RS(e:∀d,L' i d=L i d):Ei c v t n h L' i=Ei c v t n h L i:=by unfold Ei;rw[e,e,e]
theorem RT(e:∀d,L' i d=L i d):AU t n h L' i=AU t n h L i:=by unfold AU;rw[e,e]
theorem M7(H:Cs t n)(a:∀p d,Lv n (L p d))(g:bv c (2*i)=1->Lv n (bv v (bv c (2*i+1))))(f:bv c (2*i)=10->Lv n (bv c (2*i+1))):Lv n (Ei c v t n h L i):=by
 unfold Ei;split
 ·rename_i e;exact H.jin _ _ (a _ _) (g e)
 ·split
  ·rename_i e;exact H.jin _ _ (a _ _) (f e)
  ·split
   ·exact H.jin _ _ (H.jin _ _ (a _ _) (a _ _)) (a _ _)
   ·exact a _ _
theorem Iu.rise{i:Nat}(H:Cs t n)(f:∀p d,Lv n (L p d))(a:∀p d,Lv n (L' p d))(q:Lv n (Ei c v t n h L i))(R:Da t n L W L' W')(r:W' i=false)(K:Iu c v t n h L i j):Iu c v t n h L' i j:=by
 have e:=(R.same i r).2;refine⟨λd g l=>?_,λo=>?_⟩
 ·rw[e d];exact H.trans _ _ _ (f _ _) (f _ _) (a _ _) (K.stay d g l) (R.up _ _)
 ·rw[RS e];exact H.trans _ _ _ q (f _ _) (a _ _) (K.push o) (R.up _ _)
theorem Ce.rise{i:Nat}(H:Cs t n)(f:∀p d,Lv n (L p d))(a:∀p d,Lv n (L' p d))(u:Lv n (Ei c v t n h L i))(R:Da t n L W L' W')(g:W' i=false)(K:Ce c v t n h L i):Ce c v t n h L' i:=by have e:=(R.same i g).2;refine⟨λj s=>(K.to j s).rise H f a u R g,λq p l o r=>?_⟩;rw[RT e];exact H.trans _ _ _ (H.jin _ _ (f _ _) (f _ _)) (f _ _) (a _ _) (K.hide q p l o r) (R.up _ _)
def Ea(L:Int->Int->Int)(p d x:Int):Int->Int->Int:=λq e=>if q=p∧e=d then x else L q e
theorem GS(L:Int->Int->Int)(p d x:Int):Ea L p d x p d=x:=if_pos ⟨rfl,rfl⟩
theorem Fl{p q e:Int}(h:¬(q=p∧e=d)):Ea L p d x q e=L q e:=if_neg h
theorem DT.raise{p:Int}(H:Cs t n)(K:DT c v t n h L)(g:GY c v t n h p d lev):DT c v t n h (Ea L p d (jn t n (L p d) lev)):=by
 refine⟨λq e=>?_,λq e u a f=>?_⟩
 ·by_cases k:q=p∧e=d
  ·obtain⟨rfl,rfl⟩:=k;rw[GS];exact H.jin _ _ (K.rng _ _) g.1
  ·rw[Fl k];exact K.rng q e
 ·by_cases k:q=p∧e=d
  ·obtain⟨rfl,rfl⟩:=k;rw[GS];exact H.jm _ _ _ (K.rng _ _) g.1 a (K.sound _ _ u a f) (g.2 u a f)
  ·rw[Fl k];exact K.sound q e u a f
theorem Da.raise(H:Cs t n)(f:∀p d,Lv n (L p d))(g:Lv n lev):Da t n L W (Ea L p d (jn t n (L p d) lev)) (λj=>if j=p then true else W j):=by
 refine⟨λq e=>?_,λq a=>?_⟩
 ·by_cases k:q=p∧e=d
  ·obtain⟨rfl,rfl⟩:=k;rw[GS];exact H.jl _ _ (f _ _) g
  ·rw[Fl k];exact H.refl _ (f _ _)
 ·by_cases k:q=p
  ·simp[k]at a
  ·simp[k]at a;exact⟨a,λe=>Fl (λh=>k (by have:=h.1;omega))⟩
def HC(t:ZB)(n x:Int):Nat->Nat
 | 0=>0
 | k+1=>HC t n x k+(if le t n x k then 1 else 0)
theorem Zqz(k:Nat)(h:∀u:Nat,u<k->le t n y u=true->le t n x u=true):HC t n y k<=HC t n x k∧(HC t n y k=HC t n x k->∀u:Nat,u<k->le t n x u=true->le t n y u=true):=by
 induction k with
 | zero=>exact⟨Qb _,λ_ u g=>by omega⟩
 | succ k f=>
  have f:=f (λu g=>h u (by omega));have o:=h k (by omega);simp only[HC];cases r:le t n y k<;>cases q:le t n x k
  ·refine⟨by simpa using f.1,λe u g a=>?_⟩;by_cases l:u=k
   ·rw[l,q]at a;exact absurd a (by simp)
   ·exact f.2 (by simpa using e) u (by omega) a
  ·refine⟨by simp;omega,λe=>?_⟩;simp at e;omega
  ·rw[r,q]at o;exact absurd (o rfl) (by simp)
  ·refine⟨by simpa using f.1,λe u g a=>?_⟩;by_cases l:u=k
   ·rw[l];exact r
   ·exact f.2 (by simpa using e) u (by omega) a
def FG(t:ZB)(n x:Int):Nat:=HC t n x n.toNat
theorem ZqA(H:Cs t n)(a:Lv n x)(l:Lv n y)(h:le t n x y=true)(e:y≠x):FG t n y<FG t n x:=by
 have o:=Zqz (t:=t) (n:=n) (x:=x) (y:=y) n.toNat (λu q f=>H.trans _ _ _ a l ⟨by omega,by omega⟩ h f)
 unfold FG;rcases Nat.lt_or_ge (HC t n y n.toNat) (HC t n x n.toNat) with k|k
 ·exact k
 ·exfalso;have g:=o.2 (by omega) x.toNat (by have:=a.2;have:=a.1;omega)
  rw[Qj a.1]at g;exact e (H.anti _ _ l a (g (H.refl _ a)) h)
def Gy(f:Nat->Nat):Nat->Nat
 | 0=>0
 | k+1=>Gy f k+f k
theorem WN{f g:Nat->Nat}(h:∀i,i<k->f i=g i):Gy f k=Gy g k:=by
 induction k with
 | zero=>rfl
 | succ k a=>simp only[Gy,a (λi e=>h i (by omega)),h k (by omega)]
theorem NK{f g:Nat->Nat}{j:Nat}(r:j<k)(h:∀i,i≠j->f i=g i)(a:f j<g j):Gy f k<Gy g k:=by
 induction k with
 | zero=>omega
 | succ k l=>
  simp only[Gy];by_cases e:j=k
  ·subst e;rw[WN (f:=f) (g:=g) (λi q=>h i (by omega))];omega
  ·have:=l (by omega);rw[h k (λo=>e o.symm)];omega
def LZ(W:Nat->Bool):Nat->Nat:=Gy (λj=>if W j then 1 else 0)
theorem ZqB(W:Nat->Bool)(k:Nat):LZ W k<=k:=by
 unfold LZ;induction k with
 | zero=>exact Qb _
 | succ k a=>simp only[Gy];split<;>omega
theorem Zoo(e:p<k)(h:W p=true):LZ (λj=>if j=p then false else W j) k<LZ W k:=by refine NK e (λi a=>by simp[a]) ?_;simp[h]
def mu(t:ZB)(n:Int)(L:Int->Int->Int)(W:Nat->Bool):Nat:=202*Gy (λk=>FG t n (L ((k/9:Nat):Int) (((k%9:Nat):Int)-1))) 1809+LZ W 201
theorem Zop(H:Cs t n)(e:∀p d,Lv n (L p d))(o:Lv n lev)(z:p<201)(r:-1<=d)(hd:d<8)(a:jn t n (L p d) lev≠L p d):mu t n (Ea L p d (jn t n (L p d) lev)) (λj=>if j=p then true else W j)<mu t n L W:=by
 have l:=ZqA H (e p d) (H.jin _ _ (e p d) o) (H.jl _ _ (e p d) o) a;have A:=NK (f:=λk=>FG t n (Ea L p d (jn t n (L p d) lev) ((k/9:Nat):Int) (((k%9:Nat):Int)-1))) (g:=λk=>FG t n (L ((k/9:Nat):Int) (((k%9:Nat):Int)-1))) (k:=1809) (j:=9*p+(d+1).toNat) (by omega) (λi s=>by
  rw[Fl (λk=>s (by have q:=k.1;have u:=k.2;omega))]) (by
  rw[show (9*p+(d+1).toNat)/9=p from by omega,show (((9*p+(d+1).toNat)%9:Nat):Int)-1=d from by omega,GS];exact l)
 have q:=ZqB (λj=>if j=p then true else W j) 201;unfold mu;omega
theorem ZrZ(a:p<201)(h:W p=true):mu t n L (λj=>if j=p then false else W j)<mu t n L W:=by have:=Zoo a h;unfold mu;omega
theorem WO(H:Cs t n)(K:DT c v t n h L)(J:Zj c h)
  (N:∀i,0<=i->i<half c->bv c (2*i)=1->Lv n (bv v (bv c (2*i+1)))) (M:∀i,0<=i->i<half c->bv c (2*i)=10->Lv n (bv c (2*i+1)))
  (z:∀i:Int,0<=i->i<half c->Aq c i->Ce c v t n h L i) {a p d:Int} (f:Lv n a) (Q:AC c v h a p d):(d=-1∧¬p<half c)∨le t n a (L p d)=true:=by
 have I:∀i,0<=i->i<half c->Lv n (Ei c v t n h L i):=λi A o=>M7 H K.rng (N i A o) (M i A o);refine Q (λp d=>(d=-1∧¬p<half c)∨le t n a (L p d)=true) ⟨λi j d B r A o l=>.inr ?_,λi j B r S u=>.inr ?_,λi p B A o O l P E T=>?_⟩
 ·rcases l with l|l
  ·omega
  ·exact H.trans _ _ _ f (K.rng _ _) (K.rng _ _) l (((z i r.1 r.2.1 B).to j r.2.2).stay d A o)
 ·refine H.trans _ _ _ f (I i r.1 r.2.1) (K.rng _ _) ?_ (((z i r.1 r.2.1 B).to j r.2.2).push S);have G:=r.2.1;have e:((i.toNat:Nat):Int)=i:=Qj r.1;have q:=J.pops i.toNat (by rw[e];exact G) (by rw[e];exact B)
  rw[e]at q;have s:∀x,le t n a (L i (-1))=true->Lv n x->le t n a (jn t n (L i (-1)) x)=true:=λx o g=>H.trans _ _ _ f (K.rng _ _) (H.jin _ _ (K.rng _ _) g) o (H.jl _ _ (K.rng _ _) g);unfold Ei;rcases u with u|⟨o,g⟩|⟨o,g⟩|⟨o,g⟩
  ·have u:le t n a (L i (-1))=true:=by
    rcases u with u|u
    ·omega
    ·exact u
   split
   ·rename_i e;exact s _ u (N i r.1 G e)
   ·split
    ·rename_i e;exact s _ u (M i r.1 G e)
    ·split
     ·exact H.trans _ _ _ f (H.jin _ _ (K.rng _ _) (K.rng _ _)) (H.jin _ _ (H.jin _ _ (K.rng _ _) (K.rng _ _)) (K.rng _ _)) (s _ u (K.rng _ _)) (H.jl _ _ (H.jin _ _ (K.rng _ _) (K.rng _ _)) (K.rng _ _))
     ·exact u
  ·rw[if_pos o,g];exact H.jr _ _ (K.rng _ _) f
  ·rw[if_neg (by omega),if_pos o,g];exact H.jr _ _ (K.rng _ _) f
  ·rw[if_neg (by omega),if_neg (by omega),if_pos o];have U:Ab c i=2:=by unfold Ab Aj;rw[if_neg (by omega),if_neg (by omega)]
   have C:=H.jin _ _ (K.rng i (-1)) (K.rng i (h i.toNat-1));rcases g with g|g
   ·rcases g with g|g
    ·omega
    ·exact H.trans _ _ _ f C (H.jin _ _ C (K.rng _ _)) (H.trans _ _ _ f (K.rng _ _) C g (H.jr _ _ (K.rng _ _) (K.rng _ _))) (H.jl _ _ C (K.rng _ _))
   ·rcases g with g|g
    ·omega
    ·exact H.trans _ _ _ f (K.rng _ _) (H.jin _ _ C (K.rng _ _)) g (H.jr _ _ C (K.rng _ _))
 ·by_cases D:p<half c
  ·refine .inr ?_;have F:=H.jin _ _ (K.rng i (-1)) (K.rng i (h i.toNat-1));refine H.trans _ _ _ f F (K.rng _ _) ?_ ((z i A o B).hide O p E D P);have e:((i.toNat:Nat):Int)=i:=Qj A;have q:=J.pops i.toNat (by rw[e];exact o) (by rw[e];exact B)
   rw[e]at q;have U:Ab c i=1:=by unfold Ab Aj;rw[if_pos (by omega)]
   rcases l with l|l
   ·rcases l with l|l
    ·omega
    ·exact H.trans _ _ _ f (K.rng _ _) F l (H.jl _ _ (K.rng _ _) (K.rng _ _))
   ·rcases l with l|l
    ·omega
    ·exact H.trans _ _ _ f (K.rng _ _) F l (H.jr _ _ (K.rng _ _) (K.rng _ _))
  ·exact .inl ⟨rfl,D⟩
theorem Zoq(K:DT c v t n h L)(r:Aq c i)(o:Cq c i j)(f:0<=d)(g:d<h i.toNat-Ab c i):GY c v t n h j d (L i d):=
 ⟨K.rng _ _,λu s l=>K.sound i d u s (λa e q=>l a e ((Hz c v h a).stay i j d r o f g q))⟩
theorem Zor(H:Cs t n)(K:DT c v t n h L)(E:Aq c i)(C:Cq c i j)(D:As c i=1)
  (z:bv c (2*i)=1->Lv n (bv v (bv c (2*i+1)))) (s:bv c (2*i)=10->Lv n (bv c (2*i+1))):GY c v t n h j (h i.toNat-Ab c i) (Ei c v t n h L i):=by
 refine⟨M7 H K.rng z s,λu l o=>?_⟩;have g:∀a,Lv n a->Hc c v h a (AC c v h a) i->le t n a u=true:=λa f F=>o a f ((Hz c v h a).push i j E C D F);have r:le t n (L i (-1)) u=true:=K.sound i (-1) u l (λa f q=>g a f (.inl q))
 unfold Ei;split
 ·rename_i e;exact H.jm _ _ _ (K.rng _ _) (z e) l r (g _ (z e) (.inr (.inl ⟨e,rfl⟩)))
 ·split
  ·rename_i e;exact H.jm _ _ _ (K.rng _ _) (s e) l r (g _ (s e) (.inr (.inr (.inl ⟨e,rfl⟩))))
  ·split
   ·rename_i e;have A:le t n (L i (h i.toNat-1)) u=true:=K.sound i _ u l (λa f q=>g a f (.inr (.inr (.inr ⟨e,.inl q⟩))));have B:le t n (L i (h i.toNat-2)) u=true:=K.sound i _ u l (λa f q=>g a f (.inr (.inr (.inr ⟨e,.inr q⟩))));exact H.jm _ _ _ (H.jin _ _ (K.rng _ _) (K.rng _ _)) (K.rng _ _) l (H.jm _ _ _ (K.rng _ _) (K.rng _ _) l r A) B
   ·exact r
theorem Zos(H:Cs t n)(K:DT c v t n h L){p:Int}(C:Aq c i)(s:0<=i)(z:i<half c)(A:bv c (2*i)=9)(B:CO c i p)(o:0<=p)(q:p<=half c):GY c v t n h p (-1) (AU t n h L i):=by refine⟨H.jin _ _ (K.rng _ _) (K.rng _ _),λu r f=>?_⟩;have g:∀a,Lv n a->(AC c v h a i (-1)∨AC c v h a i (h i.toNat-1))->le t n a u=true:=λa e D=>f a e ((Hz c v h a).hide i p C s z A D B o q);exact H.jm _ _ _ (K.rng _ _) (K.rng _ _) r (K.sound i _ u r (λa e l=>g a e (.inl l))) (K.sound i _ u r (λa e l=>g a e (.inr l)))
def Ek(c v t:ZB)(n:Int)(h:Nat->Int)(L:Int->Int->Int)(i:Int):Bool:=
 if bv c (2*i)=2 then !(le t n (AU t n h L i) (bv v (bv c (2*i+1))))
 else if bv c (2*i)=11 then !(le t n (AU t n h L i) (bv c (2*i+1)))
 else if bv c (2*i)=10 then !(le t n (L i (-1)) (bv c (2*i+1)))
 else false
theorem Zot(H:Cs t n)(K:DT c v t n h L)(T:Zj c h)
  (U:∀i,0<=i->i<half c->bv c (2*i)=2->Lv n (bv v (bv c (2*i+1)))) (Q:∀i,0<=i->i<half c->(bv c (2*i)=10∨bv c (2*i)=11)->Lv n (bv c (2*i+1)))
  (A:∀a p d,Lv n a->AC c v h a p d->(d=-1∧¬p<half c)∨le t n a (L p d)=true) {i:Int} (F:0<=i) (G:i<half c) (N:Aq c i):Ek c v t n h L i=true↔Bb c v t n h i:=by
 have e:((i.toNat:Nat):Int)=i:=Qj F;have E:=T.pops i.toNat (by rw[e];exact G) (by rw[e];exact N)
 rw[e]at E;have P:∀a,Lv n a->AC c v h a i (-1)->le t n a (L i (-1))=true:=λa f g=>by
  rcases A a i (-1) f g with k|k
  ·omega
  ·exact k
 have I:∀u,Lv n u->(le t n (L i (-1)) u=true↔∀a,Lv n a->AC c v h a i (-1)->le t n a u=true):=λu o=>
  ⟨λk a f g=>H.trans _ _ _ f (K.rng _ _) o (P a f g) k,K.sound i (-1) u o⟩
 have B:∀u,Lv n u->1<=h i.toNat->(le t n (AU t n h L i) u=true↔∀a,Lv n a->(AC c v h a i (-1)∨AC c v h a i (h i.toNat-1))->le t n a u=true):=λu o D=>by
  have M:=H.jin _ _ (K.rng i (-1)) (K.rng i (h i.toNat-1));constructor
  ·intro k a f g;rcases g with g|g
   ·exact H.trans _ _ _ f M o (H.trans _ _ _ f (K.rng _ _) M (P a f g) (H.jl _ _ (K.rng _ _) (K.rng _ _))) k
   ·rcases A a i _ f g with S|S
    ·omega
    ·exact H.trans _ _ _ f M o (H.trans _ _ _ f (K.rng _ _) M S (H.jr _ _ (K.rng _ _) (K.rng _ _))) k
  ·intro k;exact H.jm _ _ _ (K.rng _ _) (K.rng _ _) o (K.sound i _ u o (λa f g=>k a f (.inl g))) (K.sound i _ u o (λa f g=>k a f (.inr g)))
 have J:∀u,Lv n u->AL c v i=u->Bw c i=true->1<=h i.toNat->((!(le t n (AU t n h L i) u))=true↔Bb c v t n h i):=λu o q r D=>by
  constructor
  ·intro k;by_cases hb:∃a,Lv n a∧le t n a u=false∧(AC c v h a i (-1)∨AC c v h a i (h i.toNat-1))
   ·obtain⟨a,f,l,g⟩:=hb;refine⟨⟨F,G⟩,N,by rw[q];exact o.1,a,f,by rw[q];exact l,?_⟩;rcases g with g|g
    ·exact .inl g
    ·exact .inr ⟨r,g⟩
   ·exfalso;have:=(B u o D).2 (λa f g=>by
     cases l:le t n a u
     ·exact absurd ⟨a,f,l,g⟩ hb
     ·rfl)
    rw[this]at k;exact absurd k (by simp)
  ·rintro⟨_,_,_,a,f,l,g⟩;rw[q]at l;cases O:le t n (AU t n h L i) u
   ·rfl
   ·have:=(B u o D).1 O a f (by rcases g with g|⟨_,g⟩;exact .inl g;exact .inr g);rw[this]at l;exact absurd l (by simp)
 unfold Ek;by_cases C:bv c (2*i)=2
 ·rw[if_pos C];refine J _ (U i F G C) (by unfold AL;rw[if_pos C]) (by unfold Bw;exact Qv (.inl C)) ?_;have:Ab c i=1:=by unfold Ab Aj;rw[if_pos (by omega)]
  omega
 ·rw[if_neg C];by_cases s:bv c (2*i)=11
  ·rw[if_pos s];refine J _ (Q i F G (.inr s)) (by unfold AL;rw[if_neg C,if_pos (.inr s)]) (by unfold Bw;exact Qv (.inr s)) ?_;have:Ab c i=1:=by unfold Ab Aj;rw[if_pos (by omega)]
   omega
  ·rw[if_neg s];by_cases z:bv c (2*i)=10
   ·rw[if_pos z];have q:AL c v i=bv c (2*i+1):=by unfold AL;rw[if_neg C,if_pos (.inl z)]
    have r:Bw c i=false:=by unfold Bw;exact Qx (by omega)
    have o:=Q i F G (.inl z);constructor
    ·intro k;by_cases hb:∃a,Lv n a∧le t n a (bv c (2*i+1))=false∧AC c v h a i (-1)
     ·obtain⟨a,f,l,g⟩:=hb;exact⟨⟨F,G⟩,N,by rw[q];exact o.1,a,f,by rw[q];exact l,.inl g⟩
     ·exfalso;have:=(I _ o).2 (λa f g=>by
       cases l:le t n a (bv c (2*i+1))
       ·exact absurd ⟨a,f,l,g⟩ hb
       ·rfl)
      rw[this]at k;exact absurd k (by simp)
    ·rintro⟨_,_,_,a,f,l,g⟩;rw[q]at l;rw[r]at g;cases O:le t n (L i (-1)) (bv c (2*i+1))
     ·rfl
     ·have:=(I _ o).1 O a f (by rcases g with g|⟨k,_⟩;exact g;exact absurd k (by simp));rw[this]at l;exact absurd l (by simp)
   ·rw[if_neg z];constructor
    ·intro k;exact absurd k (by simp)
    ·rintro⟨_,_,V,_⟩;have:AL c v i=-1:=by unfold AL;rw[if_neg C,if_neg (by omega)]
     omega
structure ZV(w:World)(b:Nat)(n:Int)(t v c:ZB)(hb:Nat)(R:Nat->Nat->Bool)(L:Int->Int->Int)(W:Nat->Bool):Prop where
 lt:b<w.heap.size
 c0:w.cell? ⟨b,0,none⟩=some (.int .i64 n)
 c1:w.cell? ⟨b,1,none⟩=some (.string t)
 c2:w.cell? ⟨b,2,none⟩=some (.string v)
 c3:w.cell? ⟨b,3,none⟩=some (.string c)
 hp:w.cell? ⟨b,4,none⟩=some (.pointer (some ⟨hb,0,none⟩))
 r:∀i j:Nat,i<201->j<201->w.cell? ⟨b,5+i*201+j,none⟩=some (.bool (R i j))
 pl:∀j:Nat,j<201->w.cell? ⟨b,40406+j,none⟩=some (.int .i64 (L j (-1)))
 vl:∀j d:Nat,j<201->d<8->w.cell? ⟨b,40607+j*8+d,none⟩=some (.int .i64 (L j d))
 wt:∀j:Nat,j<201->w.cell? ⟨b,42215+j,none⟩=some (.bool (W j))
 f:∀j:Nat,j<42416->w.frozen? ⟨b,j,none⟩=false
theorem ZV.frame(h:ZV w b n t v c hb R L W)(o:w.heap.size<=w1.heap.size)(e:∀j,w1.cell? ⟨b,j,none⟩=w.cell? ⟨b,j,none⟩)(g:∀j,w1.frozen? ⟨b,j,none⟩=w.frozen? ⟨b,j,none⟩):ZV w1 b n t v c hb R L W:=
 ⟨Qq h.lt o,by rw[e];exact h.c0,by rw[e];exact h.c1,by rw[e];exact h.c2,by rw[e];exact h.c3,by rw[e];exact h.hp,λi j l a=>by rw[e];exact h.r i j l a,λj a=>by rw[e];exact h.pl j a,λj d a hd=>by rw[e];exact h.vl j d a hd,λj a=>by rw[e];exact h.wt j a,λj a=>by rw[g];exact h.f j a⟩
theorem ZV.step(h:ZV w b n t v c hb R L W)(a:Below w.heap.size w w1):ZV w1 b n t v c hb R L W:=
 h.frame a.size (λj=>a.cell (p:=⟨b,j,none⟩) h.lt) (λj=>a.frozen (p:=⟨b,j,none⟩) h.lt)
theorem ZV.setP(h:ZV w b n t v c hb R L W)(p:Nat)(l:p<201)(x:Int):ZV (w.setCell ⟨b,40406+p,none⟩ (.int .i64 x)) b n t v c hb R (Ea L p (-1) x) W:=by
 refine⟨by simpa using h.lt,?_,?_,?_,?_,?_,λi j g a=>?_,λj a=>?_,λj d a hd=>?_,λj a=>?_,λj a=>by rw[World.frozen?_setCell];exact h.f j a⟩
 ·rw[Zf _ _ _ _ _ (by omega)];exact h.c0
 ·rw[Zf _ _ _ _ _ (by omega)];exact h.c1
 ·rw[Zf _ _ _ _ _ (by omega)];exact h.c2
 ·rw[Zf _ _ _ _ _ (by omega)];exact h.c3
 ·rw[Zf _ _ _ _ _ (by omega)];exact h.hp
 ·rw[Zf _ _ _ _ _ (by omega)];exact h.r i j g a
 ·by_cases e:j=p
  ·subst e;rw[GS];exact Qk _ _ _ (h.pl j a)
  ·rw[Zf _ _ _ _ _ (by omega),Fl (by omega)];exact h.pl j a
 ·rw[Zf _ _ _ _ _ (by omega),Fl (by omega)];exact h.vl j d a hd
 ·rw[Zf _ _ _ _ _ (by omega)];exact h.wt j a
theorem ZV.setV(h:ZV w b n t v c hb R L W)(p d:Nat)(o:p<201)(hd:d<8)(x:Int):ZV (w.setCell ⟨b,40607+p*8+d,none⟩ (.int .i64 x)) b n t v c hb R (Ea L p d x) W:=by
 refine⟨by simpa using h.lt,?_,?_,?_,?_,?_,λi j l a=>?_,λj a=>?_,λj e a g=>?_,λj a=>?_,λj a=>by rw[World.frozen?_setCell];exact h.f j a⟩
 ·rw[Zf _ _ _ _ _ (by omega)];exact h.c0
 ·rw[Zf _ _ _ _ _ (by omega)];exact h.c1
 ·rw[Zf _ _ _ _ _ (by omega)];exact h.c2
 ·rw[Zf _ _ _ _ _ (by omega)];exact h.c3
 ·rw[Zf _ _ _ _ _ (by omega)];exact h.hp
 ·rw[Zf _ _ _ _ _ (by omega)];exact h.r i j l a
 ·rw[Zf _ _ _ _ _ (by omega),Fl (by omega)];exact h.pl j a
 ·by_cases k:j=p∧e=d
  ·obtain⟨rfl,rfl⟩:=k;rw[GS];exact Qk _ _ _ (h.vl j e a g)
  ·rw[Zf _ _ _ _ _ (by omega),Fl (by omega)];exact h.vl j e a g
 ·rw[Zf _ _ _ _ _ (by omega)];exact h.wt j a
theorem ZV.setW(h:ZV w b n t v c hb R L W)(p:Nat)(o:p<201)(x:Bool):ZV (w.setCell ⟨b,42215+p,none⟩ (.bool x)) b n t v c hb R L (λj=>if j=p then x else W j):=by
 refine⟨by simpa using h.lt,?_,?_,?_,?_,?_,λi j l a=>?_,λj a=>?_,λj e a g=>?_,λj a=>?_,λj a=>by rw[World.frozen?_setCell];exact h.f j a⟩
 ·rw[Zf _ _ _ _ _ (by omega)];exact h.c0
 ·rw[Zf _ _ _ _ _ (by omega)];exact h.c1
 ·rw[Zf _ _ _ _ _ (by omega)];exact h.c2
 ·rw[Zf _ _ _ _ _ (by omega)];exact h.c3
 ·rw[Zf _ _ _ _ _ (by omega)];exact h.hp
 ·rw[Zf _ _ _ _ _ (by omega)];exact h.r i j l a
 ·rw[Zf _ _ _ _ _ (by omega)];exact h.pl j a
 ·rw[Zf _ _ _ _ _ (by omega)];exact h.vl j e a g
 ·by_cases k:j=p
  ·subst k;rw[if_pos rfl];exact Qk _ _ _ (h.wt j a)
  ·rw[Zf _ _ _ _ _ (by omega),if_neg k];exact h.wt j a
theorem ZV.wait(h:ZV w b n t v c hb R L W):Cp w b 42215 W:=⟨h.lt,h.wt,λj a=>h.f _ (by omega)⟩
theorem ZV.reg(h:ZV w b n t v c hb R L W)(i:Nat)(e:i<201):Cp w b (5+i*201) (R i):=⟨h.lt,λj a=>h.r i j e a,λj a=>h.f _ (by omega)⟩
theorem NE(b:Nat)(n:Int)(t v c:ZB)(hb:Nat)(R:Nat->Nat->Bool)(L:Int->Int->Int)(W:Nat->Bool)(p:Nat)(w:World)(H:ZV w b n t v c hb R L W)(a:p<201) :
  Calls prog 186 #[.pointer (some ⟨b,0,none⟩),.int .i64 p] w λe g=>e=.returned (.int .i64 (L p (-1)))∧g=w:=by
 have l:=H.pl p a;have f:(p:Int)<201:=by omega
 clear H;go_in;go_wp2;go_ret;exact⟨rfl,rfl⟩
theorem Rq(b:Nat)(n:Int)(t v c:ZB)(hb:Nat)(R:Nat->Nat->Bool)(L:Int->Int->Int)(W:Nat->Bool)(p d:Nat)(w:World)(H:ZV w b n t v c hb R L W)(f:p<201)(hd:d<8) :
  Calls prog 222 #[.pointer (some ⟨b,0,none⟩),.int .i64 p,.int .i64 d] w λe l=>e=.returned (.int .i64 (L p d))∧l=w:=by
 have o:=H.vl p d f hd;have g:(p:Int)<201:=by omega
 have a:(d:Int)<8:=by omega
 clear H;go_in;go_wp2;go_ret;exact⟨rfl,rfl⟩
theorem V6(b:Nat)(n:Int)(t v c:ZB)(hb:Nat)(R:Nat->Nat->Bool)(L:Int->Int->Int)(W:Nat->Bool)(p z:Nat)(w:World)(H:ZV w b n t v c hb R L W)(a:p<201)(f:z<201) :
  Calls prog 233 #[.pointer (some ⟨b,0,none⟩),.int .i64 p,.int .i64 z] w λe l=>e=.returned (.bool (R z p))∧l=w:=by
 have g:(z:Int)<201:=by omega
 go_in;go_wp2_with fail;refine(IJ b (5+z*201) (R z) p w (H.reg z f) a).mono ?_;rintro e w1 ⟨rfl,rfl⟩;go_wp2;go_ret;exact⟨rfl,rfl⟩
structure Ks(t:ZB)(n:Int):Prop where
 tab:Cf t n
 ord:Ee t n=true
 lat:Cs t n
theorem Hp(b:Nat)(n x y:Int)(t v c:ZB)(hb:Nat)(R:Nat->Nat->Bool)(L:Int->Int->Int)(W:Nat->Bool)(w:World)(H:ZV w b n t v c hb R L W)(a:Ks t n)(l:Lv n x)(q:Lv n y) :
  Calls prog 187 #[.pointer (some ⟨b,0,none⟩),.int .i64 x,.int .i64 y] w λe u=>e=.returned (.int .i64 (jn t n x y))∧Below w.heap.size w u:=by
 have z:=H.c0;have A:=H.c1;have s:Kp ((D0 t n x y).getD 0=jn t n x y):=⟨by unfold jn;rw[KR a.ord]⟩
 have r:=λw1=>Le a.tab x y w1 l.1 l.2 q.1 q.2;clear H a l q;go_in;go_wp2_with fail;refine(r _).mono ?_;rintro e w1 ⟨rfl,f⟩;rw[s.o];generalize (D0 t n x y).isSome=g;go_wp2;go_ret;exact⟨rfl,f⟩
theorem KH(b k d:Nat)(n:Int)(t v c:ZB)(hb:Nat)(R:Nat->Nat->Bool)(L:Int->Int->Int)(W:Nat->Bool)(m:Nat->Bool)(h:Nat->Int)(p:Nat)(w:World)(H:ZV w b n t v c hb R L W)(g:Dm w hb m h)(a:p<201)(hd:h p-k=d)(f:d<8)(r:k<=2) :
  Calls prog 188 #[.pointer (some ⟨b,0,none⟩),.int .i64 p,.int .i64 k] w λe o=>e=.returned (.int .i64 (L p (h p-k)))∧o=w:=by
 have q:=H.hp;rw[hd];have l:h p=d+k:=by omega
 clear hd;go_in;go_wp2_with fail;refine(U7 hb m h p w g a).mono ?_;rintro e w1 ⟨rfl,rfl⟩;rw[l];go_wp2_with fail;refine(Rq b n t v c hb R L W p d _ H a f).mono ?_;rintro e w1 ⟨rfl,rfl⟩;go_wp2;go_ret;exact⟨rfl,rfl⟩
structure Cv(c v t:ZB)(n:Int)(h:Nat->Int)(L:Int->Int->Int)(W:Nat->Bool)(L':Int->Int->Int)(W':Nat->Bool):Prop where
 rise:Da t n L W L' W'
 ok:DT c v t n h L'
 mu:mu t n L' W'<=mu t n L W
 wl:∀j:Nat,W' j=true->W j=true∨((j:Int)<=half c∧Aq c j)
theorem Cv.refl(H:Cs t n)(K:DT c v t n h L):Cv c v t n h L W L W:=⟨Da.refl H K.rng,K,Qb _,λ_ h=>.inl h⟩
theorem Cv.trans{e:Int->Int->Int}{f:Nat->Bool}(H:Cs t n)(K:DT c v t n h L)(a:Cv c v t n h L W L' W')(b:Cv c v t n h L' W' e f):Cv c v t n h L W e f:=
 ⟨a.rise.trans H K.rng a.ok.rng b.ok.rng b.rise,b.ok,Qg b.mu a.mu,λj g=>by
  rcases b.wl j g with k|k
  ·exact a.wl j k
  ·exact .inr k⟩
theorem Cv.raise(H:Cs t n)(K:DT c v t n h L)(f:GY c v t n h p d lev)(r:p<201)(l:(p:Int)<=half c)(q:Aq c p)(a:-1<=d)(hd:d<8)(g:jn t n (L p d) lev≠L p d):Cv c v t n h L W (Ea L p d (jn t n (L p d) lev)) (λj=>if j=p then true else W j):=
 ⟨Da.raise H K.rng f.1,K.raise H f,Uf (Zop H K.rng f.1 r a hd g),λj o=>by
  by_cases e:j=p
  ·subst e;exact .inr ⟨l,q⟩
  ·simp[e]at o;exact .inl o⟩
def St(b:Nat)(n:Int)(t v c:ZB)(hb:Nat)(R:Nat->Nat->Bool)(h:Nat->Int)(L:Int->Int->Int)(W:Nat->Bool)(p d lev:Int)(w:World)(e:Ending)(w':World):Prop:=
 ∃(L':Int->Int->Int) (W':Nat->Bool),e=.returned (.tuple #[])∧ZV w' b n t v c hb R L' W'∧AG b w.heap.size w w'∧Kp (Cv c v t n h L W L' W'∧le t n lev (L' p d)=true)
theorem XG(b:Nat)(n lev:Int)(t v c:ZB)(hb:Nat)(R:Nat->Nat->Bool)(h:Nat->Int)(L:Int->Int->Int)(W:Nat->Bool)(p:Nat)(w:World)(H:ZV w b n t v c hb R L W)(D:Ks t n)(K:Kp (DT c v t n h L))(G:Kp (GY c v t n h p (-1) lev))(s:p<201)(E:Kp ((p:Int)<=half c∧Aq c p)) :
  Calls prog 234 #[.pointer (some ⟨b,0,none⟩),.int .i64 p,.int .i64 lev] w (St b n t v c hb R h L W p (-1) lev w):=by
 have Q:(p:Int)<201:=by omega
 have q:=H.pl p s;go_in;go_wp2_with fail;refine(Hp b n (L p (-1)) lev t v c hb R L W w H D (K.o.rng _ _) G.o.1).mono ?_;rintro e w1 ⟨rfl,r⟩;have A:=H.step r;have l:AG b w.heap.size w w1:=AG.of r;clear q H r;have q:=A.pl p s;have T:=A.f (40406+p) (by omega);by_cases a:jn t n (L p (-1)) lev=L p (-1)
 ·have C:Kp (Cv c v t n h L W L W∧le t n lev (L p (-1))=true):=⟨Cv.refl D.lat K.o,by have:=D.lat.jr _ _ (K.o.rng p (-1)) G.o.1;rwa [a]at this⟩
  rw[a];go_wp2_with fail;first|go_end0|refine Qi (Qp rfl _ _ _) rfl ?_
  exact⟨L,W,rfl,A,l,C⟩
 ·have C:Kp (Cv c v t n h L W (Ea L p (-1) (jn t n (L p (-1)) lev)) (λj=>if j=p then true else W j)∧le t n lev (Ea L p (-1) (jn t n (L p (-1)) lev) p (-1))=true):=⟨Cv.raise D.lat K.o G.o s E.o.1 E.o.2 (by omega) (by omega) a,by rw[GS];exact D.lat.jr _ _ (K.o.rng p (-1)) G.o.1⟩
  have P:(jn t n (L p (-1)) lev != L p (-1))=true:=by simpa using a
  have u:=A.setP p s (jn t n (L p (-1)) lev);have g:=l.setCell (40406+p) (.int .i64 (jn t n (L p (-1)) lev));obtain⟨I,N⟩:∃I,w1.setCell ⟨b,40406+p,none⟩ (.int .i64 (jn t n (L p (-1)) lev))=I:=⟨_,rfl⟩
  rw[N]at u g;generalize jn t n (L p (-1)) lev=z at *;clear a A l;cases J:W p with
  | true=>
   have M:(λj=>if j=p then true else W j)=W:=by funext j;by_cases e:j=p<;>simp[e,J]
   rw[M]at C;go_wp2_with fail;refine(LI b 42215 W p I u.wait s J).mono ?_;rintro e S ⟨rfl,rfl⟩;go_wp2_with fail;first|go_end0|refine Qi (Qp rfl _ _ _) rfl ?_
   exact⟨_,W,rfl,u,g,C⟩
  | false=>
   go_wp2_with fail;refine(LJ b 42215 W p I u.wait s J).mono ?_;rintro e S ⟨rfl,F⟩;have O:=u.setW p s true;have B:=g.setCell (42215+p) (.bool true);rw[<-F]at O B;clear F u g;go_wp2_with fail;first|go_end0|refine Qi (Qp rfl _ _ _) rfl ?_
   exact⟨_,_,rfl,O,B,C⟩
theorem RI(b:Nat)(n lev:Int)(t v c:ZB)(hb:Nat)(R:Nat->Nat->Bool)(h:Nat->Int)(L:Int->Int->Int)(W:Nat->Bool)(p d:Nat)(w:World)(H:ZV w b n t v c hb R L W)(D:Ks t n)(K:Kp (DT c v t n h L))(G:Kp (GY c v t n h p d lev))(s:p<201)(hd:d<8)(E:Kp ((p:Int)<=half c∧Aq c p)) :
  Calls prog 231 #[.pointer (some ⟨b,0,none⟩),.int .i64 p,.int .i64 d,.int .i64 lev] w (St b n t v c hb R h L W p d lev w):=by
 have S:(p:Int)<201:=by omega
 have Q:(d:Int)<8:=by omega
 have q:=H.vl p d s hd;go_in;go_wp2_with fail;refine(Hp b n (L p d) lev t v c hb R L W w H D (K.o.rng _ _) G.o.1).mono ?_;rintro e w1 ⟨rfl,r⟩;have A:=H.step r;have l:AG b w.heap.size w w1:=AG.of r;clear q H r;have q:=A.vl p d s hd;have U:=A.f (40607+p*8+d) (by omega);by_cases a:jn t n (L p d) lev=L p d
 ·have C:Kp (Cv c v t n h L W L W∧le t n lev (L p d)=true):=⟨Cv.refl D.lat K.o,by have:=D.lat.jr _ _ (K.o.rng p d) G.o.1;rwa [a]at this⟩
  rw[a];go_wp2_with fail;first|go_end0|refine Qi (Qp rfl _ _ _) rfl ?_
  exact⟨L,W,rfl,A,l,C⟩
 ·have C:Kp (Cv c v t n h L W (Ea L p d (jn t n (L p d) lev)) (λj=>if j=p then true else W j)∧le t n lev (Ea L p d (jn t n (L p d) lev) p d)=true):=⟨Cv.raise D.lat K.o G.o s E.o.1 E.o.2 (by omega) (by omega) a,by rw[GS];exact D.lat.jr _ _ (K.o.rng p d) G.o.1⟩
  have P:(jn t n (L p d) lev != L p d)=true:=by simpa using a
  have u:=A.setV p d s hd (jn t n (L p d) lev);have g:=l.setCell (40607+p*8+d) (.int .i64 (jn t n (L p d) lev));obtain⟨I,N⟩:∃I,w1.setCell ⟨b,40607+p*8+d,none⟩ (.int .i64 (jn t n (L p d) lev))=I:=⟨_,rfl⟩
  rw[N]at u g;generalize jn t n (L p d) lev=z at *;clear a A l;cases J:W p with
  | true=>
   have M:(λj=>if j=p then true else W j)=W:=by funext j;by_cases e:j=p<;>simp[e,J]
   rw[M]at C;go_wp2_with fail;refine(LI b 42215 W p I u.wait s J).mono ?_;rintro e T ⟨rfl,rfl⟩;go_wp2_with fail;first|go_end0|refine Qi (Qp rfl _ _ _) rfl ?_
   exact⟨_,W,rfl,u,g,C⟩
  | false=>
   go_wp2_with fail;refine(LJ b 42215 W p I u.wait s J).mono ?_;rintro e T ⟨rfl,F⟩;have O:=u.setW p s true;have B:=g.setCell (42215+p) (.bool true);rw[<-F]at O B;clear F u g;go_wp2_with fail;first|go_end0|refine Qi (Qp rfl _ _ _) rfl ?_
   exact⟨_,_,rfl,O,B,C⟩
structure DZ(c v t:ZB)(n:Int)(h:Nat->Int):Prop where
 hc:c.size<=maxLen
 hv:v.size<=maxLen
 hK:half c<=200
 ok:FN c v n=true
 vars:∀k:Int,0<=k->k<v.size->Lv n (bv v k)
 ht:Zj c h
 lat:Ks t n
structure VG(c v:ZB)(n i:Int):Prop where
 hi:bv c (2*i)<=11
 vr:bv c (2*i)=1∨bv c (2*i)=2->bv c (2*i+1)<v.size∧Lv n (bv v (bv c (2*i+1)))
 lv:bv c (2*i)=10∨bv c (2*i)=11->Lv n (bv c (2*i+1))
theorem DZ.ins(F:DZ c v t n h)(a:0<=i)(e:i<half c):VG c v n i:=by
 have f:=QB (PC F.ok a e);have hb:=Zx c (2*i+1);refine⟨by omega,λk=>?_,λk=>⟨hb.1,by omega⟩⟩;have:bv c (2*i+1)<v.size:=by omega
 exact⟨this,F.vars _ hb.1 this⟩
theorem DZ.pops(F:DZ c v t n h){i:Nat}(e:(i:Int)<half c)(a:Aq c i):Ab c i<=h i∧0<=h i∧h i<=8:=
 ⟨F.ht.pops i e a,F.ht.rng i (by omega) a⟩
theorem XH(b:Nat)(n:Int)(t v c:ZB)(hb:Nat)(R:Nat->Nat->Bool)(L:Int->Int->Int)(W:Nat->Bool)(m:Nat->Bool)(h:Nat->Int)(p:Nat)(w:World)(H:ZV w b n t v c hb R L W)(hH:Dm w hb m h)(F:Kp (DZ c v t n h))(E:Kp (∀p d,Lv n (L p d)))(Z:(p:Int)<half c)(hl:Kp (Aq c p)) :
  Calls prog 232 #[.pointer (some ⟨b,0,none⟩),.int .i64 p] w λe w'=>e=.returned (.int .i64 (Ei c v t n h L p))∧Below w.heap.size w w':=by
 have hK:=F.o.hK;have hc:=F.o.hc;have hv:=F.o.hv;have S:=F.o.ins (i:=p) (by omega) Z;have hP:=F.o.pops Z hl.o;have J:=F.o.lat
 have ho:=Zx c (2*p);have q0:=H.c0;have q1:=H.c1;have q2:=H.c2;have q3:=H.c3;have a:Kp (Ei c v t n h L p=if bv c (2*p)=1 then jn t n (L p (-1)) (bv v (bv c (2*p+1))) else if bv c (2*p)=10 then jn t n (L p (-1)) (bv c (2*p+1)) else if 3<=bv c (2*p)∧bv c (2*p)<=7 then jn t n (jn t n (L p (-1)) (L p (h p-1))) (L p (h p-2)) else L p (-1)):=⟨rfl⟩
 have r:Kp (3<=bv c (2*p)∧bv c (2*p)<=7->2<=h p):=⟨λk=>by
  have:Ab c p=2:=by unfold Ab Aj;rw[if_neg (by omega),if_neg (by omega)]
  omega⟩
 have i1:=S.hi;have G:Kp _:=⟨S.vr⟩
 have I:Kp _:=⟨S.lv⟩
 have K:=(Zx c (2*p+1)).1;clear S F hl;go_in;go_wp2_with fail;refine(HX n p t v c _ hc (by omega) Z).mono ?_;rintro e w1 ⟨rfl,g⟩;have s:=H.step g;have C:=hH.step g;clear q0 q1 q2 q3 H hH;go_wp2_with fail;refine(NE b n t v c hb R L W p _ s (by omega)).mono ?_;rintro e w2 ⟨rfl,rfl⟩;obtain⟨q,O⟩:∃q,bv c (2*p)=q:=⟨_,rfl⟩
 obtain⟨u,B⟩:∃u,bv c (2*p+1)=u:=⟨_,rfl⟩
 rw[O]at a r i1 G I ho ⊢;rw[B]at a G I K ⊢;clear O B;have q0:=s.c0;have q1:=s.c1;have q2:=s.c2;have q3:=s.c3;obtain⟨o0,_⟩:=ho;have A:q=1∨q=10∨(q=0∨q=2∨q=8∨q=9∨q=11)∨(q=3∨q=4∨q=5∨q=6∨q=7):=by omega
 rcases A with rfl|rfl|A|A
 ·obtain⟨a1,T⟩:=G.o (.inl rfl);have f:=a.o;rw[if_pos rfl]at f;replace f:=Z_ f;clear r a G I;go_wp2_with fail;refine(Sv n u t v c _ hv K a1).mono ?_;rintro e w3 ⟨rfl,D⟩;have H3:=s.step D;have z:=g.trans (D.mono g.size);clear q0 q1 q2 q3 s C D;go_wp2_with fail;refine(Hp b n (L p (-1)) (bv v u) t v c hb R L W _ H3 J (E.o _ _) T).mono ?_;rintro e w4 ⟨rfl,l⟩;go_wp2;go_ret;exact⟨ZG f.o.symm,z.trans (l.mono z.size)⟩
 ·have T:=I.o (.inl rfl);have f:=a.o;rw[if_neg (by decide),if_pos rfl]at f;replace f:=Z_ f;clear r a G I;go_wp2_with fail;refine(Hp b n (L p (-1)) u t v c hb R L W _ s J (E.o _ _) T).mono ?_;rintro e w4 ⟨rfl,l⟩;go_wp2;go_ret;exact⟨ZG f.o.symm,g.trans (l.mono g.size)⟩
 ·have f:=a.o;rw[if_neg (by omega),if_neg (by omega),if_neg (by omega)]at f;replace f:=Z_ f;clear r a G I;rcases A with rfl|rfl|rfl|rfl|rfl;all_goals
   go_wp2;go_ret;exact⟨ZG f.o.symm,g⟩
 ·have f:=a.o;rw[if_neg (by omega),if_neg (by omega),if_pos (by omega)]at f;replace f:=Z_ f;have h2:=r.o (by omega);obtain⟨_,h0,h8⟩:=hP;obtain⟨P,X⟩:∃P:Nat,h p-((1:Nat):Int)=P:=⟨(h p-1).toNat,by omega⟩
  obtain⟨Q,Y⟩:∃Q:Nat,h p-((2:Nat):Int)=Q:=⟨(h p-2).toNat,by omega⟩
  have M:P<8:=by omega
  have N:Q<8:=by omega
  clear r a G I;rcases A with rfl|rfl|rfl|rfl|rfl;all_goals
   go_wp2_with fail;refine(KH b 1 P n t v c hb R L W m h p _ s C (by omega) X M (by omega)).mono ?_;rintro e w3 ⟨rfl,rfl⟩;go_wp2_with fail;refine(Hp b n (L p (-1)) (L p (h p-((1:Nat):Int))) t v c hb R L W _ s J (E.o _ _) (E.o _ _)).mono ?_;rintro e w4 ⟨rfl,l⟩;have H4:=s.step l;have U:=C.step l;have z:=g.trans (l.mono g.size);go_wp2_with fail;refine(KH b 2 Q n t v c hb R L W m h p _ H4 U (by omega) Y N (by omega)).mono ?_;rintro e w5 ⟨rfl,rfl⟩;go_wp2_with fail;refine(Hp b n (jn t n (L p (-1)) (L p (h p-((1:Nat):Int)))) (L p (h p-((2:Nat):Int))) t v c hb R L W _ H4 J (J.lat.jin _ _ (E.o _ _) (E.o _ _)) (E.o _ _)).mono ?_;rintro e w6 ⟨rfl,V⟩;go_wp2;go_ret;exact⟨ZG f.o.symm,z.trans (V.mono z.size)⟩
end Go.Proofs.YtcnbifdlkalimabGreat
