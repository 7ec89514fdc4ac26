/- Lemmas; their conditions stand in each. -/
import Derived.Test.YtcnbifdlkalimabGreatLabA
import Derived.Test.YtcnbifdlkalimabGreatFlwM
namespace Go.Proofs.YtcnbifdlkalimabGreat
open Go.RowKit Go.Proofs.Tryz
set_option linter.all false
set_option maxRecDepth 100000
variable{n x:Int}{A T:Int->Int}{L L':Int->Int->Int}{b hb q:Nat}{W W' lm:Nat->Bool}{h:Nat->Int}{R:Nat->Nat->Bool}{w w1:World}{c t v:ZB}
structure LS(w:World)(b:Nat)(n:Int)(t v c:ZB)(hb:Nat)(R:Nat->Nat->Bool)(m:Nat->Bool)(h:Nat->Int)(L:Int->Int->Int)(W:Nat->Bool):Prop where
 lab:ZV w b n t v c hb R L W
 ht:Dm w hb m h
 ne:hb≠b
theorem LS.step{m:Nat->Bool}(S:LS w b n t v c hb R m h L W)(a:Below w.heap.size w w1):LS w1 b n t v c hb R m h L W:=⟨S.lab.step a,S.ht.step a,S.ne⟩
theorem LS.to{m:Nat->Bool}(S:LS w b n t v c hb R m h L W)(a:AG b w.heap.size w w1)(H:ZV w1 b n t v c hb R L' W'):LS w1 b n t v c hb R m h L' W':=⟨H,S.ht.but a S.ne,S.ne⟩
def OA(b:Nat)(n:Int)(t v c:ZB)(hb:Nat)(R:Nat->Nat->Bool)(m:Nat->Bool)(h:Nat->Int)(L:Int->Int->Int)(W:Nat->Bool)(Q:(Int->Int->Int)->(Nat->Bool)->Prop)(w:World)(e:Ending)(w':World):Prop:=
 ∃(L':Int->Int->Int) (W':Nat->Bool),e=.returned (.tuple #[])∧LS w' b n t v c hb R m h L' W'∧AG b w.heap.size w w'∧Kp (Cv c v t n h L W L' W'∧Q L' W')
theorem Xi{a:Int->Int->Int}{f:Nat->Bool}{p:Nat}{q:Int}{d:Nat}(H:Cs t n)(K:DT c v t n h L)(R:Cv c v t n h L W a f)(hd:W p=false->∀e:Nat,e<d->le t n (L p e) (L q e)=true)(i:le t n (L p d) (a q d)=true):f p=false->∀e:Nat,e<d+1->le t n (a p e) (a q e)=true:=by
 intro j e l;have g:=R.rise.same p j;rw[g.2 e];by_cases k:e=d
 ·subst k;exact i
 ·exact H.trans _ _ _ (K.rng _ _) (K.rng _ _) (R.ok.rng _ _) (hd g.1 e (by omega)) (R.rise.up _ _)
set_option maxHeartbeats 6400000
theorem SH(b:Nat)(n:Int)(t v c:ZB)(hb:Nat)(R:Nat->Nat->Bool)(m:Nat->Bool)(h:Nat->Int)(L:Int->Int->Int)(W:Nat->Bool)(p q:Nat)(w:World)(S:LS w b n t v c hb R m h L W)(F:Kp (DZ c v t n h))(K:Kp (DT c v t n h L))(Q:(p:Int)<half c)(X:Kp (Aq c p))(hq:Kp ((q:Int)∈AP c p)) :
  Calls prog 219 #[.pointer (some ⟨b,0,none⟩),.int .i64 p,.int .i64 q] w (OA b n t v c hb R m h L W (λL' W'=>W' p=false->Iu c v t n h L' p q) w):=by
 have hK:=F.o.hK;have hc:=F.o.hc;have G:=F.o.lat
 have hI:=(F.o.ins (i:=p) (by omega) Q).hi;obtain⟨p1,p2,p3⟩:=F.o.pops Q X.o;have ho:=(Zx c (2*p)).1;obtain⟨⟨t0,t2⟩,⟨g0,g1⟩,_⟩:=Hv c p;have hr:=GO F.o.ok;have H:Cq c p q:=⟨by omega,Q,hq.o⟩
 have ag:=(hr p q H).2;have U:Aq c q:=X.o.step H (by omega);have ak:=F.o.ht.rng q ag U;have ah:=F.o.ht.step p Q X.o q hq.o;rw[QC]at ah;obtain⟨y,C⟩:∃y:Nat,h p-Ab c p=y:=⟨(h p-Ab c p).toNat,by omega⟩
 have al:y<=8:=by omega
 have B:As c p=1->y<8:=by omega
 have af:Kp ((q:Int)<=half c∧Aq c q):=⟨ag,U⟩
 replace H:=Z_ H;have ad:h p=y+Ab c p:=by omega
 have q0:=S.lab.c0;have q1:=S.lab.c1;have q2:=S.lab.c2;have q3:=S.lab.c3;clear ah ak U p1 p2 p3;obtain⟨tk,u⟩:∃tk,Ab c p=tk:=⟨_,rfl⟩
 obtain⟨gv,r⟩:∃gv,As c p=gv:=⟨_,rfl⟩
 rw[u]at t0 t2 ad C;rw[r]at g0 g1 B;have g:Kp (h p-Ab c p=y):=⟨by rw[u];exact C⟩
 replace C:=Z_ C;replace B:=Z_ B;replace u:=Z_ u;replace r:=Z_ r;go_in;go_wp2_with fail;refine(HX n p t v c _ hc (by omega) Q).mono ?_;rintro e w1 ⟨rfl,O⟩;have S1:=S.step O;have aa:AG b w.heap.size w w1:=AG.of O;clear q0 q1 q2 q3 S O;have qh:=S1.lab.hp;go_wp2_with fail;refine(U7 hb m h p _ S1.ht (by omega)).mono ?_;rintro e w2 ⟨rfl,rfl⟩;rw[ad];go_wp2_with fail;refine(Og (bv c (2*p)) _ ho hI).mono ?_;rintro e w3 ⟨rfl,rfl⟩;rw[show Aj (bv c (2*p))=tk from u.o];go_wp2_with fail;have ab:Kp (Cv c v t n h L W L W∧(W p=false->∀e:Nat,e<0->le t n (L p e) (L q e)=true)):=⟨Cv.refl G.lat K.o,λ_ e H=>absurd H (by omega)⟩
 go_loopw [9] (λi wr=>∃(d:Nat) (L':Int->Int->Int) (W':Nat->Bool),i=.int .i64 d∧d<=y∧LS wr b n t v c hb R m h L' W'∧AG b w.heap.size w wr∧Kp (Cv c v t n h L W L' W'∧(W' p=false->∀e:Nat,e<d->le t n (L' p e) (L' q e)=true))) (λi _=>y-(intOf i).toNat);case atStart=>exact⟨0,L,W,rfl,by omega,S1,aa,ab⟩
 case round=>
  clear S1 aa ab qh;obtain⟨d,L',W',rfl,hd,z,j,a⟩:=hrel;by_cases aj:d<y
  ·have ae:(d:Int)<y:=by omega
   go_wp2_with fail;refine(Rq b n t v c hb R L' W' p d _ z.lab (by omega) (by omega)).mono ?_;rintro e w4 ⟨rfl,rfl⟩;go_wp2_with fail;have hm:Kp (GY c v t n h q d (L' p d)):=⟨Zoq a.o.1.ok X.o H.o (by omega) (by rw[QC,g.o];exact ae)⟩
   refine(RI b n (L' p d) t v c hb R h L' W' q d _ z.lab G ⟨a.o.1.ok⟩ hm (by omega) (by omega) af).mono ?_;rintro e w5 ⟨E,I,rfl,Y,l,f⟩;have S2:=z.to l Y;have J:=j.trans (l.mono j.size);have s:Kp (Cv c v t n h L W E I∧(I p=false->∀e:Nat,e<d+1->le t n (E p e) (E q e)=true)):=⟨a.o.1.trans G.lat K.o f.o.1,Xi G.lat a.o.1.ok f.o.1 a.o.2 f.o.2⟩
   clear z j a l Y f hm;go_wp2_with fail;go_roundw;case rel=>exact⟨d+1,E,I,by go_num,by omega,S2,J,s⟩
   case measure=>simp[intOf];omega
  ·have e:d=y:=by omega
   subst e;clear aj hd;go_wp2_with fail;refine(NL (bv c (2*p)) _ ho hI).mono ?_;rintro e w4 ⟨rfl,rfl⟩;rw[show Ar (bv c (2*p))=gv from r.o];have D:Kp (W' p=false->∀e:Int,0<=e->e<h p-Ab c p->le t n (L' p e) (L' q e)=true):=⟨λhw e Z V=>by
    have:=a.o.2 hw e.toNat (by rw[g.o]at V;omega)
    rwa [Qj Z]at this⟩
   have ai:gv=0∨gv=1:=by omega
   rcases ai with rfl|rfl
   ·have s:Kp (Cv c v t n h L W L' W'∧(W' p=false->Iu c v t n h L' p q)):=⟨a.o.1,λhw=>⟨λe Z V=>D.o hw e Z (by rwa [QC]at V),λhg=>by rw[r.o]at hg;omega⟩⟩
    clear D a;go_wp2_with fail;first|go_end0|refine Qi (Qp rfl _ _ _) rfl ?_
    exact⟨L',W',rfl,z,j,s⟩
   ·have hs:=B.o rfl;go_wp2_with fail;refine(XH b n t v c hb R L' W' m h p _ z.lab z.ht F ⟨a.o.1.ok.rng⟩ Q X).mono ?_;rintro e w5 ⟨rfl,P⟩;have S5:=z.step P;have M:=j.trans (AG.of (P.mono j.size));have N:=F.o.ins (i:=p) (by omega) Q;have hm:Kp (GY c v t n h q (d:Int) (Ei c v t n h L' p)):=⟨by
     have:=Zor G.lat a.o.1.ok X.o H.o r.o (λk=>(N.vr (.inl k)).2) (λk=>N.lv (.inl k))
     rwa [QC,g.o]at this⟩
    clear N z j P;go_wp2_with fail;refine(RI b n (Ei c v t n h L' p) t v c hb R h L' W' q d _ S5.lab G ⟨a.o.1.ok⟩ hm (by omega) (by omega) af).mono ?_;rintro e w6 ⟨E,I,rfl,Y,l,f⟩;have S2:=S5.to l Y;have J:=M.trans (l.mono M.size);have s:Kp (Cv c v t n h L W E I∧(I p=false->Iu c v t n h E p q)):=⟨a.o.1.trans G.lat K.o f.o.1,λhw=>by
     have hs:=f.o.1.rise.same p hw;refine⟨λe Z V=>?_,λhg=>?_⟩
     ·rw[QC]at V;rw[hs.2 e];exact G.lat.trans _ _ _ (a.o.1.ok.rng _ _) (a.o.1.ok.rng _ _) (f.o.1.ok.rng _ _) (D.o hs.1 e Z V) (f.o.1.rise.up _ _)
     ·rw[RS hs.2,QC,g.o];exact f.o.2⟩
    clear S5 M l Y f hm a D;go_wp2_with fail;first|go_end0|refine Qi (Qp rfl _ _ _) rfl ?_
    exact⟨E,I,rfl,S2,J,s⟩
def Kr(c:ZB)(R:Nat->Nat->Bool):Prop:=∀z p:Nat,(z:Int)<half c->Aq c z->bv c (2*z)=9->p<201->(R z p=true↔(p:Int)<=half c∧CO c z p)
theorem YQ{z p:Int}(g:Ay c)(d:0<=z)(e:z<half c)(k:Aq c z)(i:CO c z p):Aq c p:=by
 obtain⟨j,_,l⟩:=i;refine l (λx=>Aq c x) (λx a _=>k.step ⟨d,e,a⟩ ?_) (λx y a f _=>a.step f ?_)
 ·have:=(g z x ⟨d,e,a⟩).1;omega
 ·have:=(g x y f).1;omega
theorem Xj(b:Nat)(n:Int)(t v c:ZB)(hb:Nat)(R:Nat->Nat->Bool)(m:Nat->Bool)(h:Nat->Int)(L:Int->Int->Int)(W:Nat->Bool)(z:Nat)(w:World)(S:LS w b n t v c hb R m h L W)(F:Kp (DZ c v t n h))(C:Kp (Kr c R))(K:Kp (DT c v t n h L))(hz:(z:Int)<half c)(Y:Kp (Aq c z))(h9:Kp (bv c (2*z)=9)) :
  Calls prog 220 #[.pointer (some ⟨b,0,none⟩),.int .i64 z] w (OA b n t v c hb R m h L W (λL' W'=>∀p,0<=p->p<half c->CO c z p->le t n (AU t n h L z) (L' p (-1))=true) w):=by
 have hh:=(Zn c).1;have hK:=F.o.hK;have hc:=F.o.hc;have O:=F.o.lat
 obtain⟨p1,p2,p3⟩:=F.o.pops hz Y.o;have af:Ab c z=1:=by unfold Ab Aj;rw[h9.o];rfl
 have hr:=GO F.o.ok;obtain⟨d,hd⟩:∃d:Nat,h z-((1:Nat):Int)=d:=⟨(h z-1).toNat,by omega⟩
 have ad:d<8:=by omega
 have J:Kp (Lv n (L z (-1))∧Lv n (L z (h z-((1:Nat):Int)))):=⟨K.o.rng _ _,K.o.rng _ _⟩
 obtain⟨f,g⟩:∃f,jn t n (L z (-1)) (L z (h z-((1:Nat):Int)))=f:=⟨_,rfl⟩
 have X:Kp (AU t n h L z=f):=⟨g⟩
 have hm:Kp (∀p:Nat,(p:Int)<half c->CO c z p->GY c v t n h p (-1) f∧Aq c p):=⟨λp Z hR=>by
  have:=Zos O.lat K.o Y.o (by omega) hz h9.o hR (by omega) (by omega);rw[X.o]at this;exact⟨this,YQ hr (by omega) hz Y.o hR⟩⟩
 have B:Kp (∀p:Nat,(p:Int)<half c->(R z p=true↔CO c z p)):=⟨λp Z=>by
  rw[C.o z p hz Y.o h9.o (by omega)];exact⟨λk=>k.2,λk=>⟨by omega,k⟩⟩⟩
 clear p1 p2 p3 af hr C;have ab:Kp _:=⟨hd⟩
 clear hd;replace g:=Z_ g;go_in;go_wp2_with fail;refine(KH b 1 d n t v c hb R L W m h z _ S.lab S.ht (by omega) ab.o ad (by omega)).mono ?_;rintro e w1 ⟨rfl,rfl⟩;go_wp2_with fail;refine(NE b n t v c hb R L W z _ S.lab (by omega)).mono ?_;rintro e w2 ⟨rfl,rfl⟩;go_wp2_with fail;refine(Hp b n (L z (-1)) (L z (h z-((1:Nat):Int))) t v c hb R L W _ S.lab O J.o.1 J.o.2).mono ?_;rintro e w3 ⟨rfl,G⟩;rw[g.o];have S1:=S.step G;have P:AG b w2.heap.size w2 w3:=AG.of G;have Q:Kp (Cv c v t n h L W L W∧∀p:Nat,p<0->CO c z p->le t n f (L p (-1))=true):=⟨Cv.refl O.lat K.o,λp Z=>absurd Z (by omega)⟩
 clear S G J;go_wp2_with fail;go_loopw [6] (λi wr=>∃(p:Nat) (L':Int->Int->Int) (W':Nat->Bool),i=.int .i64 p∧(p:Int)<=half c∧LS wr b n t v c hb R m h L' W'∧AG b w2.heap.size w2 wr∧Kp (Cv c v t n h L W L' W'∧∀q:Nat,q<p->CO c z q->le t n f (L' q (-1))=true)) (λi _=>(half c).toNat-(intOf i).toNat);case atStart=>exact⟨0,L,W,rfl,by omega,S1,P,Q⟩
 case round=>
  clear S1 P Q;obtain⟨p,L',W',rfl,Z,M,D,a⟩:=hrel;have q0:=M.lab.c0;have q1:=M.lab.c1;have q2:=M.lab.c2;have q3:=M.lab.c3;go_wp2_with fail;refine(ZY n t v c _ hc).mono ?_;rintro e w4 ⟨rfl,H⟩;have N:=M.step H;have l:=D.trans (AG.of (H.mono D.size));clear q0 q1 q2 q3 M D H;by_cases I:(p:Int)<half c
  ·go_wp2_with fail;refine(V6 b n t v c hb R L' W' p z _ N.lab (by omega) (by omega)).mono ?_;rintro e w5 ⟨rfl,rfl⟩;cases u:R z p with
   | false=>
    have s:Kp (Cv c v t n h L W L' W'∧∀q:Nat,q<p+1->CO c z q->le t n f (L' q (-1))=true):=⟨a.o.1,λq hq j=>by
     by_cases k:q=p
     ·subst k;rw[(B.o q I).2 j]at u;exact absurd u (by simp)
     ·exact a.o.2 q (by omega) j⟩
    go_wp2_with fail;go_roundw;case rel=>exact⟨p+1,L',W',by go_num,by omega,N,l,s⟩
    case measure=>simp[intOf];omega
   | true=>
    have U:=(B.o p I).1 u;obtain⟨y,V⟩:=hm.o p I U;replace u:=Z_ u;replace y:=Z_ y;have ae:Kp ((p:Int)<=half c∧Aq c p):=⟨by omega,V⟩
    clear U V;go_wp2_with fail;refine(XG b n f t v c hb R h L' W' p _ N.lab O ⟨a.o.1.ok⟩ y (by omega) ae).mono ?_;rintro e w6 ⟨L2,W2,rfl,H2,E,r⟩;have S2:=N.to E H2;have aa:=l.trans (E.mono l.size);have s:Kp (Cv c v t n h L W L2 W2∧∀q:Nat,q<p+1->CO c z q->le t n f (L2 q (-1))=true):=⟨a.o.1.trans O.lat K.o r.o.1,λq hq j=>by
     by_cases k:q=p
     ·subst k;exact r.o.2
     ·exact O.lat.trans _ _ _ y.o.1 (a.o.1.ok.rng _ _) (r.o.1.ok.rng _ _) (a.o.2 q (by omega) j) (r.o.1.rise.up _ _)⟩
    clear N l E H2 r a y;go_wp2_with fail;go_roundw;case rel=>exact⟨p+1,L2,W2,by go_num,by omega,S2,aa,s⟩
    case measure=>simp[intOf];omega
  ·have s:Kp (Cv c v t n h L W L' W'∧∀p,0<=p->p<half c->CO c z p->le t n (AU t n h L z) (L' p (-1))=true):=⟨a.o.1,λq q0 q1 j=>by
    have e:((q.toNat:Nat):Int)=q:=Qj q0;have:=a.o.2 q.toNat (by omega) (by rw[e];exact j)
    rw[e]at this;rw[X.o];exact this⟩
   go_wp2_with fail;first|go_end0|refine Qi (Qp rfl _ _ _) rfl ?_
   exact⟨L',W',rfl,N,l,s⟩
theorem Xk(b:Nat)(n:Int)(t v c:ZB)(hb:Nat)(R:Nat->Nat->Bool)(m:Nat->Bool)(h:Nat->Int)(L:Int->Int->Int)(W:Nat->Bool)(p:Nat)(w:World)(S:LS w b n t v c hb R m h L W)(F:Kp (DZ c v t n h))(J:Kp (Kr c R))(K:Kp (DT c v t n h L))(l:(p:Int)<half c)(hl:Kp (Aq c p)) :
  Calls prog 185 #[.pointer (some ⟨b,0,none⟩),.int .i64 p] w (OA b n t v c hb R m h L W (λL' W'=>W' p=false->Ce c v t n h L' p) w):=by
 have hK:=F.o.hK;have hc:=F.o.hc;have M:=F.o.lat
 have hr:Kp (Ay c):=⟨GO F.o.ok⟩
 have hI:Kp (VG c v n p):=⟨F.o.ins (by omega) l⟩
 have r:Kp (∀L',DT c v t n h L'->Lv n (Ei c v t n h L' p)):=⟨λL' k=>M7 M.lat k.rng (λk=>(hI.o.vr (.inl k)).2) (λk=>hI.o.lv (.inl k))⟩
 obtain⟨⟨n1,n2⟩,n3,n4⟩:=Kn hr.o (k:=p) (by omega) (by omega);obtain⟨H,V⟩:∃H:Nat,nx1 c p=H:=⟨(nx1 c p).toNat,by omega⟩
 obtain⟨I,X⟩:∃I:Nat,nx2 c p=I:=⟨(nx2 c p).toNat,by omega⟩
 have m1:Kp ((H:Int)∈AP c p):=⟨(D8 l).2 (.inl V.symm)⟩
 have m2:Kp ((I:Int)∈AP c p):=⟨(D8 l).2 (.inr X.symm)⟩
 have m3:Kp (∀x,x∈AP c p->x=H∨x=I):=⟨λx hx=>by have:=(D8 l).1 hx;rwa [V,X]at this⟩
 have Q:=S.lab.c0;have U:=S.lab.c1;have q2:=S.lab.c2;have q3:=S.lab.c3;go_in;go_wp2_with fail;refine(II n p t v c _ hc hK (by omega) (by omega)).mono ?_;rintro e w1 ⟨rfl,C⟩;have S1:=S.step C;have y:AG b w.heap.size w w1:=AG.of C;rw[V,X];clear Q U q2 q3 S C V X n1 n2 n3 n4;go_wp2_with fail;refine(SH b n t v c hb R m h L W p H _ S1 F K l hl m1).mono ?_;rintro e w2 ⟨L1,W1,rfl,S2,N,d⟩;have z:=y.trans (N.mono y.size);clear S1 y N;go_wp2_with fail;refine(SH b n t v c hb R m h L1 W1 p I _ S2 F ⟨d.o.1.ok⟩ l hl m2).mono ?_;rintro e w3 ⟨u,G,rfl,E,O,f⟩;have B:=z.trans (O.mono z.size);have a:Kp (Cv c v t n h L W u G∧(G p=false->∀j,j∈AP c p->Iu c v t n h u p j)):=⟨d.o.1.trans M.lat K.o f.o.1,λs j hj=>by
  have Z:=f.o.1.rise.same p s;rcases m3.o j hj with e|e
  ·subst e;exact(d.o.2 Z.1).rise M.lat d.o.1.ok.rng f.o.1.ok.rng (r.o L1 d.o.1.ok) f.o.1.rise s
  ·subst e;exact f.o.2 s⟩
 clear S2 z O d f;have Q:=E.lab.c0;have U:=E.lab.c1;have q2:=E.lab.c2;have q3:=E.lab.c3;go_wp2_with fail;refine(HX n p t v c _ hc (by omega) l).mono ?_;rintro e w4 ⟨rfl,D⟩;have S4:=E.step D;have i:=B.trans (AG.of (D.mono B.size));clear Q U q2 q3 E B D;by_cases Y:bv c (2*p)=9
 ·rw[Y];go_wp2_with fail;refine(Xj b n t v c hb R m h u G p _ S4 F J ⟨a.o.1.ok⟩ l hl ⟨Y⟩).mono ?_;rintro e w5 ⟨L3,W3,rfl,S5,P,g⟩;have aa:=i.trans (P.mono i.size);have hR:Kp (Cv c v t n h L W L3 W3∧(W3 p=false->Ce c v t n h L3 p)):=⟨a.o.1.trans M.lat K.o g.o.1,λs=>by
   have Z:=g.o.1.rise.same p s;refine⟨λj hj=>(a.o.2 Z.1 j hj).rise M.lat a.o.1.ok.rng g.o.1.ok.rng (r.o u a.o.1.ok) g.o.1.rise s,λ_ q Q U ab=>?_⟩;rw[RT Z.2];exact g.o.2 q Q U ab⟩
  clear S4 i P a g;go_wp2_with fail;first|go_end0|refine Qi (Qp rfl _ _ _) rfl ?_
  exact⟨L3,W3,rfl,S5,aa,hR⟩
 ·have ad:(bv c (2*p)==9)=false:=Qf.2 Y;have hR:Kp (Cv c v t n h L W u G∧(G p=false->Ce c v t n h u p)):=⟨a.o.1,λs=>⟨a.o.2 s,λk=>absurd k Y⟩⟩
  clear a;go_wp2_with fail;first|go_end0|refine Qi (Qp rfl _ _ _) rfl ?_
  exact⟨u,G,rfl,S4,i,hR⟩
structure EL(c v t:ZB)(n:Int)(h:Nat->Int)(L0:Int->Int->Int)(W0:Nat->Bool)(L:Int->Int->Int)(W:Nat->Bool)(g:Bool)(q:Nat):Prop where
 ok:DT c v t n h L
 all:∀i:Nat,(i:Int)<half c->Aq c i->W i=false->Ce c v t n h L i
 wl:∀j:Nat,W j=true->(j:Int)<=half c∧Aq c j
 no:g=false->W=W0∧L=L0∧∀i:Nat,i<q->W i=false
 yes:g=true->mu t n L W<mu t n L0 W0
 le:mu t n L W<=mu t n L0 W0
theorem EL.skip{d:Int->Int->Int}{f:Nat->Bool}{g:Bool}(S:EL c v t n h d f L W g q)(j:W q=false):EL c v t n h d f L W g (q+1):=
 ⟨S.ok,S.all,S.wl,λa=>⟨(S.no a).1,(S.no a).2.1,λi k=>by
  by_cases e:i=q
  ·subst e;exact j
  ·exact(S.no a).2.2 i (by omega)⟩,S.yes,S.le⟩
theorem EL.hand{l:Int->Int->Int}{m:Nat->Bool}{g:Bool}(F:DZ c v t n h)(S:EL c v t n h l m L W g q)(B:W q=true)(a:q<201)(R:Cv c v t n h L (λj=>if j=q then false else W j) L' W')(r:W' q=false->Ce c v t n h L' q):EL c v t n h l m L' W' true (q+1):=by
 have z:=ZrZ (t:=t) (n:=n) (L:=L) a B;have D:=R.mu;have E:=S.le;refine⟨R.ok,λi p y d=>?_,λj u=>?_,λs=>absurd s (by simp),λ_=>by omega,by omega⟩
 ·by_cases e:i=q
  ·subst e;exact r d
  ·have C:=R.rise.same i d;have f:W i=false:=by have:=C.1;simpa [e] using this
   have o:=F.ins (i:=i) (by omega) p;exact(S.all i p y f).rise F.lat.lat S.ok.rng R.ok.rng (M7 F.lat.lat S.ok.rng (λk=>(o.vr (.inl k)).2) (λk=>o.lv (.inl k))) R.rise d
 ·rcases R.wl j u with k|k
  ·by_cases e:j=q
   ·simp[e]at k
   ·simp[e]at k;exact S.wl j k
  ·exact k
theorem Yw(b:Nat)(n:Int)(t v c:ZB)(hb:Nat)(R:Nat->Nat->Bool)(m:Nat->Bool)(h:Nat->Int)(d:Int->Int->Int)(f:Nat->Bool)(w:World)(O:LS w b n t v c hb R m h d f)(F:Kp (DZ c v t n h))(E:Kp (Kr c R))(G:Kp (EL c v t n h d f d f false 0)) :
  Calls prog 126 #[.pointer (some ⟨b,0,none⟩)] w λe U=>
   ∃(g:Bool) (L:Int->Int->Int) (W:Nat->Bool),e=.returned (.bool g)∧LS U b n t v c hb R m h L W∧AG b w.heap.size w U∧Kp (EL c v t n h d f L W g (half c).toNat):=by
 have hh:=(Zn c).1;have hK:=F.o.hK;have X:=F.o.hc;go_in;go_wp2_with fail;have D:=AG.refl b w.heap.size w;go_loopw [3,4] (λg i wr=>∃(r:Bool) (p:Nat) (L:Int->Int->Int) (W:Nat->Bool),g=.bool r∧(p:Int)<=half c∧i=.int .i64 p∧LS wr b n t v c hb R m h L W∧AG b w.heap.size w wr∧Kp (EL c v t n h d f L W r p)) (λ_ i _=>(half c).toNat-(intOf i).toNat);case atStart=>exact⟨false,0,d,f,rfl,by omega,rfl,O,D,G⟩
 case round=>
  clear O D G;obtain⟨r,p,L,W,rfl,hp,rfl,S,I,y⟩:=hrel;have Z:=S.lab.c0;have q1:=S.lab.c1;have q2:=S.lab.c2;have q3:=S.lab.c3;go_wp2_with fail;refine(ZY n t v c _ X).mono ?_;rintro e w4 ⟨rfl,B⟩;have l:=S.step B;have k:=I.trans (AG.of (B.mono I.size));clear Z q1 q2 q3 S I B;by_cases K:(p:Int)<half c
  ·cases z:W p with
   | false=>
    have a:Kp (EL c v t n h d f L W r (p+1)):=⟨y.o.skip z⟩
    go_wp2_with fail;refine(XM b 42215 W p _ l.lab.wait (by omega) z).mono ?_;rintro e M ⟨rfl,rfl⟩;go_wp2_with fail;go_roundw;case rel=>exact⟨r,p+1,L,W,rfl,by omega,by go_num,l,k,a⟩
    case measure=>simp[intOf];omega
   | true=>
    have Y:Kp (Aq c p):=⟨(y.o.wl p z).2⟩
    go_wp2_with fail;refine(XL b 42215 W p _ l.lab.wait (by omega) z).mono ?_;rintro e M ⟨rfl,C⟩;have P:LS M b n t v c hb R m h L (λj=>if j=p then false else W j):=by rw[C];exact l.to ((AG.refl b _ _).setCell _ _) (l.lab.setW p (by omega) false)
    have s:AG b w.heap.size w M:=by rw[C];exact k.setCell _ _
    replace z:=Z_ z;clear C l k;go_wp2_with fail;refine(Xk b n t v c hb R m h L (λj=>if j=p then false else W j) p _ P F E ⟨y.o.ok⟩ K Y).mono ?_;rintro e w6 ⟨N,Q,rfl,V,H,u⟩;have J:=s.trans (H.mono s.size);have a:Kp (EL c v t n h d f N Q true (p+1)):=⟨y.o.hand F.o z.o (by omega) u.o.1 u.o.2⟩
    clear P s H u y;go_wp2_with fail;go_roundw;case rel=>exact⟨true,p+1,N,Q,rfl,by omega,by go_num,V,J,a⟩
    case measure=>simp[intOf];omega
  ·have e:p=(half c).toNat:=by omega
   have a:Kp (EL c v t n h d f L W r (half c).toNat):=⟨by rw[<-e];exact y.o⟩
   clear y;go_wp2;go_ret;exact⟨r,L,W,rfl,l,k,a⟩
structure Dq(c v t:ZB)(n:Int)(h:Nat->Int)(L:Int->Int->Int):Prop where
 ok:DT c v t n h L
 all:∀i:Int,0<=i->i<half c->Aq c i->Ce c v t n h L i
def Yj(b:Nat)(n:Int)(t v c:ZB)(hb:Nat)(R:Nat->Nat->Bool)(m:Nat->Bool)(h:Nat->Int)(w:World)(e:Ending)(w':World):Prop:=
 ∃(L:Int->Int->Int) (W:Nat->Bool),e=.returned (.tuple #[])∧LS w' b n t v c hb R m h L W∧AG b w.heap.size w w'∧Kp (Dq c v t n h L)
theorem Xl(b:Nat)(n:Int)(t v c:ZB)(hb:Nat)(R:Nat->Nat->Bool)(m:Nat->Bool)(h:Nat->Int)(f:Int->Int->Int)(j:Nat->Bool)(w:World)(D:LS w b n t v c hb R m h f j)(F:Kp (DZ c v t n h))(p:Kp (Kr c R))(r:Kp (EL c v t n h f j f j false 0)) :
  Calls prog 66 #[.pointer (some ⟨b,0,none⟩)] w (Yj b n t v c hb R m h w):=by
 have U:=(Zn c).1;go_in;go_wp2_with fail;have l:=AG.refl b w.heap.size w;go_loopg [2] (mu t n f j+1) (λJ g wr=>∃(k:Bool) (L:Int->Int->Int) (W:Nat->Bool),g=.bool k∧J=mu t n L W+(if k then 1 else 0)∧LS wr b n t v c hb R m h L W∧AG b w.heap.size w wr∧Kp (EL c v t n h L W L W false 0)∧Kp (k=false->∀i:Nat,(i:Int)<half c->W i=false));case atStart=>exact⟨true,f,j,rfl,by simp,D,l,r,⟨λh=>absurd h (by simp)⟩⟩
 case round=>
  clear D l r;obtain⟨k,L,W,rfl,d,S,y,z,G⟩:=hrel;replace d:=Z_ d;cases k
  ·have N:Kp (Dq c v t n h L):=⟨z.o.ok,λi K u P=>by
    have e:((i.toNat:Nat):Int)=i:=Qj K;have:=z.o.all i.toNat (by rw[e];exact u) (by rw[e];exact P) (G.o rfl i.toNat (by rw[e];exact u))
    rwa [e]at this⟩
   go_wp2_with fail;first|go_end0|refine Qi (Qp rfl _ _ _) rfl ?_
   exact⟨L,W,rfl,S,y,N⟩
  ·clear G;go_wp2_with fail;refine(Yw b n t v c hb R m h L W _ S F p z).mono ?_;rintro e V ⟨g,C,E,rfl,I,s,a⟩;have B:=y.trans (s.mono y.size);clear S y s z;go_wp2_with fail;go_roundg (mu t n C E+(if g then 1 else 0));case measure=>
    have u:=d.o;have Q:=a.o.le;have M:=a.o.yes;simp at u;cases g
    ·simp;omega
    ·have:=M rfl;simp;omega
   case rel=>refine⟨g,C,E,rfl,rfl,I,B,⟨⟨a.o.ok,a.o.all,a.o.wl,λ_=>⟨rfl,rfl,λi H=>absurd H (by omega)⟩,λh=>absurd h (by simp),Qb _⟩⟩,⟨λO i H=>?_⟩⟩;exact(a.o.no O).2.2 i (by omega)
theorem Zsh{s:ZB}(H:Cs s n):Lv n ((ZI (BJ s n) n.toNat).getD 0)∧∀a,Lv n a->le s n ((ZI (BJ s n) n.toNat).getD 0) a=true:=by
 obtain⟨b,hb,e⟩:=H.bot;have D:BJ s n b=true:=Zb.2 (λi m=>e i ⟨by omega,by omega⟩);cases z:ZI (BJ s n) n.toNat with
 | none=>
  exfalso;have:∀k:Nat,ZI (BJ s n) k=none->∀i:Nat,i<k->BJ s n i=false:=by
   intro k B i m;cases g:BJ s n i
   ·rfl
   ·exfalso;have C:∃j:Nat,j<=i∧BJ s n j=true∧∀q:Nat,q<j->BJ s n q=false:=by
     have:∀d:Nat,∀i:Nat,i<=d->BJ s n i=true->∃j:Nat,j<=i∧BJ s n j=true∧∀q:Nat,q<j->BJ s n q=false:=by
      intro d;induction d with
      | zero=>intro i m g;exact⟨i,Qb _,g,λq o=>by omega⟩
      | succ d F=>
       intro i m g;by_cases o:∃q:Nat,q<i∧BJ s n q=true
       ·obtain⟨q,f,p⟩:=o;obtain⟨j,G,r,u⟩:=F q (by omega) p;exact⟨j,by omega,r,u⟩
       ·exact⟨i,Qb _,g,λq f=>by cases E:BJ s n q;rfl;exact absurd ⟨q,f,E⟩ o⟩
     exact this i i (Qb _) g
    obtain⟨j,G,r,u⟩:=C;rw[IN (i:=j) (by omega) u r]at B;exact absurd B (by simp)
  have y:=this n.toNat z b.toNat (by have:=hb.1;have:=hb.2;omega)
  rw[Qj hb.1,D]at y;exact absurd y (by simp)
 | some x=>
  obtain⟨I,K,J⟩:=HY z;refine⟨⟨I,by simp;omega⟩,λa l=>?_⟩;have:=Zb.1 J a.toNat (by have:=l.1;have:=l.2;omega)
  rw[Qj l.1]at this;exact this
def Fm(n:Int)(t v c:ZB)(hb:Nat)(R:Nat->Nat->Bool)(L:Int->Int->Int)(W:Nat->Bool)(j:Nat):Value:=
 if j=0 then .int .i64 n else if j=1 then .string t else if j=2 then .string v else if j=3 then .string c else if j=4 then .pointer (some ⟨hb,0,none⟩)
 else if j<40406 then .bool (R ((j-5)/201) ((j-5)%201)) else if j<40607 then .int .i64 (L ((j:Int)-40406) (-1))
 else if j<42215 then .int .i64 (L (((j-40607)/8:Nat):Int) (((j-40607)%8:Nat):Int)) else .bool (W (j-42215))
theorem Yx(n:Int)(t v c:ZB)(hb:Nat):prog.built 199 [(0,.agg #[.int .i64 n,.string t,.string v,.string c]),(1,.pointer (some ⟨hb,0,none⟩))]=some (Bg 42416 (Fm n t v c hb (λ_ _=>false) (λ_ _=>0) (λ_=>false))):=by kernel_rfl
theorem Zq3(n:Int)(t v c:ZB)(hb:Nat)(R:Nat->Nat->Bool)(L:Int->Int->Int)(W:Nat->Bool)(j:Nat):(Fm n t v c hb R L W j).oneCell'=true:=by
 unfold Fm;repeat (split;rfl)
 rfl
theorem ZV.of_cells(g:b<w.heap.size)(e:∀j,j<42416->w.cell? ⟨b,j,none⟩=some (Fm n t v c hb R L W j))(f:∀j,j<42416->w.frozen? ⟨b,j,none⟩=false):ZV w b n t v c hb R L W:=by
 refine⟨g,e 0 (by omega),e 1 (by omega),e 2 (by omega),e 3 (by omega),e 4 (by omega),λi j k a=>?_,λj a=>?_,λj d a hd=>?_,λj a=>?_,f⟩
 ·rw[e (5+i*201+j) (by omega)];unfold Fm;rw[if_neg (by omega),if_neg (by omega),if_neg (by omega),if_neg (by omega),if_neg (by omega),if_pos (by omega),show (5+i*201+j-5)/201=i from by omega,show (5+i*201+j-5)%201=j from by omega]
 ·rw[e (40406+j) (by omega)];unfold Fm;rw[if_neg (by omega),if_neg (by omega),if_neg (by omega),if_neg (by omega),if_neg (by omega),if_neg (by omega),if_pos (by omega),show ((40406+j:Nat):Int)-40406=(j:Int) from by omega]
 ·rw[e (40607+j*8+d) (by omega)];unfold Fm;rw[if_neg (by omega),if_neg (by omega),if_neg (by omega),if_neg (by omega),if_neg (by omega),if_neg (by omega),if_neg (by omega),if_pos (by omega),show (40607+j*8+d-40607)/8=j from by omega,show (40607+j*8+d-40607)%8=d from by omega]
 ·rw[e (42215+j) (by omega)];unfold Fm;rw[if_neg (by omega),if_neg (by omega),if_neg (by omega),if_neg (by omega),if_neg (by omega),if_neg (by omega),if_neg (by omega),if_neg (by omega),show 42215+j-42215=j from by omega]
theorem ZV.congr(h:ZV w b n t v c hb R L W)(e:∀p d:Int,0<=p->p<201->-1<=d->d<8->L p d=L' p d):ZV w b n t v c hb R L' W:=
 ⟨h.lt,h.c0,h.c1,h.c2,h.c3,h.hp,h.r,λj a=>by rw[<-e j (-1) (by omega) (by omega) (by omega) (by omega)];exact h.pl j a,λj d a hd=>by rw[<-e j d (by omega) (by omega) (by omega) (by omega)];exact h.vl j d a hd,h.wt,h.f⟩
theorem Yy(h:Bk w b 42416)(n:Int)(t v c:ZB)(hb:Nat)(R:Nat->Nat->Bool)(L:Int->Int->Int)(W:Nat->Bool):ZV (w.setCells b 0 (Bg 42416 (Fm n t v c hb R L W)).toList) b n t v c hb R L W:=by
 refine ZV.of_cells ?_ (λj a=>?_) (λj a=>?_)
 ·have:=(Z6 (AG.refl b 0 w) (Bg 42416 (Fm n t v c hb R L W)).toList 0).size;exact Qq h.lt this
 ·have:=ZE w b 0 42416 (Fm n t v c hb R L W) h.c j a
  rwa [QT]at this
 ·rw[QQ];have:=h.f j a
  rwa [QT]at this
theorem HR(w:World)(a d:Obj):((w.alloc a).alloc d).heap[w.heap.size+1]?=some d:=by have h:=heap_alloc_last (w.alloc a) d;rw[show (w.alloc a).heap.size=w.heap.size+1 from by simp]at h;exact h
theorem Ww{P:Program}{o:Oper}{a:Act}{K:Act->World->Prop}{Q:Exit->Act->World->Prop}(t:TypeId)(d:Array (Nat×Operand))(j:o.op=.build t d)(l:List (Nat×Value))(g:(d.map λ(i,x)=>(i,a.eval x)).toList=l)(e:Array Value)
  (f:P.built t l=some e) (h:K (a.put o.dst (.agg e)) w):o.wp P a w K Q:=
 IP t d j e (by rw[g];exact f) h
theorem Wq{P:Program}{op:Oper}{a:Act}{K:Act->World->Prop}{Q:Exit->Act->World->Prop}(g:TypeId)(x y:Operand)(p:op.op=.store g x y)
  (b o n:Nat) (d:Array Value) (f:Nat->Value) (e:d=Bg n f) (r:a.eval x=.pointer (some ⟨b,o,none⟩)) (s:a.eval y=.agg d) (m:(P.info? g).map (·.size)=some n)
  (k:∀j,j<n->(w.cell? ⟨b,o+j,none⟩).isSome=true) (l:∀j,j<n->w.frozen? ⟨b,o+j,none⟩=false) (i:∀j,j<n->(f j).oneCell'=true) (h:K (a.put op.dst undef) (w.setCells b o d.toList)):op.wp P a w K Q:=by
 subst e;exact Zp g x y p b o n f r s m k l i h
def ZrH(b:Nat)(n bot:Int)(t v c:ZB)(hb:Nat)(w:World)(e:Ending)(w':World):Prop:=
 e=.returned (.pointer (some ⟨b,0,none⟩))∧ZV w' b n t v c hb (λ_ _=>false) (λ_ _=>bot) (λ_=>false)∧Below w.heap.size w w'
theorem Wf(n:Int)(t v c:ZB)(hb:Nat)(w:World)(hT:Ks t n) :
  Calls prog 64 #[.agg #[.int .i64 n,.string t,.string v,.string c],.pointer (some ⟨hb,0,none⟩)] w (ZrH (w.heap.size+1) n ((ZI (BJ t n) n.toNat).getD 0) t v c hb w):=by
 obtain⟨G,l⟩:∃G,G=((w.alloc (.cells #[.int .i64 n,.string t,.string v,.string c] 76)).alloc (.cells Tryz.zeroCells199 199)):=⟨_,rfl⟩
 have ad:G.heap.size=w.heap.size+2:=by rw[l];simp
 have E:Bk G (w.heap.size+1) 42416:=by rw[l];exact Bk.of_row (HR _ _ _) Tryz.zeroCells199_size
 have V:AF G w.heap.size [.int .i64 n,.string t,.string v,.string c]:=by rw[l];exact(AF.new4 w _ _ _ _ _).alloc _
 have O:Below w.heap.size w G:=by rw[l];exact((Qh _ _).alloc (Qb _) _).alloc (by simp) _
 obtain⟨B,m⟩:∃B,B=Bg 42416 (Fm n t v c hb (λ_ _=>false) (λ_ _=>0) (λ_=>false)):=⟨_,rfl⟩
 have g:=Yx n t v c hb;rw[<-m]at g;obtain⟨w1,u⟩:∃w1,w1=G.setCells (w.heap.size+1) 0 B.toList:=⟨_,rfl⟩
 have y:AG (w.heap.size+1) G.heap.size G w1:=by rw[u];exact Z6 (AG.refl _ _ _) _ _
 have Y:ZV w1 (w.heap.size+1) n t v c hb (λ_ _=>false) (λ_ _=>0) (λ_=>false):=by rw[u,m];exact Yy E _ _ _ _ _ _ _ _
 replace m:=Z_ m;replace g:=Z_ g;have D:=V.but y (by omega);have P:Below w.heap.size w w1:=O.trans ((y.mono O.size).below (by omega));have ae:=y.size;replace l:=Z_ l;replace u:=Z_ u;have q0:=D.c 0 _ rfl;have q1:=D.c 1 _ rfl;have q2:=D.c 2 _ rfl;have q3:=D.c 3 _ rfl;clear V O y;go_in;repeat (first|refine Ww 199 #[(0,.tmp 9),(1,.tmp 10)] rfl [(0,.agg #[.int .i64 n,.string t,.string v,.string c]),(1,.pointer (some ⟨hb,0,none⟩))] (by simp[Act.eval]) B g.o ?_|(refine Wq 199 (.tmp 5) (.tmp 11) rfl (w.heap.size+1) 0 42416 B (Fm n t v c hb (λ_ _=>false) (λ_ _=>0) (λ_=>false)) m.o rfl rfl (by kernel_rfl) (by rw[<-l.o];exact E.c) (by rw[<-l.o];exact E.f) (λj _=>Zq3 _ _ _ _ _ _ _ _ j) ?_;rw[<-l.o,<-u.o];dsimp only [Act.put])|go_step)
 refine(NO hT.tab _).mono ?_;rintro e w2 ⟨rfl,Q⟩;have Z:=Y.step Q;have U:=P.trans (Q.mono P.size);unfold By;obtain⟨a,r⟩:∃a,(ZI (BJ t n) n.toNat).getD 0=a:=⟨_,rfl⟩
 rw[r];replace r:=Z_ r;clear q0 q1 q2 q3 D Y E P Q l u;go_wp2_with fail;go_loopw [15] (λi wr=>∃(p:Nat) (L:Int->Int->Int),i=.int .i64 p∧p<=201∧ZV wr (w.heap.size+1) n t v c hb (λ_ _=>false) L (λ_=>false)∧Below w.heap.size w wr∧Kp (∀q d:Int,0<=q->q<p->-1<=d->d<8->L q d=a)) (λi _=>201-(intOf i).toNat);case atStart=>exact⟨0,_,rfl,by omega,Z,U,⟨λq d I S=>by omega⟩⟩
 case round=>
  clear Z U;obtain⟨p,L,rfl,hp,H,y,z⟩:=hrel;by_cases F:p<201
  ·have aa:(p:Int)<201:=by omega
   have r0:=H.pl p F;have r1:=H.f (40406+p) (by omega);have K:=H.setP p F a;have C:=y.setCell (p:=⟨w.heap.size+1,40406+p,none⟩) (by simp) (.int .i64 a);obtain⟨w3,X⟩:∃w3,wr.setCell ⟨w.heap.size+1,40406+p,none⟩ (.int .i64 a)=w3:=⟨_,rfl⟩
   rw[X]at K C;have s:Kp ((∀q d:Int,0<=q->q<p->-1<=d->d<8->Ea L p (-1) a q d=a)∧Ea L p (-1) a p (-1)=a∧∀d:Nat,d<0->Ea L p (-1) a p d=a):=⟨λq d I S M N=>by rw[Fl (by omega)];exact z.o q d I S M N,GS _ _ _ _,λd hd=>absurd hd (by omega)⟩
   clear H y z;go_wp2_with fail;go_loopw [22] (λi wr=>∃(e:Nat) (L:Int->Int->Int),i=.int .i64 e∧e<=8∧ZV wr (w.heap.size+1) n t v c hb (λ_ _=>false) L (λ_=>false)∧Below w.heap.size w wr∧Kp ((∀q d:Int,0<=q->q<p->-1<=d->d<8->L q d=a)∧L p (-1)=a∧∀d:Nat,d<e->L p d=a)) (λi _=>8-(intOf i).toNat);case atStart=>exact⟨0,_,rfl,by omega,K,C,s⟩
   case round=>
    clear K C s r0 r1 X;obtain⟨e,L,rfl,he,H,y,z⟩:=hrel;by_cases J:e<8
    ·have ab:(e:Int)<8:=by omega
     have r0:=H.vl p e F J;have r1:=H.f (40607+p*8+e) (by omega);have K:=H.setV p e F J a;have C:=y.setCell (p:=⟨w.heap.size+1,40607+p*8+e,none⟩) (by simp) (.int .i64 a);have s:Kp ((∀q d:Int,0<=q->q<p->-1<=d->d<8->Ea L p e a q d=a)∧Ea L p e a p (-1)=a∧∀d:Nat,d<e+1->Ea L p e a p d=a):=⟨λq d I S M N=>by rw[Fl (by omega)];exact z.o.1 q d I S M N,by rw[Fl (by omega)];exact z.o.2.1,λd hd=>by
      by_cases k:d=e
      ·subst k;exact GS _ _ _ _
      ·rw[Fl (by omega)];exact z.o.2.2 d (by omega)⟩
     clear H y z;go_wp2_with fail;go_roundw;case rel=>exact⟨e+1,_,by go_num,by omega,K,C,s⟩
     case measure=>simp[intOf];omega
    ·have s:Kp (∀q d:Int,0<=q->q<(p+1:Nat)->-1<=d->d<8->L q d=a):=⟨λq d I S M N=>by
      by_cases k:q=p
      ·subst k;by_cases k2:d=-1
       ·subst k2;exact z.o.2.1
       ·have:=z.o.2.2 d.toNat (by omega)
        rwa [Qj (by omega)]at this
      ·exact z.o.1 q d I (by omega) M N⟩
     clear z;go_wp2_with fail;go_roundw;case rel=>exact⟨p+1,L,by go_num,by omega,H,y,s⟩
     case measure=>simp[intOf];omega
  ·have e:p=201:=by omega
   subst e;have K:=H.congr (L':=λ_ _=>a) (λq d I S M N=>z.o q d I (by omega) M N);go_wp2;go_ret;exact⟨rfl,by rw[r.o];exact K,y⟩
theorem YR(n:Int)(t v c:ZB)(w:World)(M:c.size<=maxLen)(K:half c<=200)(H:Kp (Ay c)) :
  Calls prog 60 #[.agg #[.int .i64 n,.string t,.string v,.string c]] w λe U=>
   ∃m:Nat->Bool,e=.returned (.agg (Bg 201 (λj=>.bool (m j))))∧Kp (∀j:Nat,m j=true↔(j:Int)<=half c∧Aq c j)∧Below w.heap.size w U:=by
 have i:Tryz.zeroCells134.all (·.oneCell')=true:=by rw[JQ];exact TW _ _ rfl
 go_in;go_wp2_with fail;rw[RK _ _ _ 134 (Et _ _ _ _) i];obtain⟨k,a⟩:∃k,k=(((w.alloc (.cells #[.int .i64 n,.string t,.string v,.string c] 76)).alloc (.cells Tryz.zeroCells134 134)).alloc (.cells Tryz.zeroCells134 134)):=⟨_,rfl⟩
 rw[<-a];have N:k.heap.size=w.heap.size+3:=by rw[a];simp
 have z:Cp k (w.heap.size+1+1) 0 (λ_=>false):=by rw[a];exact Cp.of_row (t:=134) (by rw[Et,JQ])
 have B:Cp k (w.heap.size+1) 0 (λ_=>false):=by rw[a];exact Cp.of_row (t:=134) (by rw[EV,JQ])
 have g:AF k w.heap.size [.int .i64 n,.string t,.string v,.string c]:=by rw[a];exact((AF.new4 w _ _ _ _ _).alloc _).alloc _
 have u:Below w.heap.size w k:=by rw[a];exact(((Qh _ _).alloc (Qb _) _).alloc (by simp) _).alloc (by simp;omega) _
 clear a i;have O:=g.c 0 _ rfl;have P:=g.c 1 _ rfl;have Q:=g.c 2 _ rfl;have S:=g.c 3 _ rfl;go_wp2_with fail;have hF:=NM n (-1) (w.heap.size+1+1) 0 t v c M K H 201 (λ_=>false) 0 k (LK _ _) z (by have:=(Zn c).1;omega);refine hF.mono ?_;rintro e w1 ⟨rfl,m,F,l,y⟩;have p:=B.but l (by omega);have D:Below w.heap.size w w1:=u.trans ((l.mono (by omega)).below (by omega));have s:Kp (∀j:Nat,m j=true↔(j:Int)<=half c∧Aq c j):=⟨λj=>y.iff H.o (λx I=>by have I:x=((0:Nat):Int):=I;omega) j⟩
 clear O P Q S z B g u l y hF;have d:∃C:World,w1.setCells (w.heap.size+1) 0 (Bg 201 (λj=>.bool (m j))).toList=C:=⟨_,rfl⟩
 obtain⟨C,d⟩:=d;have r:Kp (∀j,j<201->C.cell? ⟨w.heap.size+1,0+j,none⟩=some (.bool (m j))):=⟨by rw[<-d];exact ZE w1 (w.heap.size+1) 0 201 (λj=>.bool (m j)) (λj G=>by rw[p.c j G];rfl)⟩
 have E:Below w.heap.size w C:=by rw[<-d];exact Hs D (b:=w.heap.size+1) (by omega) (Bg 201 (λj=>.bool (m j))).toList 0
 replace d:=Z_ d;rename_i X Y V J;refine J _ _ ?_;repeat (first|refine KO 134 (.tmp 3) rfl (w.heap.size+1+1) 0 201 (λj=>.bool (m j)) rfl _ Tryz.underlying134 rfl (by kernel_rfl) F.c ?_|(refine Zp 134 (.tmp 2) (.tmp 7) rfl (w.heap.size+1) 0 201 (λj=>.bool (m j)) rfl rfl (by kernel_rfl) (λj G=>by rw[p.c j G];rfl) p.f (λ_ _=>rfl) ?_;rw[d.o])|go_step)
 refine Qi (v:=.agg (Bg 201 (λj=>.bool (m j)))) (Ms rfl _ C (w.heap.size+1) 0 201 (λj=>.bool (m j)) _ rfl Tryz.underlying134 rfl (by kernel_rfl) r.o) rfl ⟨m,rfl,s,E⟩
theorem PV(w w1:World)(a d f:Obj)(hb:Below ((w.alloc a).alloc d).heap.size ((w.alloc a).alloc d) w1):(w1.alloc f).heap[w.heap.size+1]?=some d:=by have e:=hb.size;rw[Below.heap_alloc w1 f (w.heap.size+1) (by simp at e;omega),hb.block _ (by simp)];have h:=heap_alloc_last (w.alloc a) d;rw[show (w.alloc a).heap.size=w.heap.size+1 from by simp]at h;exact h
theorem Xm(n jn:Int)(i:Nat)(t v c:ZB)(w:World)(hc:c.size<=maxLen)(hK:half c<=200)(V:Kp (Ay c))(hi:(i:Int)<half c) :
  Calls prog 124 #[.agg #[.int .i64 n,.string t,.string v,.string c],.int .i64 i,.int .i64 jn] w λe w'=>
   ∃m:Nat->Bool,e=.returned (.agg (Bg 201 (λj=>.bool (m j))))∧Kp (∀j:Nat,m j=true↔(j:Int)<=half c∧Ac c (λx=>x∈AP c i) jn j)∧Below w.heap.size w w':=by
 have C:Tryz.zeroCells134.all (·.oneCell')=true:=by rw[JQ];exact TW _ _ rfl
 obtain⟨⟨n1,n2⟩,n3,n4⟩:=Kn V.o (k:=i) (by omega) (by omega);have e1:Kp (nx1 c i=((nx1 c i).toNat:Nat)):=⟨by omega⟩
 have e2:Kp (nx2 c i=((nx2 c i).toNat:Nat)):=⟨by omega⟩
 go_in;go_wp2_with fail;refine(II n i t v c _ hc hK (by omega) (by omega)).mono ?_;rintro e w1 ⟨rfl,p⟩;have S:=p.size;have K:=((AF.new4 w (.int .i64 n) (.string t) (.string v) (.string c) 76).alloc (.cells Tryz.zeroCells134 134)).step p;have M:=λo3=>PV w w1 _ _ o3 p;have E:Below w.heap.size w w1:=(((Qh _ _).alloc (Qb _) _).alloc (by simp) _).trans (p.mono (by simp;omega))
 clear p;rw[show (((w.alloc (.cells #[.int .i64 n,.string t,.string v,.string c] 76)).alloc (.cells Tryz.zeroCells134 134)).heap.size)=w.heap.size+2 from by simp]at S;go_wp2_with fail;rw[RK _ _ _ 134 (heap_alloc_last w1 _) C];obtain⟨H,r⟩:∃H,H=w1.alloc (.cells Tryz.zeroCells134 134):=⟨_,rfl⟩
 have N:Cp H w1.heap.size 0 (λ_=>false):=by rw[r];exact Cp.of_row (t:=134) (by rw[heap_alloc_last,JQ])
 have O:Cp H (w.heap.size+1) 0 (λ_=>false):=by rw[r];exact Cp.of_row (t:=134) (by rw[M,JQ])
 have a:=K.alloc (.cells Tryz.zeroCells134 134);have D:Below w.heap.size w H:=by rw[r];exact E.alloc E.size _
 rw[<-r]at a ⊢;clear r C M K E;have q0:=a.c 0 _ rfl;have q1:=a.c 1 _ rfl;have q2:=a.c 2 _ rfl;have q3:=a.c 3 _ rfl;go_wp2_with fail;rw[e1.o];refine(NM n jn w1.heap.size 0 t v c hc hK V 201 (λ_=>false) (nx1 c i).toNat H (LK _ _) N (by omega)).mono ?_;rintro e w2 ⟨rfl,m2,P,u,y⟩;have g:=a.but u (by omega);have B:=O.but u (by omega);have d:Below w.heap.size w w2:=D.trans ((u.mono D.size).below (by omega));replace y:=Z_ y;clear q0 q1 q2 q3 a N O u D;have q0:=g.c 0 _ rfl;have q1:=g.c 1 _ rfl;have q2:=g.c 2 _ rfl;have q3:=g.c 3 _ rfl;go_wp2_with fail;rw[e2.o];refine(NM n jn w1.heap.size 0 t v c hc hK V 201 m2 (nx2 c i).toNat w2 (LK _ _) P (by omega)).mono ?_;rintro e w3 ⟨rfl,m,aa,F,J⟩;have l:=B.but F (by omega);have I:Below w.heap.size w w3:=d.trans ((F.mono d.size).below (by omega));have Q:Kp (∀j:Nat,m j=true↔(j:Int)<=half c∧Ac c (λx=>x∈AP c i) jn j):=⟨λj=>by
  have hu:=(y.o.union J).iff V.o (λx z=>by rcases z with z|z<;>(have z:x=_:=z;omega)) j;rw[hu];have hS:∀x,(Bx ((nx1 c i).toNat:Nat) x∨Bx ((nx2 c i).toNat:Nat) x)↔x∈AP c i:=λx=>by rw[D8 hi];show (x=_∨x=_)↔_;rw[<-e1.o,<-e2.o]
  constructor
  ·rintro⟨X,Y⟩;exact⟨X,Y.congr (λx z=>(hS x).1 z)⟩
  ·rintro⟨X,Y⟩;exact⟨X,Y.congr (λx z=>(hS x).2 z)⟩⟩
 clear q0 q1 q2 q3 g P B d F y J;obtain⟨U,s⟩:∃U:World,w3.setCells (w.heap.size+1) 0 (Bg 201 (λj=>.bool (m j))).toList=U:=⟨_,rfl⟩
 have G:Kp (∀j,j<201->U.cell? ⟨w.heap.size+1,0+j,none⟩=some (.bool (m j))):=⟨by rw[<-s];exact ZE w3 (w.heap.size+1) 0 201 (λj=>.bool (m j)) (λj hj=>by rw[l.c j hj];rfl)⟩
 have Z:Below w.heap.size w U:=by rw[<-s];exact Hs I (b:=w.heap.size+1) (by omega) (Bg 201 (λj=>.bool (m j))).toList 0
 replace s:=Z_ s;dsimp only;repeat (first|refine KO 134 (.tmp 9) rfl w1.heap.size 0 201 (λj=>.bool (m j)) rfl _ Tryz.underlying134 rfl (by kernel_rfl) aa.c ?_|(refine Zp 134 (.tmp 6) (.tmp 25) rfl (w.heap.size+1) 0 201 (λj=>.bool (m j)) rfl rfl (by kernel_rfl) (λj hj=>by rw[l.c j hj];rfl) l.f (λ_ _=>rfl) ?_;rw[s.o])|go_step)
 refine Qi (v:=.agg (Bg 201 (λj=>.bool (m j)))) (Ms rfl _ U (w.heap.size+1) 0 201 (λj=>.bool (m j)) _ rfl Tryz.underlying134 rfl (by kernel_rfl) G.o) rfl ⟨m,rfl,Q,Z⟩
theorem Zv.but{i:Nat}{k:Int}(h:Zv w b n t v c k T A)(hb:AG i w.heap.size w w1)(g:b≠i):Zv w1 b n t v c k T A:=by have e:∀j,w1.cell? ⟨b,j,none⟩=w.cell? ⟨b,j,none⟩:=λj=>hb.cell (p:=⟨b,j,none⟩) h.lt g;exact⟨Qq h.lt hb.size,by rw[e];exact h.c0,by rw[e];exact h.c1,by rw[e];exact h.c2,by rw[e];exact h.c3,by rw[e];exact h.k,λj d=>by rw[e];exact h.t j d,λj d=>by rw[e];exact h.a j d,λj d=>by rw[hb.frozen (p:=⟨b,j,none⟩) h.lt g];exact h.f j d⟩
theorem ON(H:Di c T A)(h:Ac c (Bx x) (-1) (half c)):0<T x:=by have:=h (λy=>0<T y->0<T x) (λy d _=>by rw[show y=x from d];exact id) (λy z d a _ e=>d (H.full y z a.1 a.2.1 a.2.2 e));exact this (by rw[H.fin];omega)
def Mp(R:Nat->Nat->Bool)(p:Nat)(m:Nat->Bool):Nat->Nat->Bool:=λi j=>if i=p then m j else R i j
theorem ZV.setR(h:ZV w b n t v c hb R L W)(p:Nat)(l:p<201)(m:Nat->Bool):ZV (w.setCells b (5+p*201) (Bg 201 (λj=>.bool (m j))).toList) b n t v c hb (Mp R p m) L W:=by
 have a:∀j,(j<5+p*201∨5+p*201+201<=j)->(w.setCells b (5+p*201) (Bg 201 (λj=>.bool (m j))).toList).cell? ⟨b,j,none⟩=w.cell? ⟨b,j,none⟩:=λj d=>
  World.cell?_setCells_out b _ (5+p*201) w ⟨b,j,none⟩ (λ_ _=>by rw[IZ];exact d)
 refine⟨?_,?_,?_,?_,?_,?_,λi j g d=>?_,λj d=>?_,λj e d k=>?_,λj d=>?_,λj d=>by rw[QQ];exact h.f j d⟩
 ·have:=(Z6 (AG.refl b 0 w) (Bg 201 (λj=>Value.bool (m j))).toList (5+p*201)).size;exact Qq h.lt this
 ·rw[a 0 (by omega)];exact h.c0
 ·rw[a 1 (by omega)];exact h.c1
 ·rw[a 2 (by omega)];exact h.c2
 ·rw[a 3 (by omega)];exact h.c3
 ·rw[a 4 (by omega)];exact h.hp
 ·by_cases e:i=p
  ·subst e;rw[ZE w b (5+i*201) 201 (λj=>.bool (m j)) (λj d=>by rw[h.r i j g d];rfl) j d];simp[Go.Proofs.YtcnbifdlkalimabGreat.Mp]
  ·rw[a _ (by omega),h.r i j g d];simp[Go.Proofs.YtcnbifdlkalimabGreat.Mp,e]
 ·rw[a _ (by omega)];exact h.pl j d
 ·rw[a _ (by omega)];exact h.vl j e d k
 ·rw[a _ (by omega)];exact h.wt j d
structure Ku(c:ZB)(T A:Int->Int)(lm:Nat->Bool):Prop where
 nar:Dy c T A
 rng:Ay c
 live:∀j:Nat,lm j=true↔(j:Int)<=half c∧Aq c j
 ends:∀x,Aq c x->Ac c (Bx x) (-1) (half c)
theorem Ku.reg(F:Ku c T A lm){z:Nat}(s:(z:Int)<half c)(l:Aq c z)(m:Nat->Bool)(r:∀j:Nat,m j=true↔(j:Int)<=half c∧Ac c (λx=>x∈AP c z) (A z) j)(p:Nat):m p=true↔(p:Int)<=half c∧CO c z p:=by
 have a:∀x,Ac c (Bx z) (-1) x->Aq c x:=λx g=>l.trans g;have k:=VW F.rng F.nar (i:=z) (by omega) s (λx g=>ON F.nar.w (F.ends x (a x g)))
 rw[r p];constructor
 ·rintro⟨d,f⟩;exact⟨d,A z,k,f⟩
 ·rintro⟨d,j,o,f⟩;have e:=EW.unique (F.ends z l) k o;exact⟨d,by rw[e];exact f⟩
structure EE(c:ZB)(lm:Nat->Bool)(R:Nat->Nat->Bool)(W:Nat->Bool)(q:Nat):Prop where
 reg:∀z p:Nat,z<q->(z:Int)<half c->Aq c z->bv c (2*z)=9->p<201->(R z p=true↔(p:Int)<=half c∧CO c z p)
 wait:∀j:Nat,j<201->(W j=true↔j<q∧lm j=true)
def ZrI(b:Nat)(n:Int)(t v c:ZB)(hb:Nat)(L:Int->Int->Int)(lm:Nat->Bool)(w:World)(e:Ending)(w':World):Prop:=
 ∃(R:Nat->Nat->Bool) (W:Nat->Bool),e=.returned (.tuple #[])∧ZV w' b n t v c hb R L W∧AG b w.heap.size w w'∧Kp (EE c lm R W 201)
theorem EE.skip(F:Ku c T A lm)(S:EE c lm R W q)(h:lm q=false):EE c lm R W (q+1):=by
 refine⟨λz p m f d g i=>?_,λj k=>?_⟩
 ·by_cases e:z=q
  ·subst e;rw[(F.live z).2 ⟨by omega,d⟩]at h;exact absurd h (by simp)
  ·exact S.reg z p (by omega) f d g i
 ·rw[S.wait j k];constructor
  ·rintro⟨l,a⟩;exact⟨by omega,a⟩
  ·rintro⟨l,a⟩;by_cases e:j=q
   ·subst e;rw[h]at a;exact absurd a (by simp)
   ·exact⟨by omega,a⟩
theorem SI(S:∀j:Nat,j<201->(W j=true↔j<q∧lm j=true))(h:lm q=true):∀j:Nat,j<201->((if j=q then true else W j)=true↔j<q+1∧lm j=true):=by
 intro j d;by_cases e:j=q
 ·subst e;simp[h]
 ·simp[e];rw[S j d];constructor
  ·rintro⟨f,a⟩;exact⟨by omega,a⟩
  ·rintro⟨f,a⟩;exact⟨by omega,a⟩
theorem EE.plain(S:EE c lm R W q)(h:lm q=true)(i:(q:Int)<half c->bv c (2*q)≠9):EE c lm R (λj=>if j=q then true else W j) (q+1):=by
 refine⟨λz p k a f d g=>?_,SI S.wait h⟩;by_cases e:z=q
 ·subst e;exact absurd d (i a)
 ·exact S.reg z p (by omega) a f d g
theorem EE.zero(F:Ku c T A lm)(S:EE c lm R W q)(h:lm q=true)(m:Nat->Bool)(i:∀j:Nat,m j=true↔(j:Int)<=half c∧Ac c (λx=>x∈AP c q) (A q) j):EE c lm (Go.Proofs.YtcnbifdlkalimabGreat.Mp R q m) (λj=>if j=q then true else W j) (q+1):=by
 refine⟨λz p k a d f g=>?_,SI S.wait h⟩;by_cases e:z=q
 ·subst e;rw[<-F.reg a d m i p];simp[Go.Proofs.YtcnbifdlkalimabGreat.Mp]
 ·rw[<-S.reg z p (by omega) a d f g];simp[Go.Proofs.YtcnbifdlkalimabGreat.Mp,e]
theorem Wx(b lb wb:Nat)(n k:Int)(t v c:ZB)(hb:Nat)(T A:Int->Int)(lm:Nat->Bool)(L:Int->Int->Int)(w:World)(hc:c.size<=maxLen)(hK:half c<=200)(H0:ZV w b n t v c hb (λ_ _=>false) L (λ_=>false))(aa:Cp w lb 0 lm)(V:Zv w wb n t v c k T A)(n1:lb≠b)(n2:wb≠b)(F:Kp (Ku c T A lm)) :
  Calls prog 65 #[.pointer (some ⟨b,0,none⟩),.pointer (some ⟨lb,0,none⟩),.pointer (some ⟨wb,0,none⟩)] w (ZrI b n t v c hb L lm w):=by
 have hh:=(Zn c).1;have hr:Kp (Ay c):=⟨F.o.rng⟩
 go_in;go_wp2_with fail;have N:=AG.refl b w.heap.size w;have Q:Kp (EE c lm (λ_ _=>false) (λ_=>false) 0):=⟨λz p hz=>absurd hz (by omega),λj hj=>by simp⟩
 go_loopw [9] (λi wr=>∃(p:Nat) (R:Nat->Nat->Bool) (W:Nat->Bool),i=.int .i64 p∧p<=201∧ZV wr b n t v c hb R L W∧AG b w.heap.size w wr∧Kp (EE c lm R W p)) (λi _=>201-(intOf i).toNat);case atStart=>exact⟨0,_,_,rfl,by omega,H0,N,Q⟩
 case round=>
  clear H0 N Q;obtain⟨p,R,W,rfl,hp,H,J,P⟩:=hrel;by_cases a:p<201
  ·have ai:(p:Int)<201:=by omega
   have E:=aa.but J n1;have ad:=V.but J n2;cases d:lm p with
   | false=>
    have l:Kp (EE c lm R W (p+1)):=⟨P.o.skip F.o d⟩
    go_wp2_with fail;refine(IJ lb 0 lm p _ E a).mono ?_;rintro e w1 ⟨rfl,rfl⟩;rw[d];go_wp2_with fail;go_roundw;case rel=>exact⟨p+1,R,W,by go_num,by omega,H,J,l⟩
    case measure=>simp[intOf];omega
   | true=>
    have u:=(F.o.live p).1 d;have ah:=u.1;replace u:=Z_ u;have ae:W p=false:=by
     cases hx:W p
     ·rfl
     ·have:=(P.o.wait p a).1 hx;omega
    go_wp2_with fail;refine(IJ lb 0 lm p _ E a).mono ?_;rintro e w1 ⟨rfl,rfl⟩;rw[d];go_wp2_with fail;refine(LJ b 42215 W p _ H.wait a ae).mono ?_;rintro e w2 ⟨rfl,Y⟩;have B:=H.setW p a true;have s:=J.setCell (42215+p) (.bool true);rw[<-Y]at B s;clear Y H J E ad;have q0:=B.c0;have q1:=B.c1;have q2:=B.c2;have q3:=B.c3;go_wp2_with fail;refine(Vn n p t v c _ hc (by omega) ah).mono ?_;rintro e w3 ⟨rfl,G⟩;have C:=B.step G;have g:=s.trans (AG.of (G.mono s.size));clear q0 q1 q2 q3 B s G;by_cases M:FF c p=9
    ·have X:(p:Int)<half c:=by
      by_cases e:(p:Int)=half c
      ·unfold FF at M;rw[if_pos e]at M;omega
      ·omega
     rw[M];have q0:=C.c0;have q1:=C.c1;have q2:=C.c2;have q3:=C.c3;have S:=V.but g n2;have ab:0<T p:=ON F.o.nar.w (F.o.ends p u.o.2);have hd:Below w3.heap.size w3 w3.drew:=(Qh _ _).drew;have H4:=C.step hd;have U:=S.step hd;have D:=g.trans (AG.of (hd.mono g.size));have ag:∀m:Nat->Bool,(Bg 201 (λj=>Value.bool (m j))).size=201:=λm=>Oh _ _;have af:∀m:Nat->Bool,¬Bg 201 (λj=>Value.bool (m j))=#[]:=λm=>Zr7 _ _ (by decide)
     go_wp2_with fail;go_region_with (first
      | (go_at_call 125;refine(Wc wb n t v c k T A p _ U a ab).mono ?_;rintro e w5 ⟨rfl,rfl⟩)
      | (go_at_call 124;refine(Xm n (A p) p t v c _ hc hK hr X).mono ?_;rintro e w6 ⟨K,rfl,y,I⟩;have H6:=H4.step I)
      | (rw[ZpV _ b (5+p*201) 201 (λj=>.bool (K j)) (λj hj=>by rw[H6.r p j a hj];rfl) (λj hj=>H6.f _ (by omega)) (λ_ _=>rfl)]))
     all_goals
      have H7:=H6.setR p a K;have O:=Z6 (D.trans (AG.of (I.mono D.size))) (Bg 201 (λj=>Value.bool (K j))).toList (5+p*201);have l:Kp (EE c lm (Mp R p K) (λj=>if j=p then true else W j) (p+1)):=⟨P.o.zero F.o d K y.o⟩
      obtain⟨w7,Z⟩:∃w7,w6.setCells b (5+p*201) (Bg 201 (λj=>Value.bool (K j))).toList=w7:=⟨_,rfl⟩
      rw[Z]at H7 O ⊢;clear Z H6 I D g C H4 S U q0 q1 q2 q3 y ag af hd;go_wp2_with fail;go_roundw;case rel=>exact⟨p+1,_,_,by go_num,by omega,H7,O,l⟩
      case measure=>simp[intOf];omega
    ·have aj:(FF c p==9)=false:=Qf.2 M;have l:Kp (EE c lm R (λj=>if j=p then true else W j) (p+1)):=⟨P.o.plain d (λk1 k2=>M (by unfold FF;rw[if_neg (by omega)];exact k2))⟩
     go_wp2_with fail;go_roundw;case rel=>exact⟨p+1,R,_,by go_num,by omega,C,g,l⟩
     case measure=>simp[intOf];omega
  ·have e:p=201:=by omega
   subst e;go_wp2_with fail;first|go_end0|refine Qi (Qp rfl _ _ _) rfl ?_
   exact⟨R,W,rfl,H,J,P⟩
theorem Yz(b:Nat)(n:Int)(t v c:ZB)(hb:Nat)(R:Nat->Nat->Bool)(L:Int->Int->Int)(W:Nat->Bool)(m:Nat->Bool)(h:Nat->Int)(p:Nat)(w:World)(S:LS w b n t v c hb R m h L W)(F:Kp (DZ c v t n h))(I:Kp (∀p d,Lv n (L p d)))(hp:(p:Int)<half c)(hl:Kp (Aq c p)) :
  Calls prog 127 #[.pointer (some ⟨b,0,none⟩),.int .i64 p] w λe w'=>e=.returned (.bool (Ek c v t n h L p))∧Below w.heap.size w w':=by
 have hK:=F.o.hK;have hc:=F.o.hc;have hv:=F.o.hv;have hI:=F.o.ins (i:=p) (by omega) hp;have hP:=F.o.pops hp hl.o;have N:=F.o.lat
 have ho:=Zx c (2*p);have V:=S.lab.c0;have X:=S.lab.c1;have Z:=S.lab.c2;have q3:=S.lab.c3;have a:Kp (Ek c v t n h L p=if bv c (2*p)=2 then !(le t n (AU t n h L p) (bv v (bv c (2*p+1)))) else if bv c (2*p)=11 then !(le t n (AU t n h L p) (bv c (2*p+1))) else if bv c (2*p)=10 then !(le t n (L p (-1)) (bv c (2*p+1))) else false):=⟨rfl⟩
 have s:Kp (bv c (2*p)=2∨bv c (2*p)=11->1<=h p):=⟨λk=>by
  have:Ab c p=1:=by unfold Ab Aj;rw[if_pos (by omega)]
  omega⟩
 have i1:=hI.hi;have U:Kp _:=⟨hI.vr⟩
 have M:Kp _:=⟨hI.lv⟩
 have aa:=(Zx c (2*p+1)).1;clear hI F hl;go_in;go_wp2_with fail;refine(HX n p t v c _ hc (by omega) hp).mono ?_;rintro e w1 ⟨rfl,g⟩;have j:=S.step g;clear V X Z q3 S;go_wp2_with fail;refine(NE b n t v c hb R L W p _ j.lab (by omega)).mono ?_;rintro e w2 ⟨rfl,rfl⟩;obtain⟨u,ab⟩:∃u,bv c (2*p)=u:=⟨_,rfl⟩
 obtain⟨y,K⟩:∃y,bv c (2*p+1)=y:=⟨_,rfl⟩
 rw[ab]at a s i1 U M ho ⊢;rw[K]at a U M aa ⊢;clear ab K;have V:=j.lab.c0;have X:=j.lab.c1;have Z:=j.lab.c2;have q3:=j.lab.c3;obtain⟨o0,_⟩:=ho;have P:u=2∨u=11∨u=10∨(u=0∨u=1∨u=3∨u=4∨u=5∨u=6∨u=7∨u=8∨u=9):=by omega
 rcases P with rfl|rfl|rfl|P
 ·obtain⟨a1,J⟩:=U.o (.inr rfl);have f:=a.o;rw[if_pos rfl]at f;replace f:=Z_ f;have h1:=s.o (.inl rfl);obtain⟨_,h0,h8⟩:=hP;obtain⟨H,Q⟩:∃H:Nat,h p-((1:Nat):Int)=H:=⟨(h p-1).toNat,by omega⟩
  have C:H<8:=by omega
  clear s a U M;go_wp2_with fail;refine(KH b 1 H n t v c hb R L W m h p _ j.lab j.ht (by omega) Q C (by omega)).mono ?_;rintro e w3 ⟨rfl,rfl⟩;go_wp2_with fail;refine(Hp b n (L p (-1)) (L p (h p-((1:Nat):Int))) t v c hb R L W _ j.lab N (I.o _ _) (I.o _ _)).mono ?_;rintro e w4 ⟨rfl,l⟩;have E:=j.step l;have B:=g.trans (l.mono g.size);have G:Lv n (AU t n h L p):=N.lat.jin _ _ (I.o _ _) (I.o _ _);rw[show jn t n (L p (-1)) (L p (h p-((1:Nat):Int)))=AU t n h L p from rfl];obtain⟨z,D⟩:∃z,AU t n h L p=z:=⟨_,rfl⟩
  rw[D]at G f ⊢;clear V X Z q3 j g l D;have V:=E.lab.c0;have X:=E.lab.c1;have Z:=E.lab.c2;have q3:=E.lab.c3;have ad:=E.lab.lt;go_wp2_with fail;go_region_held3 (λw'=>w'.cell? ⟨b,0,none⟩=some (.int .i64 n)∧w'.cell? ⟨b,1,none⟩=some (.string t)∧w'.cell? ⟨b,2,none⟩=some (.string v)∧w'.cell? ⟨b,3,none⟩=some (.string c)) (go_keep) (first
   | (go_at_call 189;refine(Sv n y t v c _ hv aa a1).mono ?_;rintro e w5 ⟨rfl,O⟩;have Y:=E.step ((Qh _ _).drew.trans O);have r0:=Y.lab.c0;have r1:=Y.lab.c1;have r2:=Y.lab.c2;have r3:=Y.lab.c3)
   | (go_at_call 101;refine(ZL N.tab z (bv v y) _ G.1 G.2 J.1 J.2).mono ?_;rintro e w6 ⟨rfl,r⟩;have S6:=Y.step r;have o0:=S6.lab.c0;have o1:=S6.lab.c1;have o2:=S6.lab.c2;have o3:=S6.lab.c3))
  all_goals have hd:Below w4.heap.size w4 w4.drew:=(Qh _ _).drew;have b1:=B.trans (hd.mono B.size);have b2:=b1.trans (O.mono b1.size);have b3:=b2.trans (r.mono b2.size);clear hd b1 b2 O r B V X Z q3 r0 r1 r2 r3 o0 o1 o2 o3 E Y S6;go_wp2;go_ret;exact⟨Za f.o.symm,b3⟩
 ·have J:=M.o (.inr rfl);have f:=a.o;rw[if_neg (by decide),if_pos rfl]at f;replace f:=Z_ f;have h1:=s.o (.inr rfl);obtain⟨_,h0,h8⟩:=hP;obtain⟨H,Q⟩:∃H:Nat,h p-((1:Nat):Int)=H:=⟨(h p-1).toNat,by omega⟩
  have C:H<8:=by omega
  clear s a U M;go_wp2_with fail;refine(KH b 1 H n t v c hb R L W m h p _ j.lab j.ht (by omega) Q C (by omega)).mono ?_;rintro e w3 ⟨rfl,rfl⟩;go_wp2_with fail;refine(Hp b n (L p (-1)) (L p (h p-((1:Nat):Int))) t v c hb R L W _ j.lab N (I.o _ _) (I.o _ _)).mono ?_;rintro e w4 ⟨rfl,l⟩;have E:=j.step l;have B:=g.trans (l.mono g.size);have G:Lv n (AU t n h L p):=N.lat.jin _ _ (I.o _ _) (I.o _ _);rw[show jn t n (L p (-1)) (L p (h p-((1:Nat):Int)))=AU t n h L p from rfl];obtain⟨z,D⟩:∃z,AU t n h L p=z:=⟨_,rfl⟩
  rw[D]at G f ⊢;clear V X Z q3 j g l D;have V:=E.lab.c0;have X:=E.lab.c1;go_wp2_with fail;refine(ZL N.tab z y _ G.1 G.2 J.1 J.2).mono ?_;rintro e w6 ⟨rfl,r⟩;go_wp2;go_ret;exact⟨Za f.o.symm,B.trans (r.mono B.size)⟩
 ·have J:=M.o (.inl rfl);have f:=a.o;rw[if_neg (by decide),if_neg (by decide),if_pos rfl]at f;replace f:=Z_ f;have G:=I.o p (-1);clear s a U M;go_wp2_with fail;refine(ZL N.tab (L p (-1)) y _ G.1 G.2 J.1 J.2).mono ?_;rintro e w6 ⟨rfl,r⟩;go_wp2;go_ret;exact⟨Za f.o.symm,g.trans (r.mono g.size)⟩
 ·have f:=a.o;rw[if_neg (by omega),if_neg (by omega),if_neg (by omega)]at f;replace f:=Z_ f;clear s a U M;rcases P with rfl|rfl|rfl|rfl|rfl|rfl|rfl|rfl|rfl;all_goals
   go_wp2;go_ret;exact⟨Za f.o.symm,g⟩
def Iw(f:Nat->Bool)(K x:Int)(ok:Bool):Prop:=
 (ok=true∧0<=x∧x<K∧f x.toNat=true∧∀q:Nat,(q:Int)<x->f q=false)∨(ok=false∧x=0∧∀q:Nat,(q:Int)<K->f q=false)
def TK(f:Nat->Bool)(K:Int)(w:World)(e:Ending)(w':World):Prop:=
 ∃(x:Int) (ok:Bool),e=.returned (.tuple #[.int .i64 x,.bool ok])∧Kp (Iw f K x ok)∧Below w.heap.size w w'
theorem Mx{f:Nat->Bool}{p:Nat}(h:∀q:Nat,q<p->f q=false)(a:f p=false):∀q:Nat,q<p+1->f q=false:=by
 intro q d;by_cases e:q=p
 ·subst e;exact a
 ·exact h q (by omega)
theorem Wr(b E:Nat)(n:Int)(t v c:ZB)(hb:Nat)(R:Nat->Nat->Bool)(L:Int->Int->Int)(W:Nat->Bool)(m lm:Nat->Bool)(h:Nat->Int)(w:World)(N:LS w b n t v c hb R m h L W)(k:Cp w E 0 lm)(F:Kp (DZ c v t n h))(Q:Kp (∀p d,Lv n (L p d)))(y:Kp (∀j:Nat,lm j=true->Aq c j)) :
  Calls prog 67 #[.pointer (some ⟨b,0,none⟩),.pointer (some ⟨E,0,none⟩)] w (TK (λq=>lm q&&Ek c v t n h L q) (half c) w):=by
 have hh:=(Zn c).1;have Z:=F.o.hK;have P:=F.o.hc;go_in;go_wp2_with fail;have B:=Qh w.heap.size w;go_loopw [6] (λi wr=>∃(p:Nat),i=.int .i64 p∧(p:Int)<=half c∧LS wr b n t v c hb R m h L W∧Cp wr E 0 lm∧Below w.heap.size w wr∧Kp (∀q:Nat,q<p->(lm q&&Ek c v t n h L q)=false)) (λi _=>(half c).toNat-(intOf i).toNat);case atStart=>exact⟨0,rfl,by omega,N,k,B,⟨λq M=>absurd M (by omega)⟩⟩
 case round=>
  clear N k B;obtain⟨p,rfl,hp,S,k,I,H⟩:=hrel;have U:=S.lab.c0;have V:=S.lab.c1;have X:=S.lab.c2;have Y:=S.lab.c3;go_wp2_with fail;refine(ZY n t v c _ P).mono ?_;rintro e w4 ⟨rfl,r⟩;have G:=S.step r;have g:=k.step r;have a:=I.trans (r.mono I.size);clear U V X Y S I r k;by_cases D:(p:Int)<half c
  ·cases l:lm p with
   | false=>
    have u:Kp (∀q:Nat,q<p+1->(lm q&&Ek c v t n h L q)=false):=⟨Mx (f:=λq=>lm q&&Ek c v t n h L q) H.o (by simp[l])⟩
    go_wp2_with fail;refine(IJ E 0 lm p _ g (by omega)).mono ?_;rintro e w1 ⟨rfl,rfl⟩;rw[l];go_wp2_with fail;go_roundw;case rel=>exact⟨p+1,by go_num,by omega,G,g,a,u⟩
    case measure=>simp[intOf];omega
   | true=>
    have K:Kp (Aq c p):=⟨y.o p l⟩
    go_wp2_with fail;refine(IJ E 0 lm p _ g (by omega)).mono ?_;rintro e w1 ⟨rfl,rfl⟩;rw[l];go_wp2_with fail;refine(Yz b n t v c hb R L W m h p _ G F Q D K).mono ?_;rintro e w5 ⟨rfl,s⟩;have O:=G.step s;have J:=g.step s;have C:=a.trans (s.mono a.size);clear G g a s;cases z:Ek c v t n h L p with
    | false=>
     have u:Kp (∀q:Nat,q<p+1->(lm q&&Ek c v t n h L q)=false):=⟨Mx (f:=λq=>lm q&&Ek c v t n h L q) H.o (by simp[z])⟩
     replace z:=Z_ z;go_wp2_with fail;go_roundw;case rel=>exact⟨p+1,by go_num,by omega,O,J,C,u⟩
     case measure=>simp[intOf];omega
    | true=>
     have hF:Kp (Iw (λq=>lm q&&Ek c v t n h L q) (half c) p true):=⟨.inl ⟨rfl,by omega,D,by rw[Int.toNat_natCast];simp[l,z],λq M=>H.o q (by omega)⟩⟩
     replace z:=Z_ z;go_wp2;go_ret2;exact⟨p,true,rfl,hF,C⟩
  ·have hF:Kp (Iw (λq=>lm q&&Ek c v t n h L q) (half c) 0 false):=⟨.inr ⟨rfl,rfl,λq M=>H.o q (by omega)⟩⟩
   go_wp2;go_ret2;exact⟨0,false,rfl,hF,a⟩
theorem Ws(F H:Nat)(n k:Int)(t v c:ZB)(T A:Int->Int)(lm:Nat->Bool)(w:World)(O:c.size<=maxLen)(V:half c<=200)(z:Cp w F 0 lm)(E:Zv w H n t v c k T A) :
  Calls prog 62 #[.agg #[.int .i64 n,.string t,.string v,.string c],.pointer (some ⟨F,0,none⟩),.pointer (some ⟨H,0,none⟩)] w (TK (λq=>lm q&&!(decide (0<T q))) (half c) w):=by
 have X:=(Zn c).1;have bl:=λo=>(Qh w.heap.size w).alloc (Qb _) o;have B:=AF.new4 w (.int .i64 n) (.string t) (.string v) (.string c) 76
 have y:=z.step (bl (.cells #[.int .i64 n,.string t,.string v,.string c] 76));have D:=E.step (bl (.cells #[.int .i64 n,.string t,.string v,.string c] 76));have u:=bl (.cells #[.int .i64 n,.string t,.string v,.string c] 76);clear bl z E;go_in;go_wp2_with fail;go_loopw [8] (λi wr=>∃(p:Nat),i=.int .i64 p∧(p:Int)<=half c∧AF wr w.heap.size [.int .i64 n,.string t,.string v,.string c]∧Cp wr F 0 lm∧Zv wr H n t v c k T A∧Below w.heap.size w wr∧Kp (∀q:Nat,q<p->(lm q&&!(decide (0<T q)))=false)) (λi _=>(half c).toNat-(intOf i).toNat);case atStart=>exact⟨0,rfl,by omega,B,y,D,u,⟨λq K=>absurd K (by omega)⟩⟩
 case round=>
  clear B y D u;obtain⟨p,rfl,Y,r,M,N,I,G⟩:=hrel;have P:=r.c 0 _ rfl;have Q:=r.c 1 _ rfl;have S:=r.c 2 _ rfl;have U:=r.c 3 _ rfl;go_wp2_with fail;refine(ZY n t v c _ O).mono ?_;rintro e Z ⟨rfl,a⟩;have C:=r.step a;have g:=M.step a;have m:=N.step a;have d:=I.trans (a.mono I.size);clear P Q S U r M N I a;by_cases J:(p:Int)<half c
  ·cases j:lm p with
   | false=>
    have l:Kp (∀q:Nat,q<p+1->(lm q&&!(decide (0<T q)))=false):=⟨Mx (f:=λq=>lm q&&!(decide (0<T q))) G.o (by simp[j])⟩
    go_wp2_with fail;refine(IJ F 0 lm p _ g (by omega)).mono ?_;rintro e w1 ⟨rfl,rfl⟩;rw[j];go_wp2_with fail;go_roundw;case rel=>exact⟨p+1,by go_num,by omega,C,g,m,d,l⟩
    case measure=>simp[intOf];omega
   | true=>
    go_wp2_with fail;refine(IJ F 0 lm p _ g (by omega)).mono ?_;rintro e w1 ⟨rfl,rfl⟩;rw[j];go_wp2_with fail;refine(JR H n t v c k T A p _ m (by omega)).mono ?_;rintro e w5 ⟨rfl,rfl⟩;cases s:decide (0<T p) with
    | true=>
     have l:Kp (∀q:Nat,q<p+1->(lm q&&!(decide (0<T q)))=false):=⟨Mx (f:=λq=>lm q&&!(decide (0<T q))) G.o (by simp only[s];simp)⟩
     replace s:=Z_ s;go_wp2_with fail;go_roundw;case rel=>exact⟨p+1,by go_num,by omega,C,g,m,d,l⟩
     case measure=>simp[intOf];omega
    | false=>
     have hF:Kp (Iw (λq=>lm q&&!(decide (0<T q))) (half c) p true):=⟨.inl ⟨rfl,by omega,J,by rw[QC];simp only[j,s];rfl,λq K=>G.o q (by omega)⟩⟩
     replace s:=Z_ s;go_wp2;go_ret2;exact⟨p,true,rfl,hF,d⟩
  ·have hF:Kp (Iw (λq=>lm q&&!(decide (0<T q))) (half c) 0 false):=⟨.inr ⟨rfl,rfl,λq K=>G.o q (by omega)⟩⟩
   go_wp2;go_ret2;exact⟨0,false,rfl,hF,d⟩
theorem Ta(e:Ay c)(h:Aq c x):0<=x∧x<=half c:=
 h (λx=>0<=x∧x<=half c) (λx a _=>by have a:x=0:=a;have:=(Zn c).1;omega) (λx y _ d _=>e x y d)
theorem Xn(H:Di c T A)(l:∀j:Nat,lm j=true↔(j:Int)<=half c∧Aq c j)(h:Iw (λq=>lm q&&!(decide (0<T q))) (half c) x true):CD c x∧∀q,q<x->¬CD c q:=by
 rcases h with ⟨_,k,r,d,m⟩|⟨h,_⟩
 ·have e:((x.toNat:Nat):Int)=x:=Qj k;simp only[Qr,Bool.not_eq_true',decide_eq_false_iff_not]at d;have a:=(l x.toNat).1 d.1;rw[e]at a d;refine⟨⟨⟨k,by omega⟩,a.2,λp=>d.2 (ON H p)⟩,λq s g=>?_⟩;have i:((q.toNat:Nat):Int)=q:=Qj g.1.1;have f:=m q.toNat (by omega)
  have o:=(l q.toNat).2 ⟨by omega,by rw[i];exact g.2.1⟩;simp only[o,Un,Bool.not_eq_false',decide_eq_true_iff]at f;rw[i]at f;exact g.2.2 (H.ends q f)
 ·exact absurd h (by simp)
theorem YA(H:Di c T A)(l:∀j:Nat,lm j=true↔(j:Int)<=half c∧Aq c j)(h:Iw (λq=>lm q&&!(decide (0<T q))) (half c) x false):∀q,¬CD c q:=by
 rcases h with ⟨h,_⟩|⟨_,_,g⟩
 ·exact absurd h (by simp)
 ·intro q a;have f:=a.1.1;have e:((q.toNat:Nat):Int)=q:=Qj f;by_cases k:q=half c
  ·exact a.2.2 (Ac.start k.symm (by omega))
  ·have d:=g q.toNat (by have:=a.1.2;omega)
   have i:=(l q.toNat).2 ⟨by have:=a.1.2;omega,by rw[e];exact a.2.1⟩;simp only[i,Un,Bool.not_eq_false',decide_eq_true_iff]at d;rw[e]at d;exact a.2.2 (H.ends q d)
theorem ZV.congrW(h:ZV w b n t v c hb R L W)(e:∀j,j<201->W j=W' j):ZV w b n t v c hb R L W':=
 ⟨h.lt,h.c0,h.c1,h.c2,h.c3,h.hp,h.r,h.pl,h.vl,λj a=>by rw[<-e j a];exact h.wt j a,h.f⟩
structure FP(c v t:ZB)(n:Int):Prop where
 hc:c.size<=maxLen
 hv:v.size<=maxLen
 hK:half c<=200
 ok:FN c v n=true
 vars:∀k:Int,0<=k->k<v.size->Lv n (bv v k)
 lat:Ks t n
theorem FP.code(F:FP c v t n)(H:Zj c h):DZ c v t n h:=⟨F.hc,F.hv,F.hK,F.ok,F.vars,H,F.lat⟩
theorem YS(F:FP c v t n)(H:Zj c h)(f:∀j:Nat,lm j=true↔(j:Int)<=half c∧Aq c j)(S:EE c lm R W 201) :
  EL c v t n h (λ_ _=>(ZI (BJ t n) n.toNat).getD 0) (λj=>if j<201 then W j else false) (λ_ _=>(ZI (BJ t n) n.toNat).getD 0) (λj=>if j<201 then W j else false) false 0∧Kr c R:=by
 have y:=F.hK;have hb:=Zsh F.lat.lat
 refine⟨⟨⟨λ_ _=>hb.1,λ_ _ u s _=>hb.2 u s⟩,λi e d g=>?_,λj a=>?_,λ_=>⟨rfl,rfl,λi e=>absurd e (by omega)⟩,λh=>absurd h (by simp),Qb _⟩,λz p l m o r=>S.reg z p (by omega) l m o r⟩
 ·have:W i=true:=(S.wait i (by omega)).2 ⟨by omega,(f i).2 ⟨by omega,d⟩⟩;rw[if_pos (by omega),this]at g;exact absurd g (by simp)
 ·by_cases k:j<201
  ·rw[if_pos k]at a;exact(f j).1 ((S.wait j k).1 a).2
  ·rw[if_neg k]at a;exact absurd a (by simp)
theorem Xo(F:FP c v t n)(H:Zj c h)(s:∀j:Nat,lm j=true↔(j:Int)<=half c∧Aq c j)(S:Dq c v t n h L) :
  ∀q:Nat,(q:Int)<half c->((lm q&&Ek c v t n h L q)=true↔Bb c v t n h q):=by
 have m:=F.code H;have g:∀a p d,Lv n a->AC c v h a p d->(d=-1∧¬p<half c)∨le t n a (L p d)=true:=λa p d o u=>
  WO F.lat.lat S.ok H (λi e f k=>((m.ins e f).vr (.inl k)).2) (λi e f k=>(m.ins e f).lv (.inl k)) S.all o u
 intro q y;have l:=λr=>Zot F.lat.lat S.ok H (λi e f k=>((m.ins e f).vr (.inr k)).2) (λi e f k=>(m.ins e f).lv k) g (i:=q) (by omega) y r;rw[Qr];constructor
 ·rintro⟨z,B⟩;exact(l ((s q).1 z).2).1 B
 ·intro k;exact⟨(s q).2 ⟨by omega,k.2.1⟩,(l k.2.1).2 k⟩
theorem Wg{ok:Bool}(F:FP c v t n)(H:Zj c h)(p:∀j:Nat,lm j=true↔(j:Int)<=half c∧Aq c j)(S:Dq c v t n h L)(i:∀q,¬CD c q)(o:Iw (λq=>lm q&&Ek c v t n h L q) (half c) x ok):Gq c v t n x (if ok then 9 else 0):=by
 have a:=Xo F H p S;refine .inr ⟨i,.inr ⟨h,H,?_⟩⟩;rcases o with ⟨rfl,k,l,m,f⟩|⟨rfl,rfl,f⟩
 ·refine .inl ⟨rfl,?_,λq r hb=>?_⟩
  ·have e:((x.toNat:Nat):Int)=x:=Qj k;have:=(a x.toNat (by rw[e];exact l)).1 m
   rwa [e]at this
  ·have e:((q.toNat:Nat):Int)=q:=Qj hb.1.1;have d:(lm q.toNat&&Ek c v t n h L (q.toNat:Nat))=false:=f q.toNat (by rw[e];exact r)
   have g:=(a q.toNat (by rw[e];exact hb.1.2)).2 (by rw[e];exact hb);rw[g]at d;exact absurd d (by simp)
 ·refine .inr ⟨rfl,rfl,λq hb=>?_⟩;have e:((q.toNat:Nat):Int)=q:=Qj hb.1.1;have d:(lm q.toNat&&Ek c v t n h L (q.toNat:Nat))=false:=f q.toNat (by rw[e];exact hb.1.2)
  have g:=(a q.toNat (by rw[e];exact hb.1.2)).2 (by rw[e];exact hb);rw[g]at d;exact absurd d (by simp)
def Yn(c v t:ZB)(n:Int)(w:World)(e:Ending)(w':World):Prop:=
 ∃p x:Int,e=.returned (.tuple #[.int .i64 p,.int .i64 x])∧Kp (Gq c v t n p x)∧Below w.heap.size w w'
theorem Rz(n:Int)(t v c:ZB)(w:World)(F:Kp (FP c v t n)) :
  Calls prog 25 #[.agg #[.int .i64 n,.string t,.string v,.string c]] w (Yn c v t n w):=by
 have hh:=(Zn c).1;have hc:=F.o.hc;have hK:=F.o.hK;have hr:Kp (Ay c):=⟨GO F.o.ok⟩
 have a1:Kp (∀i:Int,0<=i->i<half c->bv c (2*i)<=11):=⟨λi h0 h1=>by have:=QB (PC F.o.ok h0 h1);omega⟩
 have aT:=AF.new4 w (.int .i64 n) (.string t) (.string v) (.string c) 76;have ay:=(Qh w.heap.size w).alloc (Qb _) (.cells #[.int .i64 n,.string t,.string v,.string c] 76);go_in;go_wp2_with fail;refine(YR n t v c _ hc hK hr).mono ?_;rintro e w1 ⟨lm,rfl,D,aK⟩;have aJ:=aT.step aK;have az:=ay.trans (aK.mono ay.size);have a5:=aJ.lt;clear aT ay aK
 -- live
 obtain⟨w2,d⟩:∃w2,w2=w1.alloc (.cells Tryz.zeroCells134 134):=⟨_,rfl⟩
 have B:Bk w2 w1.heap.size 201:=by rw[d];exact Bk.of_row (heap_alloc_last _ _) (by kernel_rfl)
 have aL:Below w1.heap.size w1 w2:=by rw[d];exact(Qh _ _).alloc (Qb _) _
 obtain⟨w3,E⟩:∃w3,w3=w2.setCells w1.heap.size 0 (Bg 201 (λj=>.bool (lm j))).toList:=⟨_,rfl⟩
 have aM:Below w1.heap.size w2 w3:=by rw[E];exact Hs (Qh _ _) (Qb _) _ 0
 have am:Cp w3 w1.heap.size 0 lm:=by rw[E];refine⟨?_,λj hj=>ZE w2 w1.heap.size 0 201 (λj=>.bool (lm j)) B.c j hj,λj hj=>by rw[QQ];exact B.f j hj⟩;have:=(Z6 (AG.refl w1.heap.size 0 w2) (Bg 201 (λj=>Value.bool (lm j))).toList 0).size;exact Qq B.lt this
 have r:=aJ.step (aL.trans aM);have aA:=az.trans ((aL.trans aM).mono az.size);replace d:=Z_ d;replace E:=Z_ E;dsimp only;have q0:=r.c 0 _ rfl;have q1:=r.c 1 _ rfl;have q2:=r.c 2 _ rfl;have q3:=r.c 3 _ rfl;clear aJ az aL aM;repeat (first|(refine Zp 134 (.tmp 4) (.tmp 12) rfl w1.heap.size 0 201 (λj=>.bool (lm j)) rfl rfl (by kernel_rfl) (by rw[<-d.o];exact B.c) (by rw[<-d.o];exact B.f) (λ_ _=>rfl) ?_;rw[<-d.o,<-E.o];dsimp only [Act.put])|go_step)
 refine(Xa n t v c _ hc hK hr).mono ?_;rintro e Z ⟨k,T,A,rfl,hN,ae⟩;have aU:=r.step ae;have I:=am.step ae;have aB:=aA.trans (ae.mono aA.size);have a6:=I.lt;clear q0 q1 q2 q3 r aA am ae d E B
 -- ways
 obtain⟨w5,g⟩:∃w5,w5=Z.alloc (.cells Tryz.zeroCells138 138):=⟨_,rfl⟩
 have ad:Bk w5 Z.heap.size 407:=by rw[g];exact Bk.of_row (heap_alloc_last _ _) (by kernel_rfl)
 have af:Below Z.heap.size Z w5:=by rw[g];exact(Qh _ _).alloc (Qb _) _
 obtain⟨w6,G⟩:∃w6,w6=w5.setCells Z.heap.size 0 (Bg 407 (ZK n t v c k T A)).toList:=⟨_,rfl⟩
 have ag:Below Z.heap.size w5 w6:=by rw[G];exact Hs (Qh _ _) (Qb _) _ 0
 have O:Zv w6 Z.heap.size n t v c k T A:=by rw[G];exact RM ad n t v c k T A
 have u:=aU.step (af.trans ag);have J:=I.step (af.trans ag);have aC:=aB.trans ((af.trans ag).mono aB.size);replace g:=Z_ g;replace G:=Z_ G;dsimp only;have q0:=u.c 0 _ rfl;have q1:=u.c 1 _ rfl;have q2:=u.c 2 _ rfl;have q3:=u.c 3 _ rfl;clear aU aB af ag I;repeat (first|(refine Zp 138 (.tmp 5) (.tmp 14) rfl Z.heap.size 0 407 (ZK n t v c k T A) rfl rfl (by kernel_rfl) (by rw[<-g.o];exact ad.c) (by rw[<-g.o];exact ad.f) (λj _=>Po _ _ _ _ _ _ _ j) ?_;rw[<-g.o,<-G.o];dsimp only [Act.put])|go_step)
 refine(Ws w1.heap.size Z.heap.size n k t v c T A lm _ hc hK J O).mono ?_;rintro e w7 ⟨x,ok,rfl,aR,Q⟩;have z:=u.step Q;have an:=J.step Q;have au:=O.step Q;have aa:=aC.trans (Q.mono aC.size);clear q0 q1 q2 q3 u aC J O Q g G ad;cases ok with
 | true=>
  have hA:Kp (Gq c v t n x 7):=⟨.inl ⟨rfl,Xn hN.o.w D.o aR.o⟩⟩
  go_wp2;go_ret2;exact⟨x,7,rfl,hA,aa⟩
 | false=>
  have aO:Kp (∀q,¬CD c q):=⟨YA hN.o.w D.o aR.o⟩
  have a0:Kp (Ku c T A lm):=⟨hN.o,hr.o,D.o,λx hx=>by
   have a2:=Ta hr.o hx;by_cases hR:Ac c (Bx x) (-1) (half c)
   ·exact hR
   ·exact absurd ⟨a2,hx,hR⟩ (aO.o x)⟩
  have q0:=z.c 0 _ rfl;have q1:=z.c 1 _ rfl;have q2:=z.c 2 _ rfl;have q3:=z.c 3 _ rfl;go_wp2_with fail;refine(VV n t v c _ hc hK hr a1).mono ?_;rintro e p ⟨m,h,aX,S⟩;have aV:=z.step S;have K:=an.step S;have P:=au.step S;have aD:=aa.trans (S.mono aa.size);clear q0 q1 q2 q3 z aa an au S
  -- heights
  obtain⟨w9,a⟩:∃w9,w9=p.alloc (.cells Tryz.zeroCells144 144):=⟨_,rfl⟩
  have C:Bk w9 p.heap.size 402:=by rw[a];exact Bk.of_row (heap_alloc_last _ _) (by kernel_rfl)
  have U:Below p.heap.size p w9:=by rw[a];exact(Qh _ _).alloc (Qb _) _
  obtain⟨wa,l⟩:∃wa,wa=w9.setCells p.heap.size 0 (Bg 402 (ZH m h)).toList:=⟨_,rfl⟩
  have V:Below p.heap.size w9 wa:=by rw[l];exact Hs (Qh _ _) (Qb _) _ 0
  have aI:Dm wa p.heap.size m h:=by rw[l];exact Tw C m h
  have N:=aV.step (U.trans V);have ao:=K.step (U.trans V);have av:=P.step (U.trans V);have ab:=aD.trans ((U.trans V).mono aD.size);have a8:=K.lt;have a9:=P.lt;replace a:=Z_ a;replace l:=Z_ l;have q0:=N.c 0 _ rfl;have q1:=N.c 1 _ rfl;have q2:=N.c 2 _ rfl;have q3:=N.c 3 _ rfl;clear aV aD U V K P;rcases aX with ⟨rfl,hH⟩|⟨rfl,hH⟩
  ·dsimp only;repeat (first|(refine Zp 144 (.tmp 8) (.tmp 25) rfl p.heap.size 0 402 (ZH m h) rfl rfl (by kernel_rfl) (by rw[<-a.o];exact C.c) (by rw[<-a.o];exact C.f) (λj _=>LM _ _ j) ?_;rw[<-a.o,<-l.o];dsimp only [Act.put])|go_step)
   have aQ:Kp (DZ c v t n h):=⟨F.o.code hH.o⟩
   have a7:=aI.s.lt;refine(Wf n t v c p.heap.size wa F.o.lat).mono ?_;rintro e wb ⟨rfl,al,X⟩;have ai:=aI.step X;have M:=ao.step X;have aw:=av.step X;have aE:=ab.trans (X.mono ab.size);clear q0 q1 q2 q3 N ab ao av aI X a l C;go_wp2_with fail;refine(Wx (wa.heap.size+1) w1.heap.size Z.heap.size n k t v c p.heap.size T A lm _ wb hc hK al M aw (by omega) (by omega) a0).mono ?_;rintro e wc ⟨R,W,rfl,H,ah,aZ⟩;have ap:=M.but ah (by omega);have aj:=ai.but ah (by omega);have a3:w.heap.size<=wb.heap.size:=aE.size;have ax:w.heap.size<=wa.heap.size+1:=by omega
   have aF:=aE.trans ((ah.mono a3).below ax);have Y:Kp _:=⟨YS F.o hH.o D.o aZ.o⟩
   have aY:Kp (Kr c R):=⟨Y.o.2⟩
   have aS:LS wc (wa.heap.size+1) n t v c p.heap.size R m h (λ_ _=>(ZI (BJ t n) n.toNat).getD 0) (λj=>if j<201 then W j else false):=⟨H.congrW (λj hj=>by rw[if_pos hj]),aj,by omega⟩
   clear al M aw ai aE ah H aj;go_wp2_with fail;refine(Xl (wa.heap.size+1) n t v c p.heap.size R m h _ _ wc aS aQ aY ⟨Y.o.1⟩).mono ?_;rintro e wd ⟨L,Wd,rfl,ak,aN,ar⟩;have aq:=ap.but aN (by omega);have a4:w.heap.size<=wc.heap.size:=aF.size;have aG:=aF.trans ((aN.mono a4).below ax);clear aS ap aF aN Y;go_wp2_with fail;refine(Wr (wa.heap.size+1) w1.heap.size n t v c p.heap.size R L Wd m lm h wd ak aq aQ ⟨ar.o.ok.rng⟩ ⟨λj hj=>((D.o j).1 hj).2⟩).mono ?_;rintro e we ⟨y,ok,rfl,aH,aW⟩;have aP:=aG.trans (aW.mono aG.size);have hA:Kp (Gq c v t n y (if ok then 9 else 0)):=⟨Wg F.o hH.o D.o ar.o aO.o aH.o⟩
   have hy:Kp (ok=false->y=0):=⟨λk=>by
    rcases aH.o with ⟨h1,_⟩|⟨_,h2,_⟩
    ·rw[k]at h1;exact absurd h1 (by simp)
    ·exact h2⟩
   clear ak aq aG aW aH;cases ok with
   | true=>go_wp2;go_ret2;exact⟨y,9,rfl,hA,aP⟩
   | false=>have h0:=hy.o rfl;subst h0;go_wp2;go_ret2;exact⟨0,0,rfl,hA,aP⟩
  ·have hA:Kp (Gq c v t n 0 8):=⟨.inr ⟨aO.o,.inl ⟨rfl,rfl,hH.o⟩⟩⟩
   dsimp only;repeat (first|(refine Zp 144 (.tmp 8) (.tmp 25) rfl p.heap.size 0 402 (ZH m h) rfl rfl (by kernel_rfl) (by rw[<-a.o];exact C.c) (by rw[<-a.o];exact C.f) (λj _=>LM _ _ j) ?_;rw[<-a.o,<-l.o];dsimp only [Act.put])|go_step)
   go_wp2;go_ret2;exact⟨0,8,rfl,hA,ab⟩
theorem Jd{s:ZB}(r:s.size<=maxLen)(h:AN s=0):FP (Ao s) (At s) (Av s) (bv s 1):=by
 have d:=MB r;rcases JL s with ⟨_,k⟩|⟨_,_,k⟩|⟨_,_,i,k⟩|⟨_,_,_,_,k⟩|⟨D,g,i,y,E⟩
 ·omega
 ·omega
 ·omega
 ·omega
 ·unfold DV at g;rw[Qr,Qr,Qr]at g;obtain⟨m,e,o,_⟩:=g;obtain⟨z,j,_⟩:=Lc m;unfold Ff at e;rw[Qr]at e;obtain⟨B,C,l⟩:=LU o;have u:((Ao s).size:Int)=2*bv (Ck s) 0:=JY (by have:=(Zx (Ck s) 0).1;omega) l;have a:=U4 i;rw[j]at a;refine⟨d.2.2,d.2.1,?_,y,λk p f=>⟨(Zx _ _).1,?_⟩,⟨z,?_,a⟩⟩
  ·unfold half;omega
  ·have:=Zb.1 e.2 k.toNat (by have f:k<((At s).size:Int):=f;unfold At at f;omega)
   rw[Qj p]at this;exact QB this
  ·have:=(Gk i).2.1;rw[j]at this;rw[HZ];exact this
def Ok(s:ZB)(w:World)(e:Ending)(w':World):Prop:=
 ∃p x:Int,e=.returned (.tuple #[.int .i64 p,.int .i64 x])∧Kp (DY s p x)∧Below w.heap.size w w'
theorem YC(s:ZB)(w:World)(k:s.size<=maxLen):Calls prog 14 #[.string s] w (Ok s w):=by
 by_cases h:AN s=0
 ·have F:Kp (FP (Ao s) (At s) (Av s) (bv s 1)):=⟨Jd k h⟩
  replace h:=Z_ h;go_in;go_wp2_with fail;refine(N9 s _ k h.o).mono ?_;rintro e w1 ⟨rfl,a⟩;go_wp2_with fail;refine(Rz (bv s 1) (Av s) (At s) (Ao s) _ F).mono ?_;rintro e u ⟨p,x,rfl,m,j⟩;have f:=a.trans (((Qh _ _).alloc (Qb _) (.cells #[.int .i64 (bv s 1),.string (Av s),.string (At s),.string (Ao s)] 76)).mono a.size);have g:=f.trans (j.mono (by simp;have:=a.size;omega));have d:Kp (DY s p x):=⟨.inr ⟨h.o,m.o⟩⟩
  go_wp2;go_ret2;exact⟨p,x,rfl,d,g⟩
 ·have r:(AN s != 0)=true:=QO.2 h;replace h:=Z_ h;have d:Kp (DY s 0 (AN s)):=⟨.inl ⟨h.o,rfl,rfl⟩⟩
  generalize i:AN s=l at r d ⊢;replace i:=Z_ i;go_in;go_wp2_with fail;refine(Oi s _ k h.o).mono ?_;rintro e w1 ⟨rfl,a⟩;rw[i.o];have f:=a.trans (((Qh _ _).alloc (Qb _) (.cells #[.int .i64 0,.string {data:=#[]},.string {data:=#[]},.string {data:=#[]}] 76)).mono a.size);go_wp2;go_ret2;exact⟨0,l,rfl,d,f⟩
end Go.Proofs.YtcnbifdlkalimabGreat
