import Derived.Test.YtcnbifdlkalimabGreatPlnA
/- Lemmas for the statement Means; their conditions stand in each. -/
namespace Go.Proofs.YtcnbifdlkalimabGreat
open Go.RowKit Go.Proofs.Tryz
variable{a i n p q:Int}{h k:Nat->Int}{c s v:ZB}
theorem ZiG(h:Zca s n=true) :
  (∀a:Int,0<=a->a<n->le s n a a=true)∧(∀a b:Int,0<=a->a<n->0<=b->b<n->le s n a b=true->le s n b a=true->a=b):=by
 have hp:ZaY s n=true:=by rw[Zbo];exact h
 constructor
 ·intro a ha ha'
  have:=ZiO hp a.toNat (by omega)
  rw[Qj ha]at this
  exact this
 ·intro a b ha ha' hb hb' h1 h2
  unfold Zca at h
  rw[Za]at h
  have h3:=h a.toNat (by omega)
  rw[Za]at h3
  have h4:=h3 b.toNat (by omega)
  rw[Qj ha,Qj hb]at h4
  unfold ZbK at h4
  rw[h1,h2,Qr]at h4
  have h5:=h4.1
  by_cases e:a=b
  ·exact e
  ·have e1:(a==b)=false:=by simpa using e
   have e2:(a != b)=true:=by simpa using e
   rw[e1,e2]at h5
   exact absurd h5 (by decide)
theorem ZcO{b j:Int}:rIsJoin s n a b j=true↔(le s n a j=true∧le s n b j=true)∧∀c:Int,0<=c->c<n->le s n a c=true->le s n b c=true->le s n j c=true:=by
 unfold rIsJoin Zap
 simp only[Qr,Za,QJ,Bool.not_eq_true']
 constructor
 ·rintro⟨h1,h2⟩
  refine⟨h1,λc hc hc' ha hb=>?_⟩
  have:=h2 c.toNat (by omega)
  rw[Qj hc,ha,hb]at this
  simpa using this
 ·rintro⟨h1,h2⟩
  refine⟨h1,λc hc=>?_⟩
  cases ha:le s n a c with
  | false=>simp
  | true=>
   cases hb:le s n b c with
   | false=>simp
   | true=>simp[h2 c (by omega) (by omega) ha hb]
theorem ZkK{b j:Int}:Zel s n a b j=true↔(le s n j a=true∧le s n j b=true)∧∀c:Int,0<=c->c<n->le s n c a=true->le s n c b=true->le s n c j=true:=by
 unfold Zel Zbd
 simp only[Qr,Za,QJ,Bool.not_eq_true']
 constructor
 ·rintro⟨h1,h2⟩
  refine⟨h1,λc hc hc' ha hb=>?_⟩
  have:=h2 c.toNat (by omega)
  rw[Qj hc,ha,hb]at this
  simpa using this
 ·rintro⟨h1,h2⟩
  refine⟨h1,λc hc=>?_⟩
  cases ha:le s n c a with
  | false=>simp
  | true=>
   cases hb:le s n c b with
   | false=>simp
   | true=>simp[h2 c (by omega) (by omega) ha hb]
theorem ZpI(h:levE s=0){x y:Int}(hx:0<=x∧x<tabN s)(hy:0<=y∧y<tabN s):(0<=Zra s x y∧Zra s x y<tabN s)∧rIsJoin s (tabN s) x y (Zra s x y)=true∧ZqY s x y=0:=by
 have h1:=ZlY h ⟨hx.1,hx.2,hy.1,hy.2⟩
 have h2:=ZaO h1.2.1
 exact⟨⟨h2.1,by omega⟩,h2.2.2,h1.1⟩
theorem ZpJ(h:levE s=0){x y:Int}(hx:0<=x∧x<tabN s)(hy:0<=y∧y<tabN s):(0<=Zrb s x y∧Zrb s x y<tabN s)∧Zel s (tabN s) x y (Zrb s x y)=true∧ZqY s x y=0:=by
 have h1:=ZlY h ⟨hx.1,hx.2,hy.1,hy.2⟩
 have h2:=ZaO h1.2.2
 exact⟨⟨h2.1,by omega⟩,h2.2.2,h1.1⟩
def jn(s:ZB)(n x y:Int):Int:=(Zbm s n x y).getD 0
def Lv(n a:Int):Prop:=0<=a∧a<n
structure Zam(s:ZB)(n:Int):Prop where
 refl:∀a,Lv n a->le s n a a=true
 anti:∀a b,Lv n a->Lv n b->le s n a b=true->le s n b a=true->a=b
 trans:∀a b d,Lv n a->Lv n b->Lv n d->le s n a b=true->le s n b d=true->le s n a d=true
 jin:∀a b,Lv n a->Lv n b->Lv n (jn s n a b)
 jl:∀a b,Lv n a->Lv n b->le s n a (jn s n a b)=true
 jr:∀a b,Lv n a->Lv n b->le s n b (jn s n a b)=true
 jm:∀a b u,Lv n a->Lv n b->Lv n u->le s n a u=true->le s n b u=true->le s n (jn s n a b) u=true
 bot:∃b,Lv n b∧∀a,Lv n a->le s n b a=true
theorem Zd1(h:Zca s n=true):∀a b d,Lv n a->Lv n b->Lv n d->le s n a b=true->le s n b d=true->le s n a d=true:=by
 intro a b d ha hb hd h1 h2
 have k1:=Za.1 h a.toNat (by have:=ha.1;have:=ha.2;omega)
 rw[Qj ha.1]at k1
 have k2:=Za.1 k1 b.toNat (by have:=hb.1;have:=hb.2;omega)
 rw[Qj hb.1]at k2
 unfold ZbK at k2
 rw[Qr]at k2
 have k3:=Za.1 k2.2 d.toNat (by have:=hd.1;have:=hd.2;omega)
 rw[Qj hd.1,h1,h2]at k3
 simpa using k3
theorem Zo4(h:levE s=0):Zam s (tabN s):=by
 obtain⟨h0,ho,hl⟩:=ZhJ h
 obtain⟨refl,anti⟩:=ZiG ho
 have hJ:∀a b,Lv (tabN s) a->Lv (tabN s) b->Lv (tabN s) (jn s (tabN s) a b)∧rIsJoin s (tabN s) a b (jn s (tabN s) a b)=true:=λa b ha hb=>by
  have h1:=ZlY h ⟨ha.1,ha.2,hb.1,hb.2⟩
  have h2:=ZpI h ⟨ha.1,ha.2⟩ ⟨hb.1,hb.2⟩
  have e:jn s (tabN s) a b=Zra s a b:=by unfold jn;rw[h1.2.1];rfl
  rw[e]
  exact⟨h2.1,h2.2.1⟩
 refine⟨λa ha=>refl a ha.1 ha.2,λa b ha hb=>anti a b ha.1 ha.2 hb.1 hb.2,Zd1 ho,λa b ha hb=>(hJ a b ha hb).1,λa b ha hb=>(ZcO.1 (hJ a b ha hb).2).1.1,λa b ha hb=>(ZcO.1 (hJ a b ha hb).2).1.2,λa b u ha hb hu=>(ZcO.1 (hJ a b ha hb).2).2 u hu.1 hu.2,?_⟩
 have hn:1<=tabN s:=(Zce h0).1.1
 have:∀k:Nat,(k:Int)<=tabN s->∃b,Lv (tabN s) b∧∀a:Int,0<=a->a<k->le s (tabN s) b a=true:=by
  intro k
  induction k with
  | zero=>exact λ_=>⟨0,⟨by omega,by omega⟩,λa h1 h2=>by omega⟩
  | succ k ih=>
   intro hk
   obtain⟨b,hb,hall⟩:=ih (by omega)
   have hkk:Lv (tabN s) (k:Int):=⟨by omega,by omega⟩
   have hm:=ZpJ h ⟨hb.1,hb.2⟩ ⟨hkk.1,hkk.2⟩
   have mm:=ZkK.1 hm.2.1
   refine⟨Zrb s b k,hm.1,λa h1 h2=>?_⟩
   by_cases e:a=k
   ·rw[e];exact mm.1.2
   ·exact Zd1 ho _ b a hm.1 hb ⟨h1,by omega⟩ mm.1.1 (hall a h1 (by omega))
 obtain⟨b,hb,hall⟩:=this (tabN s).toNat (by omega)
 exact⟨b,hb,λa ha=>hall a ha.1 (by have:=ha.2;omega)⟩
def Zlz(c v:ZB)(h:Nat->Int)(a:Int)(P:Int->Int->Prop)(i:Int):Prop:=
 P i (-1)∨(bv c (2*i)=1∧bv v (bv c (2*i+1))=a)∨(bv c (2*i)=10∧bv c (2*i+1)=a)∨((3<=bv c (2*i)∧bv c (2*i)<=7)∧(P i (h i.toNat-1)∨P i (h i.toNat-2)))
structure FCl(c v:ZB)(h:Nat->Int)(a:Int)(P:Int->Int->Prop):Prop where
 stay:∀i j d,Live c i->Edge c i j->0<=d->d<h i.toNat-takesAt c i->P i d->P j d
 push:∀i j,Live c i->Edge c i j->givesAt c i=1->Zlz c v h a P i->P j (h i.toNat-takesAt c i)
 hide:∀i p,Live c i->0<=i->i<half c->bv c (2*i)=9->(P i (-1)∨P i (h i.toNat-1))->Reg c i p->0<=p->p<=half c->P p (-1)
def Flow(c v:ZB)(h:Nat->Int)(a p d:Int):Prop:=∀P:Int->Int->Prop,FCl c v h a P->P p d
theorem Zlz.mono{P Q:Int->Int->Prop}(hPQ:∀d,P i d->Q i d)(k:Zlz c v h a P i):Zlz c v h a Q i:=by
 rcases k with k|k|k|⟨k,k2⟩
 ·exact .inl (hPQ _ k)
 ·exact .inr (.inl k)
 ·exact .inr (.inr (.inl k))
 ·exact .inr (.inr (.inr ⟨k,k2.imp (hPQ _) (hPQ _)⟩))
theorem ZiH(c v:ZB)(h:Nat->Int)(a:Int):FCl c v h a (Flow c v h a):=
 ⟨λi j d hl he h0 h1 hf P hP=>hP.stay i j d hl he h0 h1 (hf P hP),λi j hl he hg hs P hP=>hP.push i j hl he hg (hs.mono (λ_ hf=>hf P hP)),
   λi p hl h0 h1 h9 hf hr hp0 hp1 P hP=>hP.hide i p hl h0 h1 h9 (hf.imp (λk=>k P hP) (λk=>k P hP)) hr hp0 hp1⟩
theorem FCl.congr{P:Int->Int->Prop}(e:∀i:Int,Live c i->0<=i->i<half c->h i.toNat=k i.toNat)(H:FCl c v h a P):FCl c v k a P:=by
 refine⟨λi j d hl he h0 h1 hp=>H.stay i j d hl he h0 (by rw[e i hl he.1 he.2.1];exact h1) hp,λi j hl he hg hs=>?_,λi p hl h0 h1 h9 hp hr=>H.hide i p hl h0 h1 h9 (by rw[e i hl h0 h1];exact hp) hr⟩
 have:=H.push i j hl he hg (by unfold Zlz at hs ⊢;rw[e i hl he.1 he.2.1];exact hs)
 rwa [e i hl he.1 he.2.1]at this
theorem Flow.congr{d:Int}(e:∀i:Int,Live c i->0<=i->i<half c->h i.toNat=k i.toNat)(H:Flow c v h a p d):Flow c v k a p d:=
 λP hP=>H P (hP.congr (λi hl h0 h1=>(e i hl h0 h1).symm))
def Zae(c v:ZB)(i:Int):Int:=if bv c (2*i)=2 then bv v (bv c (2*i+1)) else if bv c (2*i)=10∨bv c (2*i)=11 then bv c (2*i+1) else -1
def ZcH(c:ZB)(i:Int):Bool:=decide (bv c (2*i)=2∨bv c (2*i)=11)
def Breaks(c v t:ZB)(n:Int)(h:Nat->Int)(i:Int):Prop:=
 (0<=i∧i<half c)∧Live c i∧0<=Zae c v i∧∃a,Lv n a∧le t n a (Zae c v i)=false∧(Flow c v h a i (-1)∨(ZcH c i=true∧Flow c v h a i (h i.toNat-1)))
def Trap(c:ZB)(i:Int):Prop:=(0<=i∧i<=half c)∧Live c i∧¬Reach c (One i) (-1) (half c)
def ZdW(c v t:ZB)(n p e:Int):Prop:=
 (e=7∧Trap c p∧∀q,q<p->¬Trap c q)∨
 ((∀q,¬Trap c q)∧((e=8∧p=0∧¬∃h,Zr c h)∨
  (∃h,Zr c h∧((e=9∧Breaks c v t n h p∧∀q,q<p->¬Breaks c v t n h q)∨(e=0∧p=0∧∀q,¬Breaks c v t n h q)))))
def ZbS(s:ZB)(p e:Int):Prop:=
 (scanE s≠0∧p=0∧e=scanE s)∨(scanE s=0∧ZdW (ZQ s) (ZZ s) (fTab s) (bv s 1) p e)
theorem Zer(hr:Ranged c)(H:Zr c h)(K:Zr c k):∀i:Int,Live c i->0<=i->i<half c->h i.toNat=k i.toNat:=by
 intro i hl h0 _
 have:=hl (λx=>0<=x∧Live c x∧h x.toNat=k x.toNat) (λx hx _=>?_) (λx y hx he hw=>?_)
 ·exact this.2.2
 ·have hx:x=0:=hx
  subst hx
  exact⟨by omega,Reach.start rfl (by omega),by rw[show (0:Int).toNat=0 from rfl,H.zero,K.zero]⟩
 ·have e:((x.toNat:Nat):Int)=x:=Qj hx.1
  have hl2:Live c ((x.toNat:Nat):Int):=by rw[e];exact hx.2.1
  have hlt:((x.toNat:Nat):Int)<half c:=by rw[e];exact he.2.1
  have hy:y∈nxt c ((x.toNat:Nat):Int):=by rw[e];exact he.2.2
  refine⟨(hr x y he).1,hx.2.1.step he hw,?_⟩
  rw[H.step x.toNat hlt hl2 y hy,K.step x.toNat hlt hl2 y hy,hx.2.2]
theorem Breaks.congr{t:ZB}(e:∀i:Int,Live c i->0<=i->i<half c->h i.toNat=k i.toNat)(H:Breaks c v t n h i):Breaks c v t n k i:=by
 obtain⟨hi,hl,hs,a,ha,hle,hf⟩:=H
 refine⟨hi,hl,hs,a,ha,hle,?_⟩
 rcases hf with hf|⟨hv,hf⟩
 ·exact .inl (hf.congr e)
 ·exact .inr ⟨hv,by have:=hf.congr e;rwa [e i hl hi.1 hi.2]at this⟩
theorem ZhB{Q:Int->Prop}(hp:Q p)(hp2:∀x,x<p->¬Q x)(hq:Q q)(hq2:∀x,x<q->¬Q x):p=q:=by
 rcases Int.lt_trichotomy p q with h|h|h
 ·exact absurd hp (hq2 p h)
 ·exact h
 ·exact absurd hq (hp2 q h)
theorem ZnN{t:ZB}{e f:Int}(hr:Ranged c)(h1:ZdW c v t n p e)(h2:ZdW c v t n q f):p=q∧e=f:=by
 rcases h1 with ⟨e1,t1,l1⟩|⟨n1,h1⟩
 ·rcases h2 with ⟨e2,t2,l2⟩|⟨n2,_⟩
  ·exact⟨ZhB t1 l1 t2 l2,by omega⟩
  ·exact absurd t1 (n2 p)
 ·rcases h2 with ⟨_,t2,_⟩|⟨n2,h2⟩
  ·exact absurd t2 (n1 q)
  ·rcases h1 with ⟨e1,p1,no⟩|⟨h,H,h1⟩
   ·rcases h2 with ⟨e2,p2,_⟩|⟨k,K,_⟩
    ·exact⟨by omega,by omega⟩
    ·exact absurd ⟨k,K⟩ no
   ·rcases h2 with ⟨_,_,no⟩|⟨k,K,h2⟩
    ·exact absurd ⟨h,H⟩ no
    ·have e:=Zer hr H K
     have e':=Zer hr K H
     rcases h1 with ⟨e1,b1,l1⟩|⟨e1,p1,b1⟩<;>rcases h2 with ⟨e2,b2,l2⟩|⟨e2,p2,b2⟩
     ·exact⟨ZhB (Q:=Breaks c v t n h) b1 l1 (b2.congr e') (λx hx hb=>l2 x hx (hb.congr e)),by omega⟩
     ·exact absurd (b1.congr e) (b2 p)
     ·exact absurd (b2.congr e') (b1 q)
     ·exact⟨by omega,by omega⟩
theorem ZlR{e f:Int}(hr:scanE s=0->Ranged (ZQ s))(h1:ZbS s p e)(h2:ZbS s q f):p=q∧e=f:=by
 rcases h1 with ⟨h1,p1,e1⟩|⟨h1,c1⟩<;>rcases h2 with ⟨h2,p2,e2⟩|⟨h2,c2⟩
 ·exact⟨by omega,by omega⟩
 ·exact absurd h2 h1
 ·exact absurd h1 h2
 ·exact ZnN (hr h1) c1 c2
theorem ZbX(h:Zc8 c v n=true):Ranged c:=by
 intro i j he
 have h0:=he.1
 have h1:=he.2.1
 have hi:=Za.1 h i.toNat (by omega)
 rw[Qj h0]at hi
 have hb:=Zag c (2*i+1)
 have hok:=QB hi
 have hm:=he.2.2
 unfold nxt at hm
 split at hm
 ·simp only[QA]at hm
  omega
 ·split at hm
  ·simp only[Uc,or_false,QV]at hm
   omega
  ·simp only[QA]at hm
   omega
theorem Zo5(h:Zc8 c v n=true)(h0:0<=i)(h1:i<half c):ZaH v.size (half c) n (bv c (2*i)) (bv c (2*i+1))=true:=by
 have hi:=Za.1 h i.toNat (by omega)
 rw[Qj h0]at hi
 exact hi
end Go.Proofs.YtcnbifdlkalimabGreat
