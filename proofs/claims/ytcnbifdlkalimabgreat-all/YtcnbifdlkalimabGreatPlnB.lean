/- Lemmas; their conditions stand in each. -/
import Derived.Test.YtcnbifdlkalimabGreatPlnA
namespace Go.Proofs.YtcnbifdlkalimabGreat
open Go.RowKit Go.Proofs.Tryz
variable{a i n p q:Int}{h k:Nat->Int}{c s v:ZB}
theorem Wj(h:Ft s n=true) :
  (∀a:Int,0<=a->a<n->le s n a a=true)∧(∀a b:Int,0<=a->a<n->0<=b->b<n->le s n a b=true->le s n b a=true->a=b):=by
 have x:Ee s n=true:=by rw[HZ];exact h
 constructor
 ·intro a f g;have:=Ph x a.toNat (by omega)
  rw[Qj f]at this;exact this
 ·intro a b f g u w r t;unfold Ft at h;rw[Zb]at h;have j:=h a.toNat (by omega)
  rw[Zb]at j;have d:=j b.toNat (by omega)
  rw[Qj f,Qj u]at d;unfold EY at d;rw[r,t,Qr]at d;have l:=d.1;by_cases e:a=b
  ·exact e
  ·have m:(a==b)=false:=by simpa using e
   have o:(a != b)=true:=by simpa using e
   rw[m,o]at l;exact absurd l (by decide)
theorem MA{b j:Int}:Bv s n a b j=true↔(le s n a j=true∧le s n b j=true)∧∀c:Int,0<=c->c<n->le s n a c=true->le s n b c=true->le s n j c=true:=by
 unfold Bv Ds;simp only[Qr,Zb,QJ,Bool.not_eq_true'];constructor
 ·rintro⟨d,e⟩;refine⟨d,λc l m f g=>?_⟩;have:=e c.toNat (by omega)
  rw[Qj l,f,g]at this;simpa using this
 ·rintro⟨d,e⟩;refine⟨d,λc l=>?_⟩;cases f:le s n a c with
  | false=>simp
  | true=>
   cases g:le s n b c with
   | false=>simp
   | true=>simp[e c (by omega) (by omega) f g]
theorem XE{b j:Int}:JX s n a b j=true↔(le s n j a=true∧le s n j b=true)∧∀c:Int,0<=c->c<n->le s n c a=true->le s n c b=true->le s n c j=true:=by
 unfold JX Ez;simp only[Qr,Zb,QJ,Bool.not_eq_true'];constructor
 ·rintro⟨d,e⟩;refine⟨d,λc l m f g=>?_⟩;have:=e c.toNat (by omega)
  rw[Qj l,f,g]at this;simpa using this
 ·rintro⟨d,e⟩;refine⟨d,λc l=>?_⟩;cases f:le s n c a with
  | false=>simp
  | true=>
   cases g:le s n c b with
   | false=>simp
   | true=>simp[e c (by omega) (by omega) f g]
theorem Zqm(h:Az s=0){x y:Int}(e:0<=x∧x<Ap s)(f:0<=y∧y<Ap s):(0<=EP s x y∧EP s x y<Ap s)∧Bv s (Ap s) x y (EP s x y)=true∧CT s x y=0:=by have b:=Iq h ⟨e.1,e.2,f.1,f.2⟩;have d:=HY b.2.1;exact⟨⟨d.1,by omega⟩,d.2.2,b.1⟩
theorem Zqn(h:Az s=0){x y:Int}(e:0<=x∧x<Ap s)(f:0<=y∧y<Ap s):(0<=EQ s x y∧EQ s x y<Ap s)∧JX s (Ap s) x y (EQ s x y)=true∧CT s x y=0:=by have b:=Iq h ⟨e.1,e.2,f.1,f.2⟩;have d:=HY b.2.2;exact⟨⟨d.1,by omega⟩,d.2.2,b.1⟩
def jn(s:ZB)(n x y:Int):Int:=(Dt s n x y).getD 0
def Lv(n a:Int):Prop:=0<=a∧a<n
structure Cs(s:ZB)(n:Int):Prop where
 refl:∀a,Lv n a->le s n a a=true
 anti:∀a b,Lv n a->Lv n b->le s n a b=true->le s n b a=true->a=b
 trans:∀a b d,Lv n a->Lv n b->Lv n d->le s n a b=true->le s n b d=true->le s n a d=true
 jin:∀a b,Lv n a->Lv n b->Lv n (jn s n a b)
 jl:∀a b,Lv n a->Lv n b->le s n a (jn s n a b)=true
 jr:∀a b,Lv n a->Lv n b->le s n b (jn s n a b)=true
 jm:∀a b u,Lv n a->Lv n b->Lv n u->le s n a u=true->le s n b u=true->le s n (jn s n a b) u=true
 bot:∃b,Lv n b∧∀a,Lv n a->le s n b a=true
theorem NI(h:Ft s n=true):∀a b d,Lv n a->Lv n b->Lv n d->le s n a b=true->le s n b d=true->le s n a d=true:=by
 intro a b d f g hd m o;have j:=Zb.1 h a.toNat (by have:=f.1;have:=f.2;omega)
 rw[Qj f.1]at j;have e:=Zb.1 j b.toNat (by have:=g.1;have:=g.2;omega)
 rw[Qj g.1]at e;unfold EY at e;rw[Qr]at e;have l:=Zb.1 e.2 d.toNat (by have:=hd.1;have:=hd.2;omega)
 rw[Qj hd.1,m,o]at l;simpa using l
theorem U4(h:Az s=0):Cs s (Ap s):=by
 obtain⟨z,w,C⟩:=Gk h;obtain⟨refl,j⟩:=Wj w;have r:∀a b,Lv (Ap s) a->Lv (Ap s) b->Lv (Ap s) (jn s (Ap s) a b)∧Bv s (Ap s) a b (jn s (Ap s) a b)=true:=λa b d f=>by
  have l:=Iq h ⟨d.1,d.2,f.1,f.2⟩;have o:=Zqm h ⟨d.1,d.2⟩ ⟨f.1,f.2⟩;have e:jn s (Ap s) a b=EP s a b:=by unfold jn;rw[l.2.1];rfl
  rw[e];exact⟨o.1,o.2.1⟩
 refine⟨λa d=>refl a d.1 d.2,λa b d f=>j a b d.1 d.2 f.1 f.2,NI w,λa b d f=>(r a b d f).1,λa b d f=>(MA.1 (r a b d f).2).1.1,λa b d f=>(MA.1 (r a b d f).2).1.2,λa b u d f x=>(MA.1 (r a b d f).2).2 u x.1 x.2,?_⟩;have D:1<=Ap s:=(GK z).1.1;have:∀k:Nat,(k:Int)<=Ap s->∃b,Lv (Ap s) b∧∀a:Int,0<=a->a<k->le s (Ap s) b a=true:=by
  intro k;induction k with
  | zero=>exact λ_=>⟨0,⟨by omega,by omega⟩,λa l o=>by omega⟩
  | succ k A=>
   intro B;obtain⟨b,f,g⟩:=A (by omega);have m:Lv (Ap s) (k:Int):=⟨by omega,by omega⟩
   have t:=Zqn h ⟨f.1,f.2⟩ ⟨m.1,m.2⟩;have y:=XE.1 t.2.1;refine⟨EQ s b k,t.1,λa l o=>?_⟩;by_cases e:a=k
   ·rw[e];exact y.1.2
   ·exact NI w _ b a t.1 f ⟨l,by omega⟩ y.1.1 (g a l (by omega))
 obtain⟨b,f,g⟩:=this (Ap s).toNat (by omega)
 exact⟨b,f,λa d=>g a d.1 (by have:=d.2;omega)⟩
def Hc(c v:ZB)(h:Nat->Int)(a:Int)(P:Int->Int->Prop)(i:Int):Prop:=
 P i (-1)∨(bv c (2*i)=1∧bv v (bv c (2*i+1))=a)∨(bv c (2*i)=10∧bv c (2*i+1)=a)∨((3<=bv c (2*i)∧bv c (2*i)<=7)∧(P i (h i.toNat-1)∨P i (h i.toNat-2)))
structure IF(c v:ZB)(h:Nat->Int)(a:Int)(P:Int->Int->Prop):Prop where
 stay:∀i j d,Aq c i->Cq c i j->0<=d->d<h i.toNat-Ab c i->P i d->P j d
 push:∀i j,Aq c i->Cq c i j->As c i=1->Hc c v h a P i->P j (h i.toNat-Ab c i)
 hide:∀i p,Aq c i->0<=i->i<half c->bv c (2*i)=9->(P i (-1)∨P i (h i.toNat-1))->CO c i p->0<=p->p<=half c->P p (-1)
def AC(c v:ZB)(h:Nat->Int)(a p d:Int):Prop:=∀P:Int->Int->Prop,IF c v h a P->P p d
theorem Hc.mono{P Q:Int->Int->Prop}(b:∀d,P i d->Q i d)(k:Hc c v h a P i):Hc c v h a Q i:=by
 rcases k with k|k|k|⟨k,e⟩
 ·exact .inl (b _ k)
 ·exact .inr (.inl k)
 ·exact .inr (.inr (.inl k))
 ·exact .inr (.inr (.inr ⟨k,e.imp (b _) (b _)⟩))
theorem Hz(c v:ZB)(h:Nat->Int)(a:Int):IF c v h a (AC c v h a):=
 ⟨λi j d f m g l e P b=>b.stay i j d f m g l (e P b),λi j f m u x P b=>b.push i j f m u (x.mono (λ_ e=>e P b)),
   λi p f g l t e w o r P b=>b.hide i p f g l t (e.imp (λk=>k P b) (λk=>k P b)) w o r⟩
theorem IF.congr{P:Int->Int->Prop}(e:∀i:Int,Aq c i->0<=i->i<half c->h i.toNat=k i.toNat)(H:IF c v h a P):IF c v k a P:=by
 refine⟨λi j d f b g l m=>H.stay i j d f b g (by rw[e i f b.1 b.2.1];exact l) m,λi j f b t o=>?_,λi p f g l r m u=>H.hide i p f g l r (by rw[e i f g l];exact m) u⟩;have:=H.push i j f b t (by unfold Hc at o ⊢;rw[e i f b.1 b.2.1];exact o)
 rwa [e i f b.1 b.2.1]at this
theorem AC.congr{d:Int}(e:∀i:Int,Aq c i->0<=i->i<half c->h i.toNat=k i.toNat)(H:AC c v h a p d):AC c v k a p d:=
 λP g=>H P (g.congr (λi j b f=>(e i j b f).symm))
def AL(c v:ZB)(i:Int):Int:=if bv c (2*i)=2 then bv v (bv c (2*i+1)) else if bv c (2*i)=10∨bv c (2*i)=11 then bv c (2*i+1) else -1
def Bw(c:ZB)(i:Int):Bool:=decide (bv c (2*i)=2∨bv c (2*i)=11)
def Bb(c v t:ZB)(n:Int)(h:Nat->Int)(i:Int):Prop:=
 (0<=i∧i<half c)∧Aq c i∧0<=AL c v i∧∃a,Lv n a∧le t n a (AL c v i)=false∧(AC c v h a i (-1)∨(Bw c i=true∧AC c v h a i (h i.toNat-1)))
def CD(c:ZB)(i:Int):Prop:=(0<=i∧i<=half c)∧Aq c i∧¬Ac c (Bx i) (-1) (half c)
def Gq(c v t:ZB)(n p e:Int):Prop:=
 (e=7∧CD c p∧∀q,q<p->¬CD c q)∨
 ((∀q,¬CD c q)∧((e=8∧p=0∧¬∃h,Zj c h)∨
  (∃h,Zj c h∧((e=9∧Bb c v t n h p∧∀q,q<p->¬Bb c v t n h q)∨(e=0∧p=0∧∀q,¬Bb c v t n h q)))))
def DY(s:ZB)(p e:Int):Prop:=
 (AN s≠0∧p=0∧e=AN s)∨(AN s=0∧Gq (Ao s) (At s) (Av s) (bv s 1) p e)
theorem Q7(m:Ay c)(H:Zj c h)(K:Zj c k):∀i:Int,Aq c i->0<=i->i<half c->h i.toNat=k i.toNat:=by
 intro i l r _;have:=l (λx=>0<=x∧Aq c x∧h x.toNat=k x.toNat) (λx b _=>?_) (λx y b g o=>?_)
 ·exact this.2.2
 ·have b:x=0:=b;subst b;exact⟨by omega,Ac.start rfl (by omega),by rw[show (0:Int).toNat=0 from rfl,H.zero,K.zero]⟩
 ·have e:((x.toNat:Nat):Int)=x:=Qj b.1;have d:Aq c ((x.toNat:Nat):Int):=by rw[e];exact b.2.1
  have f:((x.toNat:Nat):Int)<half c:=by rw[e];exact g.2.1
  have j:y∈AP c ((x.toNat:Nat):Int):=by rw[e];exact g.2.2
  refine⟨(m x y g).1,b.2.1.step g o,?_⟩;rw[H.step x.toNat f d y j,K.step x.toNat f d y j,b.2.2]
theorem Bb.congr{t:ZB}(e:∀i:Int,Aq c i->0<=i->i<half c->h i.toNat=k i.toNat)(H:Bb c v t n h i):Bb c v t n k i:=by
 obtain⟨d,g,l,a,j,f,b⟩:=H;refine⟨d,g,l,a,j,f,?_⟩;rcases b with b|⟨m,b⟩
 ·exact .inl (b.congr e)
 ·exact .inr ⟨m,by have:=b.congr e;rwa [e i g d.1 d.2]at this⟩
theorem RP{Q:Int->Prop}(e:Q p)(b:∀x,x<p->¬Q x)(f:Q q)(d:∀x,x<q->¬Q x):p=q:=by
 rcases Int.lt_trichotomy p q with h|h|h
 ·exact absurd e (d p h)
 ·exact h
 ·exact absurd f (b q h)
theorem Zom{t:ZB}{e f:Int}(z:Ay c)(d:Gq c v t n p e)(b:Gq c v t n q f):p=q∧e=f:=by
 rcases d with ⟨l,B,o⟩|⟨E,d⟩
 ·rcases b with ⟨m,w,r⟩|⟨A,_⟩
  ·exact⟨RP B o w r,by omega⟩
  ·exact absurd B (A p)
 ·rcases b with ⟨_,w,_⟩|⟨A,b⟩
  ·exact absurd w (E q)
  ·rcases d with ⟨l,F,u⟩|⟨h,H,d⟩
   ·rcases b with ⟨m,G,_⟩|⟨k,K,_⟩
    ·exact⟨by omega,by omega⟩
    ·exact absurd ⟨k,K⟩ u
   ·rcases b with ⟨_,_,u⟩|⟨k,K,b⟩
    ·exact absurd ⟨h,H⟩ u
    ·have e:=Q7 z H K;have y:=Q7 z K H;rcases d with ⟨l,g,o⟩|⟨l,F,g⟩<;>rcases b with ⟨m,j,r⟩|⟨m,G,j⟩
     ·exact⟨RP (Q:=Bb c v t n h) g o (j.congr y) (λx D C=>r x D (C.congr e)),by omega⟩
     ·exact absurd (g.congr e) (j p)
     ·exact absurd (j.congr y) (g q)
     ·exact⟨by omega,by omega⟩
theorem RQ{e f:Int}(l:AN s=0->Ay (Ao s))(b:DY s p e)(d:DY s q f):p=q∧e=f:=by
 rcases b with ⟨b,r,m⟩|⟨b,g⟩<;>rcases d with ⟨d,t,o⟩|⟨d,j⟩
 ·exact⟨by omega,by omega⟩
 ·exact absurd d b
 ·exact absurd b d
 ·exact Zom (l b) g j
theorem GO(h:FN c v n=true):Ay c:=by
 intro i j d;have f:=d.1;have l:=d.2.1;have e:=Zb.1 h i.toNat (by omega)
 rw[Qj f]at e;have m:=Zx c (2*i+1);have g:=QB e;have b:=d.2.2;unfold AP at b;split at b
 ·simp only[QA]at b;omega
 ·split at b
  ·simp only[Uc,or_false,QV]at b;omega
  ·simp only[QA]at b;omega
theorem PC(h:FN c v n=true)(d:0<=i)(e:i<half c):CS v.size (half c) n (bv c (2*i)) (bv c (2*i+1))=true:=by
 have b:=Zb.1 h i.toNat (by omega)
 rw[Qj d]at b;exact b
end Go.Proofs.YtcnbifdlkalimabGreat
