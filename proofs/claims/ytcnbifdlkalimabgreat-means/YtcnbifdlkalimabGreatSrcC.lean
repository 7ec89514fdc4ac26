import Derived.Test.YtcnbifdlkalimabGreatSrcB
import Derived.Test.YtcnbifdlkalimabGreatPlnB
/- Lemmas for the statement Means; their conditions stand in each. -/
namespace Go.Proofs.YtcnbifdlkalimabGreat
open Go.RowKit Go.Proofs.Tryz
set_option linter.unusedVariables false
variable{n ou:Int}{ex me:List Ex}{vs:List Int}{l:List Nat}{sm:List Sm}{e m:Nat}{g:Nat->Int->List Int}{f:Nat->Int->Nat->List Sq}{r':Rd}{p:Rs}{x:Sm}{q:Tq}{T s:ZB}
def ZoZ{α:Type}(z:α)(lf:Ex->α)(tw:α->α->α)(ex:List Ex):Nat->Nat->α
 | 0,_=>z
 | k+1,e=>match ex[e]? with
  | none=>z
  | some x=>if x.op=0∨x.op=1∨x.op=10 then lf x else tw (ZoZ z lf tw ex k x.l) (ZoZ z lf tw ex k x.r)
def fol{α:Type}(z:α)(lf:Ex->α)(tw:α->α->α)(ex:List Ex)(e:Nat):α:=ZoZ z lf tw ex (e+1) e
theorem Zdz{α:Type}(z:α)(lf:Ex->α)(tw:α->α->α){more:List Ex}(h:Z7 ex):∀(k e k':Nat),e<ex.length->e<k->e<k'->ZoZ z lf tw (ex++more) k e=ZoZ z lf tw ex k' e
 | 0,e,k',_,h1,_=>by omega
 | k+1,e,0,_,_,h1=>by omega
 | k+1,e,k'+1,h0,h1,h2=>by
  simp only[ZoZ]
  rw[QD h0]
  obtain⟨x,hx⟩:∃x,ex[e]?=some x:=⟨ex[e],Qn h0⟩
  rw[hx]
  dsimp only
  by_cases hl:x.op=0∨x.op=1∨x.op=10
  ·rw[if_pos hl,if_pos hl]
  ·rw[if_neg hl,if_neg hl]
   rcases h e x hx with c|⟨c,d⟩
   ·exact absurd c hl
   ·rw[Zdz z lf tw h k x.l k' (by omega) (by omega) (by omega),Zdz z lf tw h k x.r k' (by omega) (by omega) (by omega)]
theorem ZaM{α:Type}(z:α)(lf:Ex->α)(tw:α->α->α){more:List Ex}(h:Z7 ex)(he:e<ex.length):fol z lf tw (ex++more) e=fol z lf tw ex e:=
 Zdz z lf tw h _ _ _ he (by omega) (by omega)
theorem ZaE{α:Type}(z:α)(lf:Ex->α)(tw:α->α->α){x:Ex}(h:Z7 ex)(hx:ex[e]?=some x) :
  fol z lf tw ex e=if x.op=0∨x.op=1∨x.op=10 then lf x else tw (fol z lf tw ex x.l) (fol z lf tw ex x.r):=by
 have he:e<ex.length:=(Ql.1 hx).1
 unfold fol
 rw[ZoZ,hx]
 dsimp only
 by_cases hl:x.op=0∨x.op=1∨x.op=10
 ·rw[if_pos hl,if_pos hl]
 ·rw[if_neg hl,if_neg hl]
  rcases h e x hx with c|⟨c,d⟩
  ·exact absurd c hl
  ·have a:=Zdz (more:=[]) z lf tw h e x.l (x.l+1) (by omega) c (by omega)
   have b:=Zdz (more:=[]) z lf tw h e x.r (x.r+1) (by omega) d (by omega)
   rw[QS]at a b
   rw[a,b]
theorem ZgP{α:Type}(z:α)(lf:Ex->α)(tw:α->α->α){x:Ex}(h:Z7 ex)(hx:x.op=0∨x.op=1∨x.op=10):fol z lf tw (ex++[x]) ex.length=lf x:=by
 rw[ZaE z lf tw (h.add (.inl hx)) (x:=x) (by simp),if_pos hx]
theorem Zi3{α:Type}(z:α)(lf:Ex->α)(tw:α->α->α){x:Ex}(h:Z7 ex)(hx:¬(x.op=0∨x.op=1∨x.op=10))(hl:x.l<ex.length)(hr:x.r<ex.length) :
  fol z lf tw (ex++[x]) ex.length=tw (fol z lf tw ex x.l) (fol z lf tw ex x.r):=by
 rw[ZaE z lf tw (h.add (.inr ⟨hl,hr⟩)) (x:=x) (by simp),if_neg hx,ZaM z lf tw h hl,ZaM z lf tw h hr]
def need(ex:List Ex)(e:Nat):Int:=fol 1 (λ_=>1) (λa b=>max a (b+1)) ex e
def lfL(vs:List Int)(x:Ex):Int:=if x.op=1 then vs.getD x.v.toNat 0 else x.v
def ZkE(vs:List Int)(x:Ex)(j:Nat):Bool:=decide (x.op≠0)&&decide ((j:Int)=lfL vs x)
def reads(vs:List Int)(ex:List Ex)(e:Nat)(j:Nat):Bool:=fol false (λx=>ZkE vs x j) (λa b=>a||b) ex e
def ZlG(x:Ex)(j:Nat):Bool:=decide (x.op=10)&&decide ((j:Int)=x.v)
def tapes(ex:List Ex)(e:Nat)(j:Nat):Bool:=fol false (λx=>ZlG x j) (λa b=>a||b) ex e
theorem ZdA(ex:List Ex)(e:Nat):1<=need ex e:=by
 have key:∀k e,1<=ZoZ (1:Int) (λ_=>1) (λa b=>max a (b+1)) ex k e:=by
  intro k
  induction k with
  | zero=>intro e;exact QP _
  | succ k ih=>
   intro e
   simp only[ZoZ]
   split
   ·exact QP _
   ·split
    ·exact QP _
    ·have:=ih ‹Ex›.l
     omega
 exact key _ _
def XB(n:Int)(m:Nat)(x:Ex):Prop:=(x.op=0∧0<=x.v∧x.v<=255)∨(x.op=1∧0<=x.v∧x.v<m)∨(x.op=10∧0<=x.v∧x.v<n)∨(3<=x.op∧x.op<=7)
def ExB(n:Int)(m:Nat)(ex:List Ex):Prop:=∀x,x∈ex->XB n m x
theorem ExB.add(h:ExB n m ex){x:Ex}(hx:XB n m x):ExB n m (ex++[x]):=by
 intro y hy
 rw[QI,QA]at hy
 rcases hy with c|c
 ·exact h y c
 ·rw[c];exact hx
structure Zsb(x:Tq×Sq)(p:Rs)(y:Tq×Sq)(z:Rs×Nat):Prop where
 h:y.1.h=x.1.h+1
 hi:y.1.hi=max x.1.hi (x.1.h+need z.1.ex z.2)
 nd:∀e,p.ex.length<=e->e<z.1.ex.length->need z.1.ex e<=need z.1.ex z.2
 rd:∀j,y.2.rd j=(x.2.rd j||reads p.vs z.1.ex z.2 j)
 tp:∀j,y.2.tp j=(x.2.tp j||tapes z.1.ex z.2 j)
 k:y.2.k=x.2.k
 pl:y.2.pl=x.2.pl
 ou:y.2.ou=x.2.ou
 ta:y.2.ta=x.2.ta
 eb:1<=p.n->p.ls.length=p.vs.length->ExB p.n p.vs.length p.ex->ExB p.n p.vs.length z.1.ex
def HOk(x:Tq×Sq)(p:Rs)(y:Tq×Sq)(z:Rs×Nat):Prop:=z.1.r.er=0->Z7 p.ex->Zsb x p y z
theorem Zi4{r:Rd}(hn:1<=n):0<=dig s r 0 (n-1)∧dig s r 0 (n-1)<n:=by
 unfold dig isD
 split
 ·have:=QB ‹_›
  omega
 ·omega
theorem Zmp{r:Rd}{ls:List Int}(h:ZaW s r ls=true):varI s r ls<ls.length:=by
 unfold varI
 rw[if_pos h]
 unfold ZaW at h
 exact QB (Qr _ _ ▸ h:_∧_).2
theorem Zi5(m:Nat->Bool)(v:Int)(j:Nat):Zhs m v j=(m j||decide ((j:Int)=v)):=by
 unfold Zhs
 by_cases h:(j:Int)=v
 ·rw[if_pos h,Qv h,Bool.or_true]
 ·rw[if_neg h,Qx h,Bool.or_false]
theorem Zmq{x:Tq×Sq}{r:Rd}{op v:Int}{n:Ex}{m m':Nat->Bool}(hop:n.op=0∨n.op=1∨n.op=10)(he:op=n.op)(hE:Z7 p.ex)(hr:∀j,m j=(x.2.rd j||ZkE p.vs n j))(ht:∀j,m' j=(x.2.tp j||ZlG n j))(hb:1<=p.n->p.ls.length=p.vs.length->XB p.n p.vs.length n) :
  Zsb x p (emitQ {x.1 with r:=r} op v,{x.2 with rd:=m,tp:=m'}) (nodP p r' n):=by
 have hg:givesF op=1∧takesF op=0:=by subst he;rcases hop with h|h|h<;>rw[h]<;>exact⟨rfl,rfl⟩
 have hn:need (p.ex++[n]) p.ex.length=1:=ZgP _ _ _ hE hop
 refine⟨?_,?_,?_,λj=>?_,λj=>?_,rfl,rfl,rfl,rfl,λa b c=>c.add (hb a b)⟩
 ·show x.1.h+givesF op-takesF op=_
  rw[hg.1,hg.2];omega
 ·show max x.1.hi (x.1.h+givesF op-takesF op)=max x.1.hi (x.1.h+need (p.ex++[n]) p.ex.length)
  rw[hg.1,hg.2,hn];omega
 ·intro e h1 h2
  have h2:e<(p.ex++[n]).length:=h2
  rw[Qe,Qt,Qy]at h2
  have:e=p.ex.length:=by omega
  rw[this]
  exact QP _
 ·show m j=(x.2.rd j||fol false (λx=>ZkE p.vs x j) (λa b=>a||b) (p.ex++[n]) p.ex.length)
  rw[ZgP _ _ _ hE hop];exact hr j
 ·show m' j=(x.2.tp j||fol false (λx=>ZlG x j) (λa b=>a||b) (p.ex++[n]) p.ex.length)
  rw[ZgP _ _ _ hE hop];exact ht j
theorem Zpd(s:ZB)(k:Nat)(ih:∀(x:Tq×Sq) (p:Rs),Ag x.1 p->rem s p.r<k->HOk x p (exprQ s k x) (exprP s k p))(x:Tq×Sq)(p:Rs)(hA:Ag x.1 p)(hk:rem s p.r<=k) :
  HOk x p (termQ s (exprQ s k) x) (termP s (exprP s k) p):=by
 have hr:=hA.r
 unfold termQ termP
 rw[hr]
 by_cases h1:48<=tok s p.r∧tok s p.r<=57
 ·rw[if_pos h1,if_pos h1]
  intro h hE
  exact Zmq (m:=x.2.rd) (m':=x.2.tp) (.inl rfl) rfl hE (λj=>by simp[ZkE]) (λj=>by simp[ZlG]) (λ_ _=>.inl ⟨rfl,Zl3 _ _ _ (by omega) (by omega)⟩)
 ·rw[if_neg h1,if_neg h1]
  by_cases h2:tok s p.r=36
  ·rw[if_pos h2,if_pos h2]
   have e1:tk s (adv s p.r) 36=nx (adv s p.r):=by rw[<-h2];exact Z8 (by omega)
   unfold Ziu
   dsimp only
   rw[e1,hA.n]
   intro h hE
   have:=Zmq (x:=x) (p:=p) (r:=digR s (nx (adv s p.r)) 0 (p.n-1)) (r':=digR s (nx (adv s p.r)) 0 (p.n-1)) (op:=10) (v:=dig s (nx (adv s p.r)) 0 (p.n-1)) (n:=⟨10,dig s (nx (adv s p.r)) 0 (p.n-1),0,0⟩) (m:=Zhs x.2.rd (dig s (nx (adv s p.r)) 0 (p.n-1))) (m':=Zhs x.2.tp (dig s (nx (adv s p.r)) 0 (p.n-1))) (.inr (.inr rfl)) rfl hE (λj=>by rw[Zi5];simp[ZkE,lfL]) (λj=>by rw[Zi5];simp[ZlG]) (λa _=>.inr (.inr (.inl ⟨rfl,Zi4 a⟩)))
   exact⟨this.h,this.hi,this.nd,this.rd,this.tp,rfl,rfl,rfl,rfl,this.eb⟩
  ·rw[if_neg h2,if_neg h2]
   by_cases h3:tok s p.r=40
   ·rw[if_pos h3,if_pos h3]
    have ht:=ZK (s:=s) (r:=p.r) (by omega)
    have hI:=ih ({x.1 with r:=nx (adv s p.r)},x.2) {p with r:=nx (adv s p.r)} ⟨rfl,hA.n,hA.ls,hA.vs⟩ (by show rem s (nx (adv s p.r))<k;omega)
    generalize exprQ s k ({x.1 with r:=nx (adv s p.r)},x.2)=y at *
    generalize exprP s k {p with r:=nx (adv s p.r)}=z at *
    intro h hE
    have H:=hI (ZbD h) hE
    exact⟨H.h,H.hi,H.nd,H.rd,H.tp,H.k,H.pl,H.ou,H.ta,H.eb⟩
   ·rw[if_neg h3,if_neg h3]
    unfold Ziv
    dsimp only
    rw[Za5,ZdN,hA.ls]
    intro h hE
    have:=Zmq (x:=x) (p:=p) (r:=varR s p.r p.ls) (r':=varR s p.r p.ls) (op:=1) (v:=varI s p.r p.ls) (n:=⟨1,varI s p.r p.ls,0,0⟩) (m:=Zhs x.2.rd (lvOf x.1 (varI s p.r p.ls))) (m':=x.2.tp) (.inr (.inl rfl)) rfl hE (λj=>by rw[Zi5];unfold ZkE lfL lvOf;rw[hA.vs];simp) (λj=>by simp[ZlG]) (λ_ b=>.inr (.inl ⟨rfl,by have:=Zmp (Zft h).2;constructor<;>dsimp only<;>omega⟩))
    exact⟨this.h,this.hi,this.nd,this.rd,this.tp,rfl,rfl,rfl,rfl,this.eb⟩
theorem Zpe(s:ZB)(K:Nat)(tq:Tq×Sq->Tq×Sq)(tp:Rs->Rs×Nat)(hT:∀(x:Tq×Sq) (p:Rs),Ag x.1 p->rem s p.r<=K->ZnJ s x p (tq x) (tp p)∧HOk x p (tq x) (tp p)) :
  ∀(k:Nat) (x0:Tq×Sq) (p0:Rs) (x:Tq×Sq) (z:Rs×Nat),Ag x0.1 p0->rem s p0.r<=K->ZnJ s x0 p0 x z->HOk x0 p0 x z->HOk x0 p0 (moreQ s tq k x) (moreP s tp k z)
 | 0,x0,p0,x,z,hA,hK,hS,hH=>by
  intro h hE
  have H:=hH (by rw[<-Zk s];exact h) hE
  exact⟨H.h,H.hi,H.nd,H.rd,H.tp,H.k,H.pl,H.ou,H.ta,H.eb⟩
 | k+1,x0,p0,x,z,hA,hK,hS,hH=>by
  simp only[moreQ,moreP]
  rw[hS.r]
  by_cases h0:opOf (tok s z.1.r)=0
  ·rw[if_pos h0,if_pos h0]
   intro h hE
   have H:=hH (by rw[<-Zk s];exact h) hE
   exact⟨H.h,H.hi,H.nd,H.rd,H.tp,H.k,H.pl,H.ou,H.ta,H.eb⟩
  ·rw[if_neg h0,if_neg h0]
   have hp:=ZbG h0
   have ht:=ZK (s:=s) (r:=z.1.r) hp.1
   have hAz:=hA.go hS.fq hS.fp hS.r
   have hle:=hS.le
   obtain⟨hI,hIH⟩:=hT ({x.1 with r:=nx (adv s z.1.r)},x.2) {z.1 with r:=nx (adv s z.1.r)} ⟨rfl,hAz.n,hAz.ls,hAz.vs⟩ (by show rem s (nx (adv s z.1.r))<=K;omega)
   refine Zpe s K tq tp hT k x0 p0 _ _ hA hK ?_ ?_
   ·have c:rem s ({z.1 with r:=nx (adv s z.1.r)}:Rs).r=rem s (nx (adv s z.1.r)):=rfl
    have hle2:=hI.le
    generalize opOf (tok s z.1.r)=op at *
    generalize tq ({x.1 with r:=nx (adv s z.1.r)},x.2)=y at *
    generalize tp {z.1 with r:=nx (adv s z.1.r)}=u at *
    refine⟨hI.r,by show rem s u.1.r<=_;omega,λh=>?_,?_,hI.ss.trans hS.ss,?_,hI.sm.trans hS.sm,λh hE=>?_⟩
    ·have:=hI.bad h
     have:(nx (adv s z.1.r)).er=0:=this
     rw[Zdt,Zk]at this
     exact hS.bad this
    ·exact hS.fq.trans ⟨hI.fq.n,hI.fq.pn,hI.fq.pr,hI.fq.ls,hI.fq.vs⟩
    ·exact hS.fp.trans ⟨hI.fp.n,hI.fp.ls,hI.fp.vs⟩
    ·have b0:z.1.r.er=0:=by
      have:=hI.bad h
      have:(nx (adv s z.1.r)).er=0:=this
      rw[Zdt,Zk]at this
      exact this
     obtain⟨m1,e1,o1,l1,c1⟩:=hS.ok b0 hE
     obtain⟨m2,e2,o2,l2,c2⟩:=hI.ok h o1
     have e2:u.1.ex=z.1.ex++m2:=e2
     have lz:z.2<u.1.ex.length:=by rw[e2,Qe];omega
     refine⟨m1++m2++[⟨op,0,z.2,u.2⟩],?_,o2.add (.inr ⟨lz,l2⟩),by simp[nodP],?_⟩
     ·show u.1.ex++[_]=_
      rw[e2,e1]
      simp
     ·show y.1.cd++_=x0.1.cd++cod (u.1.ex++[_]) u.1.ex.length
      rw[Zm2 o2 (by show ¬(op=0∨op=1∨op=10);omega) lz l2,c2]
      show x.1.cd++cod u.1.ex u.2++[op,0%256]=_
      rw[c1,show cod u.1.ex z.2=cod z.1.ex z.2 from by rw[e2];exact Zg8 o1 l1]
      rw[show op%256=op from by omega]
      simp
   ·generalize opOf (tok s z.1.r)=op at *
    generalize tq ({x.1 with r:=nx (adv s z.1.r)},x.2)=y at *
    generalize tp {z.1 with r:=nx (adv s z.1.r)}=u at *
    intro h hE
    have b0:z.1.r.er=0:=by
     have:=hI.bad h
     have:(nx (adv s z.1.r)).er=0:=this
     rw[Zdt,Zk]at this
     exact this
    obtain⟨m1,e1,o1,l1,c1⟩:=hS.ok b0 hE
    obtain⟨m2,e2,o2,l2,c2⟩:=hI.ok h o1
    have e2:u.1.ex=z.1.ex++m2:=e2
    have lz:z.2<u.1.ex.length:=by rw[e2,Qe];omega
    have H:=hH b0 hE
    have J:=hIH h o1
    have hop:¬(op=0∨op=1∨op=10):=by omega
    have hg:givesF op=1∧takesF op=2:=by
     rcases(show op=3∨op=4∨op=5∨op=6∨op=7 from by omega) with c|c|c|c|c<;>rw[c]<;>exact⟨rfl,rfl⟩
    have n1:need u.1.ex z.2=need z.1.ex z.2:=by rw[e2];exact ZaM _ _ _ o1 l1
    have n2:need (u.1.ex++[⟨op,0,z.2,u.2⟩]) u.1.ex.length=max (need z.1.ex z.2) (need u.1.ex u.2+1):=by rw[<-n1];exact Zi3 _ _ _ o2 hop lz l2
    have jh:y.1.h=x.1.h+1:=J.h
    have jhi:y.1.hi=max x.1.hi (x.1.h+need u.1.ex u.2):=J.hi
    have hh:=H.h
    have hhi:=H.hi
    refine⟨?_,?_,?_,λj=>?_,λj=>?_,J.k.trans H.k,J.pl.trans H.pl,J.ou.trans H.ou,J.ta.trans H.ta,λa b c=>?_⟩
    ·show y.1.h+givesF op-takesF op=_
     rw[hg.1,hg.2];omega
    ·show max y.1.hi (y.1.h+givesF op-takesF op)=max x0.1.hi (x0.1.h+need (u.1.ex++[⟨op,0,z.2,u.2⟩]) u.1.ex.length)
     have:=ZdA u.1.ex u.2
     have:=ZdA z.1.ex z.2
     rw[hg.1,hg.2,n2];omega
    ·intro e h1 h2
     have h2:e<(u.1.ex++[(⟨op,0,z.2,u.2⟩:Ex)]).length:=h2
     show need (u.1.ex++[⟨op,0,z.2,u.2⟩]) e<=need (u.1.ex++[⟨op,0,z.2,u.2⟩]) u.1.ex.length
     rw[Qe,Qt,Qy]at h2
     rw[n2]
     by_cases he:e=u.1.ex.length
     ·rw[he,n2];exact QP _
     ·have he:e<u.1.ex.length:=by omega
      rw[show need (u.1.ex++[⟨op,0,z.2,u.2⟩]) e=need u.1.ex e from ZaM _ _ _ o2 he]
      by_cases hz:e<z.1.ex.length
      ·have:=H.nd e h1 hz
       rw[show need u.1.ex e=need z.1.ex e from by rw[e2];exact ZaM _ _ _ o1 hz]
       omega
      ·have:=J.nd e (by show z.1.ex.length<=e;omega) he
       omega
    ·show y.2.rd j=(x0.2.rd j||fol false (λx=>ZkE p0.vs x j) (λa b=>a||b) (u.1.ex++[⟨op,0,z.2,u.2⟩]) u.1.ex.length)
     rw[Zi3 _ _ _ o2 hop lz l2]
     have a:y.2.rd j=(x.2.rd j||reads z.1.vs u.1.ex u.2 j):=J.rd j
     have b:=H.rd j
     rw[a,b,show z.1.vs=p0.vs from hS.fp.vs]
     show (x0.2.rd j||reads p0.vs z.1.ex z.2 j||reads p0.vs u.1.ex u.2 j)=(x0.2.rd j||(reads p0.vs u.1.ex z.2 j||reads p0.vs u.1.ex u.2 j))
     rw[show reads p0.vs u.1.ex z.2 j=reads p0.vs z.1.ex z.2 j from by rw[e2];exact ZaM _ _ _ o1 l1,Bool.or_assoc]
    ·show y.2.tp j=(x0.2.tp j||fol false (λx=>ZlG x j) (λa b=>a||b) (u.1.ex++[⟨op,0,z.2,u.2⟩]) u.1.ex.length)
     rw[Zi3 _ _ _ o2 hop lz l2]
     have a:y.2.tp j=(x.2.tp j||tapes u.1.ex u.2 j):=J.tp j
     have b:=H.tp j
     rw[a,b]
     show (x0.2.tp j||tapes z.1.ex z.2 j||tapes u.1.ex u.2 j)=(x0.2.tp j||(tapes u.1.ex z.2 j||tapes u.1.ex u.2 j))
     rw[show tapes u.1.ex z.2 j=tapes z.1.ex z.2 j from by rw[e2];exact ZaM _ _ _ o1 l1,Bool.or_assoc]
    ·have en:z.1.n=p0.n:=hS.fp.n
     have ev:z.1.vs=p0.vs:=hS.fp.vs
     have el:z.1.ls=p0.ls:=hS.fp.ls
     have E1:=H.eb a b c
     have E2:ExB z.1.n z.1.vs.length u.1.ex:=J.eb (by show 1<=z.1.n;rw[en];exact a) (by show z.1.ls.length=z.1.vs.length;rw[el,ev];exact b) (by show ExB z.1.n z.1.vs.length z.1.ex;rw[en,ev];exact E1)
     rw[en,ev]at E2
     exact E2.add (.inr (.inr (.inr (by show 3<=op∧op<=7;omega))))
theorem Zmr(s:ZB):∀(k:Nat) (x:Tq×Sq) (p:Rs),Ag x.1 p->rem s p.r<k->HOk x p (exprQ s k x) (exprP s k p)
 | 0,x,p,hA,hk=>by omega
 | k+1,x,p,hA,hk=>by
  simp only[exprQ,exprP]
  exact Zpe s k _ _ (λx p hA hk=>⟨Zcj s k (ZbI s k) x p hA hk,Zpd s k (Zmr s k) x p hA hk⟩) k x p _ _ hA (by omega) (Zcj s k (ZbI s k) x p hA (by omega)) (Zpd s k (Zmr s k) x p hA (by omega))
theorem Zsp(s:ZB)(x:Tq×Sq)(p:Rs)(hA:Ag x.1 p):HOk x p (exQ s x) (exP s p):=
 Zmr s _ x p hA (by have:=Z1 s p.r;omega)
def flG(f:Nat->Int->Nat->List Sq):List Nat->Int->Nat->List Sq
 | [],_,_=>[]
 | n::l,ou,b=>f n ou b++flG f l ou (b+(f n ou b).length)
def Ziw(vs:List Int)(ex:List Ex)(x:Sm)(ou:Int):Sq:=
 ⟨if x.k=61 then 1 else if x.k=62 then 2 else if x.k=63 then 3 else 4,x.a,ou,if x.k=61 then vs.getD x.v.toNat 0 else if x.k=62 then x.v else 0,reads vs ex x.e,tapes ex x.e⟩
def flF(vs:List Int)(ex:List Ex)(sm:List Sm):Nat->Nat->Int->Nat->List Sq
 | 0,_,_,_=>[]
 | k+1,n,ou,b=>match sm[n]? with
  | none=>[]
  | some x=>Ziw vs ex x ou::(flG (flF vs ex sm k) x.bo b (b+1)++flG (flF vs ex sm k) x.el b (b+1+(flG (flF vs ex sm k) x.bo b (b+1)).length))
def fl(vs:List Int)(ex:List Ex)(sm:List Sm)(n:Nat)(ou:Int)(b:Nat):List Sq:=flF vs ex sm (n+1) n ou b
def fls(vs:List Int)(ex:List Ex)(sm:List Sm)(l:List Nat)(ou:Int)(b:Nat):List Sq:=flG (fl vs ex sm) l ou b
theorem Zi6(f:Nat->Int->Nat->List Sq)(n:Nat)(ou:Int):∀(l:List Nat) (b:Nat),flG f (l++[n]) ou b=flG f l ou b++f n ou (b+(flG f l ou b).length)
 | [],b=>by simp[flG]
 | m::l,b=>by
  simp only[flG,Uj]
  rw[Zi6 f n ou l _,QE,Qe,Uv]
theorem Zcw{g:Nat->Int->Nat->List Sq}(ou:Int):∀(l:List Nat) (b:Nat),(∀n,n∈l->∀b,f n ou b=g n ou b)->flG f l ou b=flG g l ou b
 | [],b,h=>rfl
 | m::l,b,h=>by
  simp only[flG]
  rw[h m (by simp) b,Zcw ou l _ (λn hn=>h n (by simp[hn]))]
theorem Zoh(hE:Z7 ex)(he:x.e<ex.length):Ziw vs (ex++me) x ou=Ziw vs ex x ou:=by
 unfold Ziw
 rw[show reads vs (ex++me) x.e=reads vs ex x.e from funext λj=>ZaM _ _ _ hE he,show tapes (ex++me) x.e=tapes ex x.e from funext λj=>ZaM _ _ _ hE he]
theorem ZgQ{ms:List Sm}(hE:Z7 ex)(hS:ZaQ ex sm):∀(k n k':Nat) (ou:Int) (b:Nat),n<sm.length->n<k->n<k'->flF vs (ex++me) (sm++ms) k n ou b=flF vs ex sm k' n ou b
 | 0,n,k',ou,b,_,h1,_=>by omega
 | k+1,n,0,ou,b,_,_,h1=>by omega
 | k+1,n,k'+1,ou,b,h0,h1,h2=>by
  simp only[flF]
  rw[QD h0]
  obtain⟨x,hx⟩:∃x,sm[n]?=some x:=⟨sm[n],Qn h0⟩
  obtain⟨o1,o2,o3⟩:=hS n x hx
  rw[hx]
  dsimp only
  rw[Zoh hE o1]
  have hb:∀c d,flG (flF vs (ex++me) (sm++ms) k) x.bo c d=flG (flF vs ex sm k') x.bo c d:=λc d=>Zcw _ _ _ λm hm b=>ZgQ hE hS k m k' _ b (by have:=o2 m hm;omega) (by have:=o2 m hm;omega) (by have:=o2 m hm;omega)
  have hl:∀c d,flG (flF vs (ex++me) (sm++ms) k) x.el c d=flG (flF vs ex sm k') x.el c d:=λc d=>Zcw _ _ _ λm hm b=>ZgQ hE hS k m k' _ b (by have:=o3 m hm;omega) (by have:=o3 m hm;omega) (by have:=o3 m hm;omega)
  rw[hb,hl]
theorem Zms{ms:List Sm}{b:Nat}(hE:Z7 ex)(hS:ZaQ ex sm)(hn:∀n,n∈l->n<sm.length):fls vs (ex++me) (sm++ms) l ou b=fls vs ex sm l ou b:=
 Zcw _ _ _ λn h b=>ZgQ hE hS _ _ _ _ _ (hn n h) (by omega) (by omega)
theorem Mo.fls{z:Rs}(h:Mo p z)(hE:Z7 p.ex)(hS:ZaQ p.ex p.sm)(vs:List Int)(hl:∀n,n∈l->n<p.sm.length)(ou:Int)(b:Nat):Go.Proofs.YtcnbifdlkalimabGreat.fls vs z.ex z.sm l ou b=Go.Proofs.YtcnbifdlkalimabGreat.fls vs p.ex p.sm l ou b:=by
 obtain⟨m1,e1⟩:=h.ex
 obtain⟨m3,e3⟩:=h.sm
 rw[e1,e3]
 exact Zms hE hS hl
theorem Zsq{n:Nat}(hE:Z7 ex)(hS:ZaQ ex sm)(hx:sm[n]?=some x)(ou:Int)(b:Nat) :
  fl vs ex sm n ou b=Ziw vs ex x ou::(fls vs ex sm x.bo b (b+1)++fls vs ex sm x.el b (b+1+(fls vs ex sm x.bo b (b+1)).length)):=by
 have hn:n<sm.length:=(Ql.1 hx).1
 obtain⟨o1,o2,o3⟩:=hS n x hx
 have key:∀(l:List Nat) (c:Int) (d:Nat),(∀m,m∈l->m<n)->flG (flF vs ex sm n) l c d=fls vs ex sm l c d:=λl c d hl=>Zcw _ _ _ λm hm b=>by
  have:=ZgQ (vs:=vs) (me:=[]) (ms:=[]) hE hS n m (m+1) c b (by have:=hl m hm;omega) (hl m hm) (by omega)
  rw[QS,QS]at this
  exact this
 unfold fl
 rw[flF,hx]
 dsimp only
 rw[key _ _ _ o2,key _ _ _ o3]
theorem ZhX(hE:Z7 ex)(hS:ZaQ ex sm)(he:x.e<ex.length)(hb:∀m,m∈x.bo->m<sm.length)(hl:∀m,m∈x.el->m<sm.length)(ou:Int)(b:Nat) :
  fl vs ex (sm++[x]) sm.length ou b=Ziw vs ex x ou::(fls vs ex sm x.bo b (b+1)++fls vs ex sm x.el b (b+1+(fls vs ex sm x.bo b (b+1)).length)):=by
 rw[Zsq hE (hS.add he hb hl) (x:=x) (by simp)]
 have key:∀(l:List Nat) (c:Int) (d:Nat),(∀m,m∈l->m<sm.length)->fls vs ex (sm++[x]) l c d=fls vs ex sm l c d:=λl c d h=>by
  have:=Zms (vs:=vs) (me:=[]) (ms:=[x]) (ou:=c) (b:=d) hE hS h
  rw[QS]at this
  exact this
 rw[key _ _ _ hb,key _ _ _ hl]
def SB(n:Int)(m:Nat)(x:Sm):Prop:=(x.k=61∧0<=x.v∧x.v<m)∨(x.k=62∧0<=x.v∧x.v<n)∨x.k=63∨x.k=64
structure Jn(s:ZB)(q:Tq)(p:Rs):Prop where
 le:q.r.a<=s.size
 ev:q.cd.length%2=0
 h:q.h=0
 h0:0<=q.hi
 nd:∀e,e<p.ex.length->need p.ex e<=q.hi
 hi:q.hi=0∨∃e,e<p.ex.length∧q.hi=need p.ex e
 eb:ExB p.n p.vs.length p.ex
 sb:∀x,x∈p.sm->SB p.n p.vs.length x
 srt:q.ss.Pairwise λa b=>a.pl<=b.pl
 pl:∀x,x∈q.ss->x.pl<=q.r.a
 n1:1<=p.n
 ll:p.ls.length=p.vs.length
theorem Jn.r(H:Jn s q p){r:Rd}(h1:q.r.a<=r.a)(h2:r.a<=s.size):Jn s {q with r:=r} {p with r:=r'}:=
 ⟨h2,H.ev,H.h,H.h0,H.nd,H.hi,H.eb,H.sb,H.srt,λx hx=>by have:=H.pl x hx;have:(q.r.a:Int)<=r.a:=Int.ofNat_le.2 h1;show x.pl<=(r.a:Int);omega,H.n1,H.ll⟩
theorem Jn.aim(H:Jn s q p)(z:Nat):Jn s (aimQ q z) p:=
 ⟨H.le,by show (q.cd.set _ _).length%2=0;rw[Um];exact H.ev,H.h,H.h0,H.nd,H.hi,H.eb,H.sb,H.srt,H.pl,H.n1,H.ll⟩
theorem Jn.jump(H:Jn s q p)(v:Int):Jn s (emitQ q 8 v) p:=by
 have e1:max q.hi (q.h+givesF 8-takesF 8)=q.hi:=by rw[H.h,show givesF 8=0 from rfl,show takesF 8=0 from rfl];have:=H.h0;omega
 have e2:q.h+givesF 8-takesF 8=0:=by rw[H.h];rfl
 refine⟨H.le,?_,e2,?_,?_,?_,H.eb,H.sb,H.srt,H.pl,H.n1,H.ll⟩
 ·show (q.cd++[8,v%256]).length%2=0
  rw[Qe]
  have:=H.ev
  simp only[Qt,Qy]
  omega
 ·show 0<=max q.hi _;rw[e1];exact H.h0
 ·intro e he;show _<=max q.hi _;rw[e1];exact H.nd e he
 ·show max q.hi _=0∨_;rw[show (emitQ q 8 v).hi=max q.hi (q.h+givesF 8-takesF 8) from rfl,e1];exact H.hi
theorem Jn.sto(H:Jn s q p){r:Rd}(hx:SB p.n p.vs.length x):Jn s q (ZeC p r x).1:=
 ⟨H.le,H.ev,H.h,H.h0,H.nd,H.hi,H.eb,λy hy=>by
  have hy:y∈p.sm++[x]:=hy
  rw[QI,QA]at hy
  rcases hy with c|c
  ·exact H.sb y c
  ·rw[c];exact hx,H.srt,H.pl,H.n1,H.ll⟩
theorem ZgR{r:Rd}(h:rem s r'<=rem s r)(h0:r.er=0)(h1:r'.er=0)(hl:r.a<=s.size):r.a<=r'.a:=by
 unfold rem at h
 rw[if_pos h0,if_pos h1]at h
 omega
theorem Jn.put(H:Jn s q p){r0 r:Rd}{x:Sq}{y:Tq×Sq}{z:Rs×Nat}(hS:ZnJ s ({q with r:=r0},x) {p with r:=r0} y z)(hH:Zsb ({q with r:=r0},x) {p with r:=r0} y z)
  (hz:z.1.r.er=0) (hE:Z7 p.ex) {op v:Int} (h1:givesF op=0) (h2:takesF op=1) (hp:(q.r.a:Int)<=x.pl) (hr:x.pl<=r.a) (hl:r.a<=s.size):Jn s (emitQ (addQ {y.1 with r:=r} y.2) op v) z.1:=by
 obtain⟨m,e1,o1,l1,c1⟩:=hS.ok hz hE
 have e1:z.1.ex=p.ex++m:=e1
 have c1:y.1.cd=q.cd++cod z.1.ex z.2:=c1
 have en:z.1.n=p.n:=hS.fp.n
 have ev:z.1.vs=p.vs:=hS.fp.vs
 have el:z.1.ls=p.ls:=hS.fp.ls
 have hh:y.1.h=q.h+1:=hH.h
 have hhi:y.1.hi=max q.hi (q.h+need z.1.ex z.2):=hH.hi
 have hq:=H.h
 have h0:=H.h0
 have hn:=ZdA z.1.ex z.2
 have hss:y.1.ss=q.ss:=hS.ss
 have e2:max y.1.hi (y.1.h+givesF op-takesF op)=max q.hi (need z.1.ex z.2):=by rw[h1,h2];omega
 refine⟨hl,?_,?_,?_,?_,?_,?_,?_,?_,?_,?_,?_⟩
 ·show (y.1.cd++[op,v%256]).length%2=0
  have:=Zbk z.1.ex z.2
  have:=H.ev
  rw[c1]
  simp only[Qe,Qt,Qy]
  omega
 ·show y.1.h+givesF op-takesF op=0
  rw[h1,h2];omega
 ·show 0<=max y.1.hi (y.1.h+givesF op-takesF op)
  rw[e2];omega
 ·intro e he
  show need z.1.ex e<=max y.1.hi (y.1.h+givesF op-takesF op)
  rw[e2]
  by_cases hp:e<p.ex.length
  ·have:=H.nd e hp
   rw[show need z.1.ex e=need p.ex e from by rw[e1];exact ZaM _ _ _ hE hp]
   omega
  ·have:=hH.nd e (by show p.ex.length<=e;omega) he
   omega
 ·show max y.1.hi (y.1.h+givesF op-takesF op)=0∨∃e,e<z.1.ex.length∧max y.1.hi (y.1.h+givesF op-takesF op)=need z.1.ex e
  rw[e2]
  by_cases hm:q.hi<=need z.1.ex z.2
  ·exact .inr ⟨z.2,l1,by omega⟩
  ·rcases H.hi with c|⟨e,he,c⟩
   ·omega
   ·refine .inr ⟨e,by rw[e1,Qe];omega,?_⟩
    rw[show need z.1.ex e=need p.ex e from by rw[e1];exact ZaM _ _ _ hE he]
    omega
 ·rw[en,ev];exact hH.eb H.n1 H.ll H.eb
 ·have es:z.1.sm=p.sm:=hS.sm
  rw[en,ev,es];exact H.sb
 ·show (y.1.ss++[y.2]).Pairwise _
  rw[hss,List.pairwise_append]
  refine⟨H.srt,List.pairwise_singleton _ _,λa ha b hb=>?_⟩
  rw[QA]at hb
  have:=H.pl a ha
  rw[hb,hH.pl]
  show a.pl<=x.pl
  omega
 ·intro w hw
  have hw:w∈y.1.ss++[y.2]:=hw
  rw[hss,QI,QA]at hw
  show w.pl<=(r.a:Int)
  rcases hw with c|c
  ·have:=H.pl w c;omega
  ·rw[c,hH.pl];exact hr
 ·rw[en];exact H.n1
 ·rw[el,ev];exact H.ll
theorem Zsb.sq{x y:Tq×Sq}{z:Rs×Nat}(H:Zsb x p y z)(h1:x.2.rd=none6)(h2:x.2.tp=none6):y.2=⟨x.2.k,x.2.pl,x.2.ou,x.2.ta,reads p.vs z.1.ex z.2,tapes z.1.ex z.2⟩:=by
 have e1:y.2.rd=reads p.vs z.1.ex z.2:=funext λj=>by rw[H.rd j,h1];simp[none6]
 have e2:y.2.tp=tapes z.1.ex z.2:=funext λj=>by rw[H.tp j,h2];simp[none6]
 have a:=H.k
 have b:=H.pl
 have c:=H.ou
 have d:=H.ta
 obtain⟨y1,y2⟩:=y
 obtain⟨k,pl,ou,ta,rd,tp⟩:=y2
 dsimp only at *
 subst a;subst b;subst c;subst d;subst e1;subst e2
 rfl
def ZlH(s:ZB)(ou:Int)(q:Tq)(p:Rs)(y:Tq)(z:Rs×Nat):Prop:=
 z.1.r.er=0->Z7 p.ex->ZaQ p.ex p.sm->Jn s q p->Mo p z.1∧z.2<z.1.sm.length∧Jn s y z.1∧y.ss=q.ss++fl p.vs z.1.ex z.1.sm z.2 ou q.ss.length
def Zrc(s:ZB)(ou:Int)(q:Tq)(p:Rs)(y:Tq)(z:Rs×List Nat):Prop:=
 z.1.r.er=0->Z7 p.ex->ZaQ p.ex p.sm->Jn s q p->Mo p z.1∧(∀n,n∈z.2->n<z.1.sm.length)∧Jn s y z.1∧y.ss=q.ss++fls p.vs z.1.ex z.1.sm z.2 ou q.ss.length
theorem Zsr(s:ZB)(ou:Int)(q:Tq)(p:Rs)(hA:Ag q p)(G:Gp s p):ZlH s ou q p (ZkB s q ⟨0,(p.r.a:Nat),ou,0,none6,none6⟩) (ZnH s p p.r.a):=by
 have hO:=(Zm3 s q p ⟨0,(p.r.a:Nat),ou,0,none6,none6⟩ p.r.a hA).2
 intro h hE hM J
 obtain⟨M,hlt,_⟩:=hO h hE hM J.ev
 refine⟨M,hlt,?_⟩
 clear M hlt hO
 revert h
 unfold ZkB ZnH
 dsimp only
 obtain⟨r0,hr0⟩:∃r0,tk s (varR s p.r p.ls) 61=r0:=⟨_,rfl⟩
 obtain⟨vi,hvi⟩:∃vi,varI s p.r p.ls=vi:=⟨_,rfl⟩
 rw[show tk s (varR s q.r q.ls) 61=r0 from by rw[hA.r,hA.ls];exact hr0,show varI s q.r q.ls=vi from by rw[hA.r,hA.ls];exact hvi,hr0,hvi]
 have hI:=Zco s ({q with r:=r0},{k:=1,pl:=(p.r.a:Nat),ou:=ou,ta:=lvOf q vi,rd:=none6,tp:=none6}) {p with r:=r0} ⟨rfl,hA.n,hA.ls,hA.vs⟩
 have hH:=Zsp s ({q with r:=r0},{k:=1,pl:=(p.r.a:Nat),ou:=ou,ta:=lvOf q vi,rd:=none6,tp:=none6}) {p with r:=r0} ⟨rfl,hA.n,hA.ls,hA.vs⟩
 have G0:r0.a<=s.size:=by rw[<-hr0];exact Z0 (ZcD G.le) (by omega)
 have G2:=Zei (s:=s) (G.r G0)
 generalize exQ s ({q with r:=r0},{k:=1,pl:=(p.r.a:Nat),ou:=ou,ta:=lvOf q vi,rd:=none6,tp:=none6})=y at *
 generalize exP s {p with r:=r0}=z at *
 intro h
 have hz:z.1.r.er=0:=ZbD h
 obtain⟨m,e1,o1,l1,c1⟩:=hI.ok hz hE
 have e1:z.1.ex=p.ex++m:=e1
 have H:=hH hz hE
 have hv1:=Zft (ZbD (by rw[hr0];exact hI.bad hz))
 have h4:=hI.le
 have c:rem s ({p with r:=r0}:Rs).r=rem s r0:=rfl
 have h3:=ZaD s z.1.r 59
 have h2:=ZaD s (varR s p.r p.ls) 61
 rw[hr0]at h2
 have h1:=ZeQ s p.r p.ls
 have hmo:p.r.a<=(tk s z.1.r 59).a:=ZgR (by omega) hv1.1 h G.le
 have hle:(tk s z.1.r 59).a<=s.size:=Z0 G2.le (by omega)
 have es:z.1.sm=p.sm:=hI.sm
 have hM1:ZaQ z.1.ex z.1.sm:=by rw[es,e1];exact hM.more m
 have hvl:=Zmp hv1.2
 rw[hvi]at hvl
 have Jp:=J.put (r:=tk s z.1.r 59) (op:=2) (v:=(vi:Int)) hI H hz hE rfl rfl (by rw[hA.r];exact QP _) (Int.ofNat_le.2 hmo) hle
 have en:z.1.n=p.n:=hI.fp.n
 have ev:z.1.vs=p.vs:=hI.fp.vs
 rw[show tk s y.1.r 59=tk s z.1.r 59 from by rw[hI.r]]
 refine⟨Jp.sto (x:=⟨61,p.r.a,vi,z.2,[],[],false⟩) (.inl ⟨rfl,by show (0:Int)<=vi∧(vi:Int)<(z.1.vs.length:Nat);rw[ev,<-J.ll];omega⟩),?_⟩
 show y.1.ss++[y.2]=q.ss++fl p.vs z.1.ex (z.1.sm++[_]) z.1.sm.length ou q.ss.length
 rw[ZhX o1 hM1 l1 (by simp) (by simp),hI.ss,H.sq rfl rfl]
 show q.ss++[_]=q.ss++[_]
 unfold Ziw lvOf
 rw[hA.vs]
 simp
theorem Zss(s:ZB)(ou:Int)(q:Tq)(p:Rs)(hA:Ag q p)(G:Gp s p):ZlH s ou q p (ZlA s q ⟨0,(p.r.a:Nat),ou,0,none6,none6⟩) (ZnI s p p.r.a):=by
 have hO:=(Zm4 s q p ⟨0,(p.r.a:Nat),ou,0,none6,none6⟩ p.r.a hA).2
 intro h hE hM J
 obtain⟨M,hlt,_⟩:=hO h hE hM J.ev
 refine⟨M,hlt,?_⟩
 clear M hlt hO
 revert h
 unfold ZlA ZnI
 dsimp only
 obtain⟨r0,hr0⟩:∃r0,digR s (tk s p.r 62) 0 (p.n-1)=r0:=⟨_,rfl⟩
 obtain⟨vi,hvi⟩:∃vi,dig s (tk s p.r 62) 0 (p.n-1)=vi:=⟨_,rfl⟩
 rw[show digR s (tk s q.r 62) 0 (q.n-1)=r0 from by rw[hA.r,hA.n];exact hr0,show dig s (tk s q.r 62) 0 (q.n-1)=vi from by rw[hA.r,hA.n];exact hvi,hr0,hvi]
 have hI:=Zco s ({q with r:=r0},{k:=2,pl:=(p.r.a:Nat),ou:=ou,ta:=vi,rd:=none6,tp:=none6}) {p with r:=r0} ⟨rfl,hA.n,hA.ls,hA.vs⟩
 have hH:=Zsp s ({q with r:=r0},{k:=2,pl:=(p.r.a:Nat),ou:=ou,ta:=vi,rd:=none6,tp:=none6}) {p with r:=r0} ⟨rfl,hA.n,hA.ls,hA.vs⟩
 have G0:r0.a<=s.size:=by rw[<-hr0];exact Zad (by omega) (Z0 G.le (by omega))
 have G2:=Zei (s:=s) (G.r G0)
 generalize exQ s ({q with r:=r0},{k:=2,pl:=(p.r.a:Nat),ou:=ou,ta:=vi,rd:=none6,tp:=none6})=y at *
 generalize exP s {p with r:=r0}=z at *
 intro h
 have hz:z.1.r.er=0:=ZbD h
 obtain⟨m,e1,o1,l1,c1⟩:=hI.ok hz hE
 have e1:z.1.ex=p.ex++m:=e1
 have H:=hH hz hE
 have hv1:=ZbD (Zea (by rw[hr0];exact hI.bad hz))
 have h4:=hI.le
 have c:rem s ({p with r:=r0}:Rs).r=rem s r0:=rfl
 have h3:=ZaD s z.1.r 59
 have h2:=Zci s (tk s p.r 62) 0 (p.n-1)
 rw[hr0]at h2
 have h1:=ZaD s p.r 62
 have hmo:p.r.a<=(tk s z.1.r 59).a:=ZgR (by omega) hv1 h G.le
 have hle:(tk s z.1.r 59).a<=s.size:=Z0 G2.le (by omega)
 have es:z.1.sm=p.sm:=hI.sm
 have hM1:ZaQ z.1.ex z.1.sm:=by rw[es,e1];exact hM.more m
 have hvl:=Zi4 (s:=s) (r:=tk s p.r 62) J.n1
 rw[hvi]at hvl
 have Jp:=J.put (r:=tk s z.1.r 59) (op:=11) (v:=vi) hI H hz hE rfl rfl (by rw[hA.r];exact QP _) (Int.ofNat_le.2 hmo) hle
 have en:z.1.n=p.n:=hI.fp.n
 rw[show tk s y.1.r 59=tk s z.1.r 59 from by rw[hI.r]]
 refine⟨Jp.sto (x:=⟨62,p.r.a,vi,z.2,[],[],false⟩) (.inr (.inl ⟨rfl,by show 0<=vi∧vi<z.1.n;rw[en];exact hvl⟩)),?_⟩
 show y.1.ss++[y.2]=q.ss++fl p.vs z.1.ex (z.1.sm++[_]) z.1.sm.length ou q.ss.length
 rw[ZhX o1 hM1 l1 (by simp) (by simp),hI.ss,H.sq rfl rfl]
 show q.ss++[_]=q.ss++[_]
 unfold Ziw
 simp
theorem Zpf(s:ZB)(K:Nat)(ou:Int)(ih:∀(q:Tq) (p:Rs),Ag q p->rem s p.r<K+1->Gp s p->ZlH s ou q p (stmQ s (K+1) ou q) (stmP s (K+1) p)) :
  ∀(k:Nat) (q0:Tq) (p0:Rs) (q:Tq) (p:Rs) (l:List Nat),Ag q0 p0->rem s p0.r<K+1->ZdZ s q0 p0 q p->Gp s p->Zrc s ou q0 p0 q (p,l)->(loopQ s (stmQ s (K+1) ou) k q).r=(loopP s (stmP s (K+1)) k p l).1.r->Zrc s ou q0 p0 (loopQ s (stmQ s (K+1) ou) k q) (loopP s (stmP s (K+1)) k p l)
 | 0,q0,p0,q,p,l,hA,hK,hS,G,hL,hr=>by
  intro h hE hM J
  obtain⟨M,a,J1,b⟩:=hL (by rw[<-Zk s];exact h) hE hM J
  refine⟨⟨M.ex,M.sm,M.oe,M.os⟩,a,?_,b⟩
  exact J1.r (r:=adv s q.r) (Zds _ _) (by rw[hS.r];exact Ze G.le)
 | k+1,q0,p0,q,p,l,hA,hK,hS,G,hL,hr=>by
  simp only[loopQ,loopP]at hr ⊢
  rw[hS.r]at hr ⊢
  cases h:isS (tok s p.r) with
  | true=>
   have hn:tok s p.r≠0∧tok s p.r≠125:=by
    unfold isS isL at h
    simp only[QJ,decide_eq_true_eq,QL]at h
    omega
   have he:=(Z5 hn.1).1
   rw[h,if_pos ⟨he,hn.2⟩,if_pos rfl]at hr
   rw[if_pos ⟨he,hn.2⟩,if_pos rfl]
   have hA1:=hA.go hS.fq hS.fp hS.r
   have hle:=hS.le
   have hrd:=Zt s p.r
   have Ga:Gp s {p with r:=adv s p.r}:=G.r (Ze G.le)
   have h1:=(Zbc s (K+1) ou {q with r:=adv s p.r} {p with r:=adv s p.r} ⟨rfl,hA1.n,hA1.ls,hA1.vs⟩ (by show rem s (adv s p.r)<_;omega)).1
   have h2:=ih {q with r:=adv s p.r} {p with r:=adv s p.r} ⟨rfl,hA1.n,hA1.ls,hA1.vs⟩ (by show rem s (adv s p.r)<_;omega) Ga
   refine Zpf s K ou ih k q0 p0 _ _ _ hA hK (hS.trans ⟨h1.r,Qg h1.le hrd,λe=>by have:=h1.bad e;exact he,⟨h1.fq.n,h1.fq.pn,h1.fq.pr,h1.fq.ls,h1.fq.vs⟩,⟨h1.fp.n,h1.fp.ls,h1.fp.vs⟩⟩) (Zb8 (K+1) _ Ga) ?_ hr
   intro h hE hM J
   clear hr
   generalize stmQ s (K+1) ou {q with r:=adv s p.r}=y at *
   generalize stmP s (K+1) {p with r:=adv s p.r}=z at *
   obtain⟨M,a,J1,b⟩:=hL he hE hM J
   have J2:Jn s {q with r:=adv s p.r} {p with r:=adv s p.r}:=J1.r (by rw[hS.r];exact Zds _ _) (Ze G.le)
   obtain⟨M2,a2,J3,b2⟩:=h2 h M.oe M.os J2
   have M2:Mo p z.1:=⟨M2.ex,M2.sm,M2.oe,M2.os⟩
   have b2:y.ss=q.ss++fl p.vs z.1.ex z.1.sm z.2 ou q.ss.length:=b2
   have b:q.ss=q0.ss++fls p0.vs p.ex p.sm l ou q0.ss.length:=b
   have ev:p.vs=p0.vs:=hS.fp.vs
   refine⟨M.trans M2,λn hn=>?_,J3,?_⟩
   ·rw[QI,QA]at hn
    rcases hn with hn|hn
    ·exact M2.lt (a n hn)
    ·rw[hn];exact a2
   ·rw[b2]
    show _=q0.ss++flG (fl p0.vs z.1.ex z.1.sm) (l++[z.2]) ou q0.ss.length
    rw[Zi6]
    have e1:flG (fl p0.vs z.1.ex z.1.sm) l ou q0.ss.length=fls p0.vs p.ex p.sm l ou q0.ss.length:=M2.fls M.oe M.os _ a _ _
    rw[e1,ev,b,QE,Qe]
  | false=>
   rw[h,if_neg (show ¬(false=true) from by simp)]at hr
   rw[if_neg (show ¬(false=true) from by simp)]
   by_cases hq:p.r.er=0∧tok s p.r≠125
   ·rw[if_pos hq]at hr
    exfalso
    have hd:=ZdO (s:=s) (k:=K) (ou:=ou) (q:={q with r:=adv s p.r}) (by show isS (tok s (adv s p.r))=false;rw[Zp];exact h)
    have hr2:(stmQ s (K+1) ou {q with r:=adv s p.r}).r=rfs (adv s p.r) 11:=by rw[hd.1];show rfs (adv s (adv s p.r)) 11=_;rw[ZY]
    have hb:(rfs (adv s p.r) 11).er≠0:=Zan (by omega)
    generalize stmQ s (K+1) ou {q with r:=adv s p.r}=y at *
    have hy:loopQ s (stmQ s (K+1) ou) k y=y:=by
     cases k with
     | zero=>simp only[loopQ];rw[Zz (by rw[hr2];exact hb)]
     | succ k=>simp only[loopQ];rw[if_neg (λc=>hb (by rw[<-hr2];exact c.1)),Zz (by rw[hr2];exact hb)]
    rw[hy,hr2]at hr
    have:=congrArg Rd.er hr
    have e3:(adv s p.r).er=0:=by rw[Zk];exact hq.1
    exact hb (this.trans e3)
   ·rw[if_neg hq]
    intro h hE hM J
    obtain⟨M,a,J1,b⟩:=hL (by rw[<-Zk s];exact h) hE hM J
    refine⟨⟨M.ex,M.sm,M.oe,M.os⟩,a,?_,b⟩
    exact J1.r (r:=adv s p.r) (by rw[hS.r];exact Zds _ _) (Ze G.le)
theorem Zrz(s:ZB)(r:Rd)(c:Int):r.a<=(tk s r c).a:=by
 have:=Zds s r
 unfold tk Zbn
 split
 ·unfold nx
  split
  ·show r.a<=(adv s r).a+1;omega
  ·exact this
 ·rw[ZkQ];exact this
theorem ZrA(s:ZB)(K:Nat)(ou:Int)(ih:∀(q:Tq) (p:Rs),Ag q p->rem s p.r<K+1->Gp s p->ZlH s ou q p (stmQ s (K+1) ou q) (stmP s (K+1) p))(k:Nat)(q:Tq)(p:Rs)(hA:Ag q p)(hK:rem s p.r<K+1)(G:Gp s p) :
  Zrc s ou q p (blkQ s (stmQ s (K+1) ou) k q) (blkP s (stmP s (K+1)) k p):=by
 have hr:=hA.r
 unfold blkQ blkP
 rw[hr]
 have hk:=ZaD s p.r 123
 have G1:Gp s {p with r:=tk s p.r 123}:=G.r (Z0 G.le (by omega))
 have hl:=Zha s K ou (Zbc s (K+1) ou) k {q with r:=tk s p.r 123} {p with r:=tk s p.r 123} {q with r:=tk s p.r 123} {p with r:=tk s p.r 123} [] ⟨rfl,hA.n,hA.ls,hA.vs⟩ (by show rem s (tk s p.r 123)<_;omega) (ZdZ.refl rfl) (λ_ hE hM _=>⟨⟨⟨[],by simp⟩,⟨[],by simp⟩,hE,hM⟩,λn hn=>by simp at hn,by simp[als,ZbL]⟩)
 have hH:=Zpf s K ou ih k {q with r:=tk s p.r 123} {p with r:=tk s p.r 123} {q with r:=tk s p.r 123} {p with r:=tk s p.r 123} [] ⟨rfl,hA.n,hA.ls,hA.vs⟩ (by show rem s (tk s p.r 123)<_;omega) (ZdZ.refl rfl) G1 (λ_ hE hM J=>⟨⟨⟨[],by simp⟩,⟨[],by simp⟩,hE,hM⟩,λn hn=>by simp at hn,J,by simp[fls,flG]⟩)
 have G2:=Zfz (s:=s) (Zb8 (K+1)) k {p with r:=tk s p.r 123} [] G1
 generalize loopQ s (stmQ s (K+1) ou) k {q with r:=tk s p.r 123}=y at *
 generalize loopP s (stmP s (K+1)) k {p with r:=tk s p.r 123} []=z at *
 have hok:(tk s z.1.r 125).er=0->y.r=z.1.r:=by
  intro h
  rcases hl.e with e|⟨e1,e2,e3,e4⟩
  ·exact e
  ·have:=(Zcz (by omega) h).2
   rw[QL]at this
   exact absurd this e3
 intro h hE hM J
 have h:(tk s z.1.r 125).er=0:=h
 have ey:=hok h
 obtain⟨M,a,J1,b⟩:=hH ey (ZbD h) hE hM (J.r (r:=tk s p.r 123) (by rw[hr];exact Zrz _ _ _) (Z0 G.le (by omega)))
 refine⟨⟨M.ex,M.sm,M.oe,M.os⟩,a,J1.r (Zrz _ _ _) (by rw[ey];exact Z0 G2.le (by omega)),b⟩
theorem Zpg(s:ZB)(K:Nat)(ih:∀(ou:Int) (q:Tq) (p:Rs),Ag q p->rem s p.r<K+1->Gp s p->ZlH s ou q p (stmQ s (K+1) ou q) (stmP s (K+1) p))(ou kk:Int)(q:Tq)(p:Rs)(ch:Int)(hc:ch≠0)(hA:Ag q p)(G:Gp s p)(hK:rem s (tk s p.r ch)<K+1)(y:Tq×Sq)(z:Rs×Nat)
  (hy:exQ s ({q with r:=tk s p.r ch},⟨kk,(p.r.a:Nat),ou,0,none6,none6⟩)=y) (hz:exP s {p with r:=tk s p.r ch}=z) :
  (blkP s (stmP s (K+1)) (K+1) z.1).1.r.er=0->Z7 p.ex->ZaQ p.ex p.sm->Jn s q p->
   Mo p (blkP s (stmP s (K+1)) (K+1) z.1).1∧(∀n,n∈(blkP s (stmP s (K+1)) (K+1) z.1).2->n<(blkP s (stmP s (K+1)) (K+1) z.1).1.sm.length)∧z.2<(blkP s (stmP s (K+1)) (K+1) z.1).1.ex.length∧
   Jn s (blkQ s (stmQ s (K+1) y.1.ss.length) (K+1) (emitQ (addQ y.1 y.2) 9 0)) (blkP s (stmP s (K+1)) (K+1) z.1).1∧y.1.ss.length=q.ss.length∧
   (blkQ s (stmQ s (K+1) y.1.ss.length) (K+1) (emitQ (addQ y.1 y.2) 9 0)).ss=q.ss++(⟨kk,(p.r.a:Nat),ou,0,reads p.vs (blkP s (stmP s (K+1)) (K+1) z.1).1.ex z.2,tapes (blkP s (stmP s (K+1)) (K+1) z.1).1.ex z.2⟩ ::
    fls p.vs (blkP s (stmP s (K+1)) (K+1) z.1).1.ex (blkP s (stmP s (K+1)) (K+1) z.1).1.sm (blkP s (stmP s (K+1)) (K+1) z.1).2 (q.ss.length:Nat) (q.ss.length+1)):=by
 have hI:=Zco s ({q with r:=tk s p.r ch},⟨kk,(p.r.a:Nat),ou,0,none6,none6⟩) {p with r:=tk s p.r ch} ⟨rfl,hA.n,hA.ls,hA.vs⟩
 have hH:=Zsp s ({q with r:=tk s p.r ch},⟨kk,(p.r.a:Nat),ou,0,none6,none6⟩) {p with r:=tk s p.r ch} ⟨rfl,hA.n,hA.ls,hA.vs⟩
 have G1:Gp s {p with r:=tk s p.r ch}:=G.r (Z0 G.le hc)
 have G2:=Zei (s:=s) G1
 rw[hy,hz]at hI hH
 rw[hz]at G2
 have c:rem s ({p with r:=tk s p.r ch}:Rs).r=rem s (tk s p.r ch):=rfl
 have h4:=hI.le
 have hr:=ZaD s p.r ch
 have hA1:Ag (emitQ (addQ y.1 y.2) 9 0) z.1:=⟨hI.r,by show y.1.n=_;rw[hI.fq.n,hI.fp.n];exact hA.n,by show y.1.ls=_;rw[hI.fq.ls,hI.fp.ls];exact hA.ls,by show y.1.vs=_;rw[hI.fq.vs,hI.fp.vs];exact hA.vs⟩
 have hB:=(Zeb s K y.1.ss.length (Zbc s (K+1) _) (K+1) (emitQ (addQ y.1 y.2) 9 0) z.1 hA1 (by omega)).1
 have hBH:=ZrA s K y.1.ss.length (ih _) (K+1) (emitQ (addQ y.1 y.2) 9 0) z.1 hA1 (by omega) G2
 generalize blkQ s (stmQ s (K+1) y.1.ss.length) (K+1) (emitQ (addQ y.1 y.2) 9 0)=u at *
 generalize blkP s (stmP s (K+1)) (K+1) z.1=v at *
 intro h hE hM J
 have hz0:z.1.r.er=0:=hB.bad h
 obtain⟨m,e1,o1,l1,c1⟩:=hI.ok hz0 hE
 have e1:z.1.ex=p.ex++m:=e1
 have es:z.1.sm=p.sm:=hI.sm
 have hM1:ZaQ z.1.ex z.1.sm:=by rw[es,e1];exact hM.more m
 have H:=hH hz0 hE
 have hp0:p.r.er=0:=ZbD (hI.bad hz0)
 have hmo:p.r.a<=z.1.r.a:=ZgR (by omega) hp0 hz0 G.le
 have Jp:Jn s (emitQ (addQ y.1 y.2) 9 0) z.1:=J.put (r:=y.1.r) (op:=9) (v:=0) hI H hz0 hE rfl rfl (by rw[hA.r];exact QP _) (by rw[hI.r];exact Int.ofNat_le.2 hmo) (by rw[hI.r];exact G2.le)
 obtain⟨M,a,J2,b⟩:=hBH h o1 hM1 Jp
 have ev:z.1.vs=p.vs:=hI.fp.vs
 have hss:y.1.ss=q.ss:=hI.ss
 have b:u.ss=(y.1.ss++[y.2])++fls z.1.vs v.1.ex v.1.sm v.2 y.1.ss.length (y.1.ss++[y.2]).length:=b
 have hsq:=H.sq rfl rfl
 have er:reads p.vs v.1.ex z.2=reads p.vs z.1.ex z.2:=by
  obtain⟨m1,e⟩:=M.ex
  rw[e]
  exact funext λj=>ZaM _ _ _ o1 l1
 have et:tapes v.1.ex z.2=tapes z.1.ex z.2:=by
  obtain⟨m1,e⟩:=M.ex
  rw[e]
  exact funext λj=>ZaM _ _ _ o1 l1
 refine⟨Mo.trans ⟨⟨m,e1⟩,⟨[],by rw[es];simp⟩,o1,hM1⟩ M,a,M.lte l1,J2,by rw[hss],?_⟩
 rw[b,hsq,hss,ev,er,et]
 show q.ss++[_]++fls p.vs v.1.ex v.1.sm v.2 _ (q.ss++[_]).length=_
 rw[Qe,QE]
 rfl
theorem Zst(s:ZB)(K:Nat)(ih:∀(ou:Int) (q:Tq) (p:Rs),Ag q p->rem s p.r<K+1->Gp s p->ZlH s ou q p (stmQ s (K+1) ou q) (stmP s (K+1) p))(ou:Int)(q:Tq)(p:Rs)(hA:Ag q p)(G:Gp s p)(hK:rem s (tk s p.r 64)<K+1) :
  ZlH s ou q p (ZkD s (stmQ s (K+1)) (K+1) q ⟨0,(p.r.a:Nat),ou,0,none6,none6⟩) (ZnE s (stmP s (K+1)) (K+1) p p.r.a):=by
 have hP:=Zpg s K ih ou 4 q p 64 (by omega) hA G hK _ _ rfl rfl
 unfold ZkD ZnE
 dsimp only
 rw[hA.r]
 generalize exQ s ({q with r:=tk s p.r 64},{k:=4,pl:=(p.r.a:Nat),ou:=ou,ta:=0,rd:=none6,tp:=none6})=y at *
 generalize exP s {p with r:=tk s p.r 64}=z at *
 generalize blkQ s (stmQ s (K+1) y.1.ss.length) (K+1) (emitQ (addQ y.1 y.2) 9 0)=u at *
 generalize blkP s (stmP s (K+1)) (K+1) z.1=v at *
 intro h hE hM J
 obtain⟨M,a1,l1,J2,hl,b⟩:=hP h hE hM J
 obtain⟨m1,e1⟩:=M.sm
 refine⟨⟨M.ex,⟨m1++[_],by show v.1.sm++[_]=_;rw[e1,List.append_assoc]⟩,M.oe,M.os.add l1 a1 (by simp)⟩,by simp[ZeC],((J2.jump _).aim _).sto (.inr (.inr (.inr rfl))),?_⟩
 show u.ss=q.ss++fl p.vs v.1.ex (v.1.sm++[_]) v.1.sm.length ou q.ss.length
 rw[ZhX M.oe M.os l1 a1 (by simp),b]
 simp[fls,flG,Ziw]
theorem Zsu(r:Rd):r.a<=(nx r).a:=by
 unfold nx
 split
 ·show r.a<=r.a+1;omega
 ·exact Qb _
theorem Zsv(s:ZB)(K:Nat)(ih:∀(ou:Int) (q:Tq) (p:Rs),Ag q p->rem s p.r<K+1->Gp s p->ZlH s ou q p (stmQ s (K+1) ou q) (stmP s (K+1) p))(ou:Int)(q:Tq)(p:Rs)(hA:Ag q p)(G:Gp s p)(hK:rem s (tk s p.r 63)<K+1) :
  ZlH s ou q p (ZkC s (stmQ s (K+1)) (K+1) q ⟨0,(p.r.a:Nat),ou,0,none6,none6⟩) (ZlE s (stmP s (K+1)) (K+1) p p.r.a):=by
 have hP:=Zpg s K ih ou 3 q p 63 (by omega) hA G hK _ _ rfl rfl
 have hS:=Zhc s K (Zbc s (K+1)) q p ⟨3,(p.r.a:Nat),ou,0,none6,none6⟩ 63 hA hK _ _ rfl rfl
 have G1:Gp s {p with r:=tk s p.r 63}:=G.r (Z0 G.le (by omega))
 have G2:=Zei (s:=s) G1
 have hz1:=(Zco s ({q with r:=tk s p.r 63},⟨3,(p.r.a:Nat),ou,0,none6,none6⟩) {p with r:=tk s p.r 63} ⟨rfl,hA.n,hA.ls,hA.vs⟩).le
 unfold ZkC ZlE
 dsimp only
 rw[hA.r]
 generalize exQ s ({q with r:=tk s p.r 63},{k:=3,pl:=(p.r.a:Nat),ou:=ou,ta:=0,rd:=none6,tp:=none6})=y at *
 generalize exP s {p with r:=tk s p.r 63}=z at *
 have hvr:rem s (blkP s (stmP s (K+1)) (K+1) z.1).1.r<K+1:=by
  have c:rem s ({p with r:=tk s p.r 63}:Rs).r=rem s (tk s p.r 63):=rfl
  have:=Zks s K (K+1) z.1 (by omega)
  omega
 have Gv:Gp s (blkP s (stmP s (K+1)) (K+1) z.1).1:=ZfA (Zb8 (K+1)) (K+1) G2
 generalize hu:blkQ s (stmQ s (K+1) y.1.ss.length) (K+1) (emitQ (addQ y.1 y.2) 9 0)=u at *
 generalize hv:blkP s (stmP s (K+1)) (K+1) z.1=v at *
 have hB:=hS.1
 rw[hB.r]
 by_cases ht:tok s v.1.r=58
 ·rw[if_pos ht,if_pos ht]
  have hlt:=ZK (s:=s) (r:=v.1.r) (by omega)
  have er1:v.1.r.er=0:=(Z5 (s:=s) (r:=v.1.r) (by omega)).1
  have hAv:=hA.go hB.fq hB.fp hB.r
  have Gn:Gp s {v.1 with r:=nx (adv s v.1.r)}:=Gv.r (Zak (by omega))
  have hO:=ZrA s K y.1.ss.length (ih _) (K+1) (aimQ (emitQ {u with r:=nx (adv s v.1.r)} 8 0) (plQ y.1)) {v.1 with r:=nx (adv s v.1.r)} ⟨rfl,hAv.n,hAv.ls,hAv.vs⟩ (by show rem s (nx (adv s v.1.r))<_;omega) Gn
  have hJ:Jn s u v.1->Jn s (aimQ (emitQ {u with r:=nx (adv s v.1.r)} 8 0) (plQ y.1)) {v.1 with r:=nx (adv s v.1.r)}:=λJ=>((J.r (r:=nx (adv s v.1.r)) (by rw[hB.r];exact Qg (Zds _ _) (Zsu _)) (Zak (by omega))).jump 0).aim _
  have hsu:(aimQ (emitQ {u with r:=nx (adv s v.1.r)} 8 0) (plQ y.1)).ss=u.ss:=rfl
  generalize aimQ (emitQ {u with r:=nx (adv s v.1.r)} 8 0) (plQ y.1)=u1 at *
  generalize blkQ s (stmQ s (K+1) y.1.ss.length) (K+1) u1=u2 at *
  generalize blkP s (stmP s (K+1)) (K+1) {v.1 with r:=nx (adv s v.1.r)}=c at *
  intro h hE hM J
  obtain⟨M,a1,l1,J2,hl,b⟩:=hP er1 hE hM J
  obtain⟨M2,a2,J3,b2⟩:=hO h M.oe M.os (hJ J2)
  have M2:Mo v.1 c.1:=⟨M2.ex,M2.sm,M2.oe,M2.os⟩
  obtain⟨m1,e1⟩:=(M.trans M2).sm
  have lc:z.2<c.1.ex.length:=M2.lte l1
  have ac:∀m,m∈v.2->m<c.1.sm.length:=λm hm=>M2.lt (a1 m hm)
  have ev:v.1.vs=p.vs:=hB.fp.vs
  refine⟨⟨(M.trans M2).ex,⟨m1++[_],by show c.1.sm++[_]=_;rw[e1,List.append_assoc]⟩,M2.oe,M2.os.add lc ac a2⟩,by simp[ZeC],(J3.aim _).sto (.inr (.inr (.inl rfl))),?_⟩
  show u2.ss=q.ss++fl p.vs c.1.ex (c.1.sm++[_]) c.1.sm.length ou q.ss.length
  rw[ZhX M2.oe M2.os lc ac a2]
  have b2:u2.ss=u1.ss++fls v.1.vs c.1.ex c.1.sm c.2 y.1.ss.length u1.ss.length:=b2
  have er:reads p.vs v.1.ex z.2=reads p.vs c.1.ex z.2:=by
   obtain⟨m1,e⟩:=M2.ex
   rw[e]
   exact(funext λj=>ZaM _ _ _ M.oe l1).symm
  have et:tapes v.1.ex z.2=tapes c.1.ex z.2:=by
   obtain⟨m1,e⟩:=M2.ex
   rw[e]
   exact(funext λj=>ZaM _ _ _ M.oe l1).symm
  rw[b2,hsu,b,hl,ev,er,et,<-M2.fls M.oe M.os p.vs a1]
  dsimp only
  rw[QE,Uj,Qe,Qt]
  have e5:q.ss.length+((fls p.vs c.1.ex c.1.sm v.2 (q.ss.length:Nat) (q.ss.length+1)).length+1)=q.ss.length+1+(fls p.vs c.1.ex c.1.sm v.2 (q.ss.length:Nat) (q.ss.length+1)).length:=by omega
  rw[e5]
  rfl
 ·rw[if_neg ht,if_neg ht]
  intro h hE hM J
  have h:(adv s v.1.r).er=0:=h
  obtain⟨M,a1,l1,J2,hl,b⟩:=hP (by rw[<-Zk s];exact h) hE hM J
  obtain⟨m1,e1⟩:=M.sm
  refine⟨⟨M.ex,⟨m1++[_],by show v.1.sm++[_]=_;rw[e1,List.append_assoc]⟩,M.oe,M.os.add l1 a1 (by simp)⟩,by simp[ZeC],?_,?_⟩
  ·have J3:Jn s {u with r:=adv s v.1.r} v.1:=J2.r (r':=v.1.r) (by rw[hB.r];exact Zds _ _) (Ze Gv.le)
   exact(J3.aim _).sto (.inr (.inr (.inl rfl)))
  ·show u.ss=q.ss++fl p.vs v.1.ex (v.1.sm++[_]) v.1.sm.length ou q.ss.length
   rw[ZhX M.oe M.os l1 a1 (by simp),b]
   simp[fls,flG,Ziw]
theorem Zp8(s:ZB):∀(k:Nat) (ou:Int) (q:Tq) (p:Rs),Ag q p->rem s p.r<k->Gp s p->ZlH s ou q p (stmQ s k ou q) (stmP s k p)
 | 0,ou,q,p,hA,hk,G=>by omega
 | k+1,ou,q,p,hA,hk,G=>by
  have hA1:Ag {q with r:=adv s p.r} {p with r:=adv s p.r}:=⟨rfl,hA.n,hA.ls,hA.vs⟩
  have hrd:=Zt s p.r
  have Ga:Gp s {p with r:=adv s p.r}:=G.r (Ze G.le)
  have fin:∀(y:Tq) (z:Rs×Nat),ZlH s ou {q with r:=adv s p.r} {p with r:=adv s p.r} y z->ZlH s ou q p y z:=λy z h e hE hM J=>by
   obtain⟨M,a,J2,b⟩:=h e hE hM (J.r (by rw[hA.r];exact Zds _ _) (Ze G.le))
   exact⟨⟨M.ex,M.sm,M.oe,M.os⟩,a,J2,b⟩
  simp only[stmQ,stmP]
  rw[hA.r]
  by_cases h1:tok s p.r=62
  ·rw[if_pos h1,if_pos h1]
   exact fin _ _ (Zss s ou _ _ hA1 Ga)
  ·rw[if_neg h1,if_neg h1]
   by_cases h2:tok s p.r=63
   ·rw[if_pos h2,if_pos h2]
    have hlt:=ZK (s:=s) (r:=p.r) (by omega)
    have e1:tk s (adv s p.r) 63=nx (adv s p.r):=by rw[<-h2];exact Z8 (by omega)
    obtain⟨K,rfl⟩:∃K,k=K+1:=⟨k-1,by omega⟩
    exact fin _ _ (Zsv s K (Zp8 s (K+1)) ou _ _ hA1 Ga (by show rem s (tk s (adv s p.r) 63)<_;rw[e1];omega))
   ·rw[if_neg h2,if_neg h2]
    by_cases h3:tok s p.r=64
    ·rw[if_pos h3,if_pos h3]
     have hlt:=ZK (s:=s) (r:=p.r) (by omega)
     have e1:tk s (adv s p.r) 64=nx (adv s p.r):=by rw[<-h3];exact Z8 (by omega)
     obtain⟨K,rfl⟩:∃K,k=K+1:=⟨k-1,by omega⟩
     exact fin _ _ (Zst s K (Zp8 s (K+1)) ou _ _ hA1 Ga (by show rem s (tk s (adv s p.r) 64)<_;rw[e1];omega))
    ·rw[if_neg h3,if_neg h3]
     exact fin _ _ (Zsr s ou _ _ hA1 Ga)
theorem Zph(s:ZB):∀(k:Nat) (q0:Tq) (p0:Rs) (q:Tq) (p:Rs) (l:List Nat),Ag q0 p0->ZdZ s q0 p0 q p->Gp s p->Zrc s (-1) q0 p0 q (p,l)->rem s p.r<k->(bodyQ s k q).r.er=0->Zrc s (-1) q0 p0 (bodyQ s k q) (loopP s (stmP s (s.size+2)) k p l)
 | 0,q0,p0,q,p,l,hA,hS,G,hL,hk,hr=>by omega
 | k+1,q0,p0,q,p,l,hA,hS,G,hL,hk,hr=>by
  simp only[bodyQ,loopP]at hr ⊢
  rw[hS.r]at hr ⊢
  cases h:isS (tok s p.r) with
  | true=>
   have hn:tok s p.r≠0:=by
    unfold isS isL at h
    simp only[QJ,decide_eq_true_eq,QL]at h
    omega
   have he:=Z5 hn
   rw[if_pos he]at hr
   rw[if_pos he,if_pos rfl]
   have hA1:=hA.go hS.fq hS.fp hS.r
   have hrd:=Zt s p.r
   have hz:=Z1 s (adv s p.r)
   have Ga:Gp s {p with r:=adv s p.r}:=G.r (Ze G.le)
   have h1:=(Zbc s (s.size+2) (-1) {q with r:=adv s p.r} {p with r:=adv s p.r} ⟨rfl,hA1.n,hA1.ls,hA1.vs⟩ (by show rem s (adv s p.r)<_;omega)).1
   have h2:=Zp8 s (s.size+2) (-1) {q with r:=adv s p.r} {p with r:=adv s p.r} ⟨rfl,hA1.n,hA1.ls,hA1.vs⟩ (by show rem s (adv s p.r)<_;omega) Ga
   have hlt:=Znc s (s.size+2) {p with r:=adv s p.r} (by show rem s (adv s p.r)<_;omega) (by show tok s (adv s p.r)≠0;rw[Zp];exact hn)
   have hlt:rem s (stmP s (s.size+2) {p with r:=adv s p.r}).1.r<rem s (adv s p.r):=hlt
   have he0:=he.1
   refine Zph s k q0 p0 _ _ _ hA (hS.trans ⟨h1.r,Qg h1.le hrd,λe=>he0,⟨h1.fq.n,h1.fq.pn,h1.fq.pr,h1.fq.ls,h1.fq.vs⟩,⟨h1.fp.n,h1.fp.ls,h1.fp.vs⟩⟩) (Zb8 (s.size+2) _ Ga) ?_ (by omega) hr
   intro h hE hM J
   clear hr
   generalize stmQ s (s.size+2) (-1) {q with r:=adv s p.r}=y at *
   generalize stmP s (s.size+2) {p with r:=adv s p.r}=z at *
   obtain⟨M,a,J1,b⟩:=hL he0 hE hM J
   have J2:Jn s {q with r:=adv s p.r} {p with r:=adv s p.r}:=J1.r (by rw[hS.r];exact Zds _ _) (Ze G.le)
   obtain⟨M2,a2,J3,b2⟩:=h2 h M.oe M.os J2
   have M2:Mo p z.1:=⟨M2.ex,M2.sm,M2.oe,M2.os⟩
   have b2:y.ss=q.ss++fl p.vs z.1.ex z.1.sm z.2 (-1) q.ss.length:=b2
   have b:q.ss=q0.ss++fls p0.vs p.ex p.sm l (-1) q0.ss.length:=b
   have ev:p.vs=p0.vs:=hS.fp.vs
   refine⟨M.trans M2,λn hn=>?_,J3,?_⟩
   ·rw[QI,QA]at hn
    rcases hn with hn|hn
    ·exact M2.lt (a n hn)
    ·rw[hn];exact a2
   ·rw[b2]
    show _=q0.ss++flG (fl p0.vs z.1.ex z.1.sm) (l++[z.2]) (-1) q0.ss.length
    rw[Zi6]
    have e1:flG (fl p0.vs z.1.ex z.1.sm) l (-1) q0.ss.length=fls p0.vs p.ex p.sm l (-1) q0.ss.length:=M2.fls M.oe M.os _ a _ _
    rw[e1,ev,b,QE,Qe]
  | false=>
   rw[if_neg (show ¬(false=true) from by simp)]
   by_cases hq:p.r.er=0∧(adv s p.r).a<s.size
   ·rw[if_pos hq]at hr
    exfalso
    have hd:=ZdO (s:=s) (k:=s.size+1) (ou:=-1) (q:={q with r:=adv s p.r}) (by show isS (tok s (adv s p.r))=false;rw[Zp];exact h)
    have hr2:(stmQ s (s.size+2) (-1) {q with r:=adv s p.r}).r=rfs (adv s p.r) 11:=by rw[hd.1];show rfs (adv s (adv s p.r)) 11=_;rw[ZY]
    have hb:(rfs (adv s p.r) 11).er≠0:=Zan (by omega)
    generalize stmQ s (s.size+2) (-1) {q with r:=adv s p.r}=y at *
    rw[Zii (by rw[hr2];exact hb),hr2]at hr
    exact hb hr
   ·rw[if_neg hq]
    intro h hE hM J
    obtain⟨M,a,J1,b⟩:=hL (by rw[<-Zk s];exact h) hE hM J
    refine⟨⟨M.ex,M.sm,M.oe,M.os⟩,a,?_,b⟩
    exact J1.r (r:=adv s p.r) (by rw[hS.r];exact Zds _ _) (Ze G.le)
theorem ZrB(s:ZB)(G:Gp s (headP s))(he:(endP s).er=0):Jn s (readQ s) (readP s).1∧(readQ s).ss=fls (headP s).vs (readP s).1.ex (readP s).1.sm (readP s).2 (-1) 0:=by
 have hH:=Zhd s
 have hR:=Zax s
 have h0:(readP s).1.r.er=0:=by
  unfold endP at he
  split at he
  ·exact absurd he (Zan (by omega))
  ·exact he
 have hh:(headP s).r.er=0:=by
  by_cases c:(headP s).r.er=0
  ·exact c
  ·exfalso
   have e1:readP s=(headP s,[]):=ZfB c _
   rw[e1]at h0
   exact c h0
 obtain⟨hA,hpn,hPr,hIn,n1,n6⟩:=hH.ok hh
 have hll:(headP s).ls.length=(headP s).vs.length:=by
  have key:∀k r (ls vs:List Int),ls.length=vs.length->(ZbB s (nP s) k r ls vs).2.1.length=(ZbB s (nP s) k r ls vs).2.2.length:=by
   intro k
   induction k with
   | zero=>intro r ls vs h;exact h
   | succ k ih=>
    intro r ls vs h
    simp only[ZbB]
    split
    ·split
     ·exact h
     ·exact ih _ _ _ (by simp[h])
    ·exact h
  exact key _ _ _ _ rfl
 have J0:Jn s (headQ s startQ) (headP s):=by
  refine⟨by rw[hA.r];exact G.le,by rw[hH.cd];rfl,hH.h,by rw[hH.hi];exact QP _,λe h=>?_,.inl hH.hi,λx hx=>?_,λx hx=>?_,by rw[hH.ss];exact List.Pairwise.nil,λx hx=>?_,n1,hll⟩
  ·simp[headP]at h
  ·simp[headP]at hx
  ·simp[headP]at hx
  ·rw[hH.ss]at hx;simp at hx
 have hr0:(readQ s).r.er=0:=by rw[hR.r];exact he
 have hB:=Zph s (s.size+1) (headQ s startQ) (headP s) (headQ s startQ) (headP s) [] hA (ZdZ.refl hA.r) G (λ_ hE hM J=>⟨⟨⟨[],by simp⟩,⟨[],by simp⟩,hE,hM⟩,λn hn=>by simp at hn,J,by simp[fls,flG]⟩) (by have:=Z1 s (headP s).r;omega) hr0
 have hB:Zrc s (-1) (headQ s startQ) (headP s) (readQ s) (readP s):=hB
 obtain⟨M,a,J,b⟩:=hB h0 (λe x hx=>by simp[headP]at hx) (λe x hx=>by simp[headP]at hx) J0
 refine⟨J,?_⟩
 rw[b,hH.ss]
 rfl
def pBot(s:ZB)(n a:Int):Bool:=Zw (λb=>le s n a b) n.toNat
def botI(s:ZB)(n:Int):Int:=(ZD (pBot s n) n.toNat).getD 0
theorem Zj1{f:Int->Bool}:∀{k i:Nat},i<k->f i=true->∃x,ZD f k=some x:=by
 intro k
 induction k with
 | zero=>intro i hi;omega
 | succ k ih=>
  intro i hi h
  by_cases h2:∃j:Nat,j<k∧f j=true
  ·obtain⟨j,hj,hf⟩:=h2
   obtain⟨x,hx⟩:=ih hj hf
   exact⟨x,Zes (by omega) hx⟩
  ·have hn:∀j:Nat,j<k->f j=false:=λj hj=>by
    cases c:f j
    ·rfl
    ·exact absurd ⟨j,hj,c⟩ h2
   have hik:i=k:=by
    by_cases c:i<k
    ·exact absurd h (by rw[hn i c];simp)
    ·omega
   rw[hik]at h
   exact⟨k,Zaq (by omega) hn h⟩
theorem Zd8(H:Zam s n):Lv n (botI s n)∧∀a,Lv n a->le s n (botI s n) a=true:=by
 obtain⟨b,hb,hall⟩:=H.bot
 have hp:pBot s n (b.toNat:Nat)=true:=by
  rw[Qj hb.1]
  exact Za.2 (λi hi=>hall i ⟨by omega,by omega⟩)
 obtain⟨x,hx⟩:=Zj1 (f:=pBot s n) (k:=n.toNat) (i:=b.toNat) (by have:=hb.1;have:=hb.2;omega) hp
 obtain⟨h0,h1,h2⟩:=ZaO hx
 unfold botI
 rw[hx]
 refine⟨⟨h0,by show x<n;omega⟩,λa ha=>?_⟩
 have:=Za.1 h2 a.toNat (by have:=ha.1;have:=ha.2;omega)
 rw[Qj ha.1]at this
 exact this
def levX(T:ZB)(n:Int)(vs:List Int)(ex:List Ex)(e:Nat):Int:=fol 0 (λx=>if x.op=0 then botI T n else lfL vs x) (jn T n) ex e
def drawX(T:ZB)(n c:Int)(ex:List Ex)(e:Nat):Bool:=fol true (λx=>if x.op=10 then le T n c x.v else true) (λa b=>a&&b) ex e
def jset(T:ZB)(n:Int)(m:Nat->Bool):Nat->Int
 | 0=>botI T n
 | k+1=>if m k=true then jn T n (jset T n m k) k else jset T n m k
def lowF(T:ZB)(n:Int)(m:Nat->Bool)(c:Int):Bool:=!(Zw (λj=>!(m j.toNat)||le T n c j) n.toNat)
def VsB(n:Int)(vs:List Int):Prop:=∀v,v∈vs->Lv n v
theorem VsB.at(h:VsB n vs){i:Nat}(hi:i<vs.length):Lv n (vs.getD i 0):=by
 rw[Qs,Qn hi]
 exact h _ (Ua hi)
theorem Zmt(hE:Z7 ex)(P:Nat->Prop)(h1:∀e x,ex[e]?=some x->(x.op=0∨x.op=1∨x.op=10)->P e)(h2:∀e x,ex[e]?=some x->¬(x.op=0∨x.op=1∨x.op=10)->P x.l->P x.r->P e):∀e,e<ex.length->P e:=by
 have key:∀k e,e<k->e<ex.length->P e:=by
  intro k
  induction k with
  | zero=>intro e h;omega
  | succ k ih=>
   intro e hk he
   have hx:ex[e]?=some ex[e]:=Qn he
   by_cases hl:ex[e].op=0∨ex[e].op=1∨ex[e].op=10
   ·exact h1 e _ hx hl
   ·rcases hE e _ hx with c|⟨c,d⟩
    ·exact absurd c hl
    ·exact h2 e _ hx hl (ih _ (by omega) (by omega)) (ih _ (by omega) (by omega))
 exact λe he=>key _ e (Nat.lt_succ_self e) he
theorem Zp9{x:Ex}(hV:VsB n vs)(hb:XB n vs.length x)(h0:x.op≠0)(hl:x.op=0∨x.op=1∨x.op=10):Lv n (lfL vs x):=by
 unfold lfL
 rcases hl with c|c|c
 ·exact absurd c h0
 ·rw[if_pos c]
  rcases hb with d|⟨_,d1,d2⟩|d|d
  ·omega
  ·exact hV.at (by omega)
  ·omega
  ·omega
 ·rw[if_neg (by omega)]
  rcases hb with d|d|⟨_,d⟩|d
  ·omega
  ·omega
  ·exact d
  ·omega
theorem Zfc(H:Zam T n)(hE:Z7 ex)(hB:ExB n vs.length ex)(hV:VsB n vs):∀e,e<ex.length->
  Lv n (levX T n vs ex e)∧(∀u,Lv n u->(le T n (levX T n vs ex e) u=true↔∀j:Nat,reads vs ex e j=true->le T n j u=true))∧∀j:Nat,reads vs ex e j=true->(j:Int)<n:=by
 obtain⟨b0,b1⟩:=Zd8 H
 refine Zmt hE _ (λe x hx hl=>?_) (λe x hx hl i1 i2=>?_)
 ·have hb:=hB x (Qw hx)
  have e1:levX T n vs ex e=if x.op=0 then botI T n else lfL vs x:=by unfold levX;rw[ZaE _ _ _ hE hx,if_pos hl]
  have e2:∀j,reads vs ex e j=ZkE vs x j:=λj=>by unfold reads;rw[ZaE _ _ _ hE hx,if_pos hl]
  rw[e1]
  by_cases h0:x.op=0
  ·rw[if_pos h0]
   refine⟨b0,λu hu=>⟨λ_ j hj=>?_,λ_=>b1 u hu⟩,λj hj=>?_⟩
   ·rw[e2]at hj;unfold ZkE at hj;rw[h0]at hj;simp at hj
   ·rw[e2]at hj;unfold ZkE at hj;rw[h0]at hj;simp at hj
  ·rw[if_neg h0]
   have hv:=Zp9 hV hb h0 hl
   refine⟨hv,λu hu=>⟨λh j hj=>?_,λh=>?_⟩,λj hj=>?_⟩
   ·rw[e2]at hj
    unfold ZkE at hj
    rw[Qr]at hj
    rw[QB hj.2]
    exact h
   ·have:=h (lfL vs x).toNat (by rw[e2];unfold ZkE;rw[Qr];exact⟨Qv h0,Qv (Qj hv.1)⟩)
    rw[Qj hv.1]at this
    exact this
   ·rw[e2]at hj
    unfold ZkE at hj
    rw[Qr]at hj
    rw[QB hj.2]
    exact hv.2
 ·have e1:levX T n vs ex e=jn T n (levX T n vs ex x.l) (levX T n vs ex x.r):=by unfold levX;rw[ZaE _ _ _ hE hx,if_neg hl]
  have e2:∀j,reads vs ex e j=(reads vs ex x.l j||reads vs ex x.r j):=λj=>by unfold reads;rw[ZaE _ _ _ hE hx,if_neg hl]
  obtain⟨l1,l2,l3⟩:=i1
  obtain⟨r1,r2,r3⟩:=i2
  rw[e1]
  have hj:=H.jin _ _ l1 r1
  refine⟨hj,λu hu=>⟨λh j hjj=>?_,λh=>?_⟩,λj hjj=>?_⟩
  ·rw[e2,QJ]at hjj
   rcases hjj with c|c
   ·exact(l2 u hu).1 (H.trans _ _ _ l1 hj hu (H.jl _ _ l1 r1) h) j c
   ·exact(r2 u hu).1 (H.trans _ _ _ r1 hj hu (H.jr _ _ l1 r1) h) j c
  ·exact H.jm _ _ _ l1 r1 hu ((l2 u hu).2 λj c=>h j (by rw[e2,c];rfl)) ((r2 u hu).2 λj c=>h j (by rw[e2,c,Bool.or_true]))
  ·rw[e2,QJ]at hjj
   rcases hjj with c|c
   ·exact l3 j c
   ·exact r3 j c
theorem ZgS(H:Zam T n)(m:Nat->Bool):∀k:Nat,(k:Int)<=n->Lv n (jset T n m k)∧∀u,Lv n u->(le T n (jset T n m k) u=true↔∀j:Nat,j<k->m j=true->le T n j u=true)
 | 0,_=>⟨(Zd8 H).1,λu hu=>⟨λ_ j hj=>by omega,λ_=>(Zd8 H).2 u hu⟩⟩
 | k+1,hk=>by
  obtain⟨h1,h2⟩:=ZgS H m k (by omega)
  have hkk:Lv n (k:Int):=⟨by omega,by omega⟩
  simp only[jset]
  by_cases c:m k=true
  ·rw[if_pos c]
   have hj:=H.jin _ _ h1 hkk
   refine⟨hj,λu hu=>⟨λh j hj2 hm=>?_,λh=>?_⟩⟩
   ·by_cases e:j=k
    ·rw[e];exact H.trans _ _ _ hkk hj hu (H.jr _ _ h1 hkk) h
    ·exact(h2 u hu).1 (H.trans _ _ _ h1 hj hu (H.jl _ _ h1 hkk) h) j (by omega) hm
   ·exact H.jm _ _ _ h1 hkk hu ((h2 u hu).2 λj hj2 hm=>h j (by omega) hm) (h k (by omega) c)
  ·rw[if_neg c]
   refine⟨h1,λu hu=>⟨λh j hj hm=>?_,λh=>(h2 u hu).2 λj hj hm=>h j (by omega) hm⟩⟩
   by_cases e:j=k
   ·rw[e]at hm;exact absurd hm c
   ·exact(h2 u hu).1 h j (by omega) hm
theorem Zqa(H:Zam T n)(hn:0<=n)(hE:Z7 ex)(hB:ExB n vs.length ex)(hV:VsB n vs)(he:e<ex.length):jset T n (reads vs ex e) n.toNat=levX T n vs ex e:=by
 obtain⟨a1,a2,a3⟩:=Zfc H hE hB hV e he
 obtain⟨b1,b2⟩:=ZgS H (reads vs ex e) n.toNat (by omega)
 refine H.anti _ _ b1 a1 ((b2 _ a1).2 λj hj hm=>(a2 _ a1).1 (H.refl _ a1) j hm) ((a2 _ b1).2 λj hm=>(b2 _ b1).1 (H.refl _ b1) j ?_ hm)
 have:=a3 j hm
 omega
theorem Zoi(hE:Z7 ex)(hB:ExB n m ex)(c:Int):∀e,e<ex.length->(drawX T n c ex e=true↔∀j:Nat,tapes ex e j=true->le T n c j=true)∧∀j:Nat,tapes ex e j=true->(j:Int)<n:=by
 refine Zmt hE _ (λe x hx hl=>?_) (λe x hx hl i1 i2=>?_)
 ·have hb:=hB x (Qw hx)
  have e1:drawX T n c ex e=if x.op=10 then le T n c x.v else true:=by unfold drawX;rw[ZaE _ _ _ hE hx,if_pos hl]
  have e2:∀j,tapes ex e j=ZlG x j:=λj=>by unfold tapes;rw[ZaE _ _ _ hE hx,if_pos hl]
  rw[e1]
  by_cases h0:x.op=10
  ·rw[if_pos h0]
   have hv:0<=x.v∧x.v<n:=by
    rcases hb with d|d|⟨_,d⟩|d
    ·omega
    ·omega
    ·exact d
    ·omega
   refine⟨⟨λh j hj=>?_,λh=>?_⟩,λj hj=>?_⟩
   ·rw[e2]at hj
    unfold ZlG at hj
    rw[Qr]at hj
    rw[QB hj.2];exact h
   ·have:=h x.v.toNat (by rw[e2];unfold ZlG;rw[Qr];exact⟨Qv h0,Qv (Qj hv.1)⟩)
    rw[Qj hv.1]at this
    exact this
   ·rw[e2]at hj
    unfold ZlG at hj
    rw[Qr]at hj
    rw[QB hj.2];exact hv.2
  ·rw[if_neg h0]
   have hno:∀j,tapes ex e j≠true:=λj hj=>by
    rw[e2]at hj
    unfold ZlG at hj
    rw[Qr]at hj
    exact h0 (QB hj.1)
   exact⟨⟨λ_ j hj=>absurd hj (hno j),λ_=>rfl⟩,λj hj=>absurd hj (hno j)⟩
 ·have e1:drawX T n c ex e=(drawX T n c ex x.l&&drawX T n c ex x.r):=by unfold drawX;rw[ZaE _ _ _ hE hx,if_neg hl]
  have e2:∀j,tapes ex e j=(tapes ex x.l j||tapes ex x.r j):=λj=>by unfold tapes;rw[ZaE _ _ _ hE hx,if_neg hl]
  obtain⟨l1,l2⟩:=i1
  obtain⟨r1,r2⟩:=i2
  rw[e1,Qr,l1,r1]
  refine⟨⟨λh j hj=>?_,λh=>⟨λj hj=>h j (by rw[e2,hj];rfl),λj hj=>h j (by rw[e2,hj,Bool.or_true])⟩⟩,λj hj=>?_⟩
  ·rw[e2,QJ]at hj
   rcases hj with d|d
   ·exact h.1 j d
   ·exact h.2 j d
  ·rw[e2,QJ]at hj
   rcases hj with d|d
   ·exact l2 j d
   ·exact r2 j d
theorem Zj2(hE:Z7 ex)(hB:ExB n m ex)(c:Int)(he:e<ex.length):lowF T n (tapes ex e) c=!drawX T n c ex e:=by
 obtain⟨h1,h2⟩:=Zoi (T:=T) hE hB c e he
 unfold lowF
 congr 1
 have:Zw (λj=>!(tapes ex e j.toNat)||le T n c j) n.toNat=true↔drawX T n c ex e=true:=by
  rw[Za,h1]
  constructor
  ·intro h j hj
   have:=h j (by have:=h2 j hj;omega)
   rw[QC,hj]at this
   simpa using this
  ·intro h j hj
   rw[QC]
   cases ht:tapes ex e j with
   | false=>simp
   | true=>simp[h j ht]
 cases ha:Zw (λj=>!(tapes ex e j.toNat)||le T n c j) n.toNat<;>cases hd:drawX T n c ex e<;>simp_all
def okX(T:ZB)(n:Int)(vs:List Int)(ex:List Ex)(x:Sm)(c v:Int):Bool:=
 if x.k=61 then drawX T n c ex x.e&&le T n v (vs.getD x.v.toNat 0)
 else if x.k=62 then drawX T n c ex x.e&&le T n v x.v
 else if x.k=64 then drawX T n v ex x.e else drawX T n c ex x.e
def Zcr(a b:Int):Int:=if a<0∨(0<=b∧b<a) then b else a
def Zgv(f:Nat->Int->Int->Int):List Nat->Int->Int->Int
 | [],_,m=>m
 | i::l,c,m=>Zgv f l c (f i c m)
def ZjH(T:ZB)(n:Int)(vs:List Int)(ex:List Ex)(sm:List Sm):Nat->Nat->Int->Int->Int
 | 0,_,_,m=>m
 | k+1,i,c,m=>match sm[i]? with
  | none=>m
  | some x=>Zcr (Zcr (if okX T n vs ex x c (jn T n c (levX T n vs ex x.e))=true then m else Zcr m x.a) (Zgv (ZjH T n vs ex sm k) x.bo (jn T n c (levX T n vs ex x.e)) (-1))) (Zgv (ZjH T n vs ex sm k) x.el (jn T n c (levX T n vs ex x.e)) (-1))
def brk(T:ZB)(n:Int)(vs:List Int)(ex:List Ex)(sm:List Sm)(i:Nat)(c m:Int):Int:=ZjH T n vs ex sm (i+1) i c m
def brks(T:ZB)(n:Int)(vs:List Int)(ex:List Ex)(sm:List Sm)(l:List Nat)(c m:Int):Int:=Zgv (brk T n vs ex sm) l c m
theorem Zb2{f g:Nat->Int->Int->Int}(c:Int):∀(l:List Nat) (m:Int),(∀i,i∈l->∀m,f i c m=g i c m)->Zgv f l c m=Zgv g l c m
 | [],m,h=>rfl
 | i::l,m,h=>by
  simp only[Zgv]
  rw[h i (by simp) m,Zb2 c l _ (λj hj=>h j (by simp[hj]))]
theorem ZdB(hS:ZaQ ex sm):∀(k i k':Nat) (c m:Int),i<k->i<k'->ZjH T n vs ex sm k i c m=ZjH T n vs ex sm k' i c m
 | 0,i,k',c,m,h,_=>by omega
 | k+1,i,0,c,m,_,h=>by omega
 | k+1,i,k'+1,c,m,h1,h2=>by
  simp only[ZjH]
  cases hx:sm[i]? with
  | none=>rfl
  | some x=>
   dsimp only
   obtain⟨o1,o2,o3⟩:=hS i x hx
   have hb:∀d,Zgv (ZjH T n vs ex sm k) x.bo d (-1)=Zgv (ZjH T n vs ex sm k') x.bo d (-1):=λd=>Zb2 _ _ _ λj hj m=>ZdB hS k j k' _ m (by have:=o2 j hj;omega) (by have:=o2 j hj;omega)
   have hl:∀d,Zgv (ZjH T n vs ex sm k) x.el d (-1)=Zgv (ZjH T n vs ex sm k') x.el d (-1):=λd=>Zb2 _ _ _ λj hj m=>ZdB hS k j k' _ m (by have:=o3 j hj;omega) (by have:=o3 j hj;omega)
   rw[hb,hl]
theorem ZrC{i:Nat}(hS:ZaQ ex sm)(hx:sm[i]?=some x)(c m:Int) :
  brk T n vs ex sm i c m=Zcr (Zcr (if okX T n vs ex x c (jn T n c (levX T n vs ex x.e))=true then m else Zcr m x.a) (brks T n vs ex sm x.bo (jn T n c (levX T n vs ex x.e)) (-1))) (brks T n vs ex sm x.el (jn T n c (levX T n vs ex x.e)) (-1)):=by
 obtain⟨o1,o2,o3⟩:=hS i x hx
 have hb:∀d,Zgv (ZjH T n vs ex sm i) x.bo d (-1)=brks T n vs ex sm x.bo d (-1):=λd=>Zb2 _ _ _ λj hj m=>ZdB hS i j (j+1) _ m (o2 j hj) (by omega)
 have hl:∀d,Zgv (ZjH T n vs ex sm i) x.el d (-1)=brks T n vs ex sm x.el d (-1):=λd=>Zb2 _ _ _ λj hj m=>ZdB hS i j (j+1) _ m (o3 j hj) (by omega)
 unfold brk
 rw[ZjH,hx]
 dsimp only
 rw[hb,hl]
def badG(f:Nat->Int->List Int):List Nat->Int->List Int
 | [],_=>[]
 | i::l,c=>f i c++badG f l c
def Zc2(T:ZB)(n:Int)(vs:List Int)(ex:List Ex)(sm:List Sm):Nat->Nat->Int->List Int
 | 0,_,_=>[]
 | k+1,i,c=>match sm[i]? with
  | none=>[]
  | some x=>(if okX T n vs ex x c (jn T n c (levX T n vs ex x.e))=true then [] else [(x.a:Int)])++(badG (Zc2 T n vs ex sm k) x.bo (jn T n c (levX T n vs ex x.e))++badG (Zc2 T n vs ex sm k) x.el (jn T n c (levX T n vs ex x.e)))
def Zen(m:Int)(l:List Int):Int:=l.foldl Zcr m
theorem Zi7{a b:Int}(ha:-1<=a)(hb:-1<=b):-1<=Zcr a b:=by unfold Zcr;split<;>assumption
theorem Zk2{m a b:Int}(hm:-1<=m)(ha:-1<=a)(hb:-1<=b):Zcr (Zcr m a) b=Zcr m (Zcr a b):=by
 unfold Zcr
 repeat' split
 all_goals omega
theorem Zmu{m:Int}(hm:-1<=m):Zcr m (-1)=m:=by
 unfold Zcr
 split<;>omega
theorem Zfd(a:Int):Zcr (-1) a=a:=if_pos (.inl (by omega))
theorem Zd9:∀(l:List Int) {m:Int},-1<=m->(∀a,a∈l->0<=a)->-1<=Zen m l
 | [],m,hm,h=>hm
 | a::l,m,hm,h=>Zd9 l (Zi7 hm (by have:=h a (by simp);omega)) (λb hb=>h b (by simp[hb]))
theorem Zb3:∀(l:List Int) {m:Int},-1<=m->(∀a,a∈l->0<=a)->Zcr m (Zen (-1) l)=Zen m l
 | [],m,hm,h=>Zmu hm
 | a::l,m,hm,h=>by
  have ha:=h a (by simp)
  have hl:∀b,b∈l->0<=b:=λb hb=>h b (by simp[hb])
  show Zcr m (Zen (Zcr (-1) a) l)=Zen (Zcr m a) l
  rw[Zfd,<-Zb3 l (m:=a) (by omega) hl,<-Zb3 l (m:=Zcr m a) (Zi7 hm (by omega)) hl,Zk2 hm (by omega) (Zd9 l (by omega) hl)]
theorem Zdf(m:Int)(a b:List Int):Zen m (a++b)=Zen (Zen m a) b:=by unfold Zen;rw[List.foldl_append]
theorem Zcx{f:Nat->Int->List Int}(hf:∀i c a,a∈f i c->0<=a)(c:Int):∀(l:List Nat) (a:Int),a∈badG f l c->0<=a
 | [],a,h=>by simp[badG]at h
 | i::l,a,h=>by
  simp only[badG,QI]at h
  rcases h with h|h
  ·exact hf _ _ _ h
  ·exact Zcx hf c l a h
theorem Zbb(T:ZB)(n:Int)(vs:List Int)(ex:List Ex)(sm:List Sm):∀(k i:Nat) (c a:Int),a∈Zc2 T n vs ex sm k i c->0<=a
 | 0,i,c,a,h=>by simp[Zc2]at h
 | k+1,i,c,a,h=>by
  simp only[Zc2]at h
  cases hx:sm[i]? with
  | none=>rw[hx]at h;simp at h
  | some x=>
   rw[hx]at h
   simp only[QI]at h
   rcases h with h|h|h
   ·split at h
    ·simp at h
    ·simp at h;omega
   ·exact Zcx (Zbb T n vs ex sm k) _ _ _ h
   ·exact Zcx (Zbb T n vs ex sm k) _ _ _ h
theorem ZcT{f:Nat->Int->Int->Int}(c:Int)(hg:∀i a,a∈g i c->0<=a)(h:∀i m,-1<=m->f i c m=Zen m (g i c)):∀(l:List Nat) (m:Int),-1<=m->Zgv f l c m=Zen m (badG g l c)
 | [],m,hm=>rfl
 | i::l,m,hm=>by
  simp only[Zgv,badG]
  rw[h i m hm,Zdf,ZcT c hg h l _ (Zd9 _ hm (hg i))]
theorem ZdC(T:ZB)(n:Int)(vs:List Int)(ex:List Ex)(sm:List Sm):∀(k i:Nat) (c m:Int),-1<=m->ZjH T n vs ex sm k i c m=Zen m (Zc2 T n vs ex sm k i c)
 | 0,i,c,m,hm=>rfl
 | k+1,i,c,m,hm=>by
  simp only[ZjH,Zc2]
  cases hx:sm[i]? with
  | none=>rfl
  | some x=>
   dsimp only
   generalize jn T n c (levX T n vs ex x.e)=v
   have hbb:=Zcx (Zbb T n vs ex sm k) v x.bo
   have hbl:=Zcx (Zbb T n vs ex sm k) v x.el
   rw[ZcT v (λi a=>Zbb T n vs ex sm k i v a) (λi m hm=>ZdC T n vs ex sm k i v m hm) x.bo (-1) (by omega),ZcT v (λi a=>Zbb T n vs ex sm k i v a) (λi m hm=>ZdC T n vs ex sm k i v m hm) x.el (-1) (by omega)]
   rw[Zdf,Zdf]
   by_cases ho:okX T n vs ex x c v=true
   ·rw[if_pos ho,if_pos ho]
    show _=Zen (Zen m _) _
    rw[Zb3 _ hm hbb,Zb3 _ (Zd9 _ hm hbb) hbl]
   ·rw[if_neg ho,if_neg ho]
    have h1:-1<=Zcr m x.a:=Zi7 hm (by omega)
    show _=Zen (Zen (Zcr m x.a) _) _
    rw[Zb3 _ h1 hbb,Zb3 _ (Zd9 _ h1 hbb) hbl]
def ctxF(T:ZB)(n:Int)(inn:List Int)(ou:Int):Int:=if ou<0∨(inn.length:Int)<=ou then botI T n else inn.getD ou.toNat 0
def Zf1(T:ZB)(n:Int)(x:Sq)(c v:Int):Bool:=
 if x.k=1∨x.k=2 then !(le T n v x.ta)||lowF T n x.tp c else if x.k=4 then lowF T n x.tp v else lowF T n x.tp c
def firstF(T:ZB)(n:Int):List Sq->List Int->Int
 | [],_=>-1
 | x::l,inn=>if Zf1 T n x (ctxF T n inn x.ou) (jn T n (ctxF T n inn x.ou) (jset T n x.rd n.toNat))=true then x.pl else firstF T n l (inn++[jn T n (ctxF T n inn x.ou) (jset T n x.rd n.toNat)])
theorem ZhY{inn:List Int}(h:ou<inn.length)(more:List Int):ctxF T n (inn++more) ou=ctxF T n inn ou:=by
 unfold ctxF
 by_cases h0:ou<0
 ·rw[if_pos (.inl h0),if_pos (.inl h0)]
 ·rw[if_neg (by rw[Qe];omega),if_neg (by omega),Qs,Qs,QD (by omega)]
theorem Zj3(inn:List Int)(v:Int):ctxF T n (inn++[v]) (inn.length:Nat)=v:=by
 unfold ctxF
 rw[if_neg (by rw[Qe];simp;omega),Qs,QC]
 simp
theorem Zqb(hE:Z7 ex)(hB:ExB n vs.length ex)(he:x.e<ex.length)(hk:x.k=61∨x.k=62∨x.k=63∨x.k=64)(ou c v:Int):Zf1 T n (Ziw vs ex x ou) c v=!okX T n vs ex x c v:=by
 unfold Zf1 okX Ziw
 dsimp only
 rw[Zj2 hE hB c he,Zj2 hE hB v he]
 rcases hk with h|h|h|h
 ·rw[if_pos h,if_pos (.inl rfl),if_pos h,if_pos h]
  cases drawX T n c ex x.e<;>cases le T n v (vs.getD x.v.toNat 0)<;>rfl
 ·rw[if_neg (show ¬x.k=61 by omega),if_pos h,if_pos (.inr rfl),if_neg (show ¬x.k=61 by omega),if_pos h,if_neg (show ¬x.k=61 by omega),if_pos h]
  cases drawX T n c ex x.e<;>cases le T n v x.v<;>rfl
 ·rw[if_neg (show ¬x.k=61 by omega),if_neg (show ¬x.k=62 by omega),if_pos h,if_neg (by omega),if_neg (by omega),if_neg (show ¬x.k=61 by omega),if_neg (show ¬x.k=62 by omega),if_neg (show ¬x.k=64 by omega)]
 ·rw[if_neg (show ¬x.k=61 by omega),if_neg (show ¬x.k=62 by omega),if_neg (show ¬x.k=63 by omega),if_neg (by omega),if_pos rfl,if_neg (show ¬x.k=61 by omega),if_neg (show ¬x.k=62 by omega),if_pos h]
def Finds(T:ZB)(n:Int)(inn:List Int)(row:List Sq)(bad:List Int):Prop:=
 ∃more:List Int,more.length=row.length∧∀rest,firstF T n (row++rest) inn=match bad with
  | []=>firstF T n rest (inn++more)
  | a::_=>a
theorem Finds.nil(T:ZB)(n:Int)(inn:List Int):Finds T n inn [] []:=⟨[],rfl,λrest=>by simp⟩
theorem Finds.append{inn:List Int}{r1 r2:List Sq}{b1 b2:List Int}(h1:Finds T n inn r1 b1)(h2:∀more:List Int,more.length=r1.length->Finds T n (inn++more) r2 b2):Finds T n inn (r1++r2) (b1++b2):=by
 obtain⟨m1,l1,f1⟩:=h1
 obtain⟨m2,l2,f2⟩:=h2 m1 l1
 refine⟨m1++m2,by rw[Qe,Qe,l1,l2],λrest=>?_⟩
 rw[QE,f1]
 cases b1 with
 | cons a b1=>rfl
 | nil=>
  dsimp only
  rw[f2,List.nil_append,QE]
theorem ZdD(ou c:Int):∀(l:List Nat) (inn:List Int),ou<inn.length->ctxF T n inn ou=c->
  (∀i,i∈l->∀inn:List Int,ou<inn.length->ctxF T n inn ou=c->Finds T n inn (f i ou inn.length) (g i c))->Finds T n inn (flG f l ou inn.length) (badG g l c)
 | [],inn,h0,hc,h=>Finds.nil T n inn
 | i::l,inn,h0,hc,h=>by
  simp only[flG,badG]
  refine(h i (by simp) inn h0 hc).append λmore hm=>?_
  have:=ZdD ou c l (inn++more) (by rw[List.length_append];omega) (by rw[ZhY h0];exact hc) (λj hj=>h j (by simp[hj]))
  rw[Qe,hm]at this
  exact this
theorem Zfe(H:Zam T n)(hn:0<=n)(hE:Z7 ex)(hS:ZaQ ex sm)(hB:ExB n vs.length ex)(hV:VsB n vs)(hK:∀x,x∈sm->x.k=61∨x.k=62∨x.k=63∨x.k=64) :
  ∀(k i:Nat) (ou c:Int) (inn:List Int),ou<inn.length->ctxF T n inn ou=c->Finds T n inn (flF vs ex sm k i ou inn.length) (Zc2 T n vs ex sm k i c)
 | 0,i,ou,c,inn,h0,hc=>Finds.nil T n inn
 | k+1,i,ou,c,inn,h0,hc=>by
  simp only[flF,Zc2]
  cases hx:sm[i]? with
  | none=>exact Finds.nil T n inn
  | some x=>
   dsimp only
   obtain⟨o1,o2,o3⟩:=hS i x hx
   have hlv:jset T n (Ziw vs ex x ou).rd n.toNat=levX T n vs ex x.e:=Zqa H hn hE hB hV o1
   have hlk:=Zqb (T:=T) hE hB o1 (hK x (Qw hx)) ou c (jn T n c (levX T n vs ex x.e))
   have hpl:(Ziw vs ex x ou).pl=x.a:=rfl
   have hou:(Ziw vs ex x ou).ou=ou:=rfl
   generalize hq:Ziw vs ex x ou=q at *
   generalize hv:jn T n c (levX T n vs ex x.e)=v at *
   have hfst:∀rest,firstF T n (q::rest) inn=if okX T n vs ex x c v=true then firstF T n rest (inn++[v]) else (x.a:Int):=λrest=>by
    simp only[firstF]
    rw[hou,hc,hlv,hv,hlk]
    by_cases ho:okX T n vs ex x c v=true
    ·rw[if_pos ho,ho];rfl
    ·rw[if_neg ho,if_pos (by rw[QW]at ho;rw[ho];rfl)]
     exact hpl
   have hlen:(inn++[v]).length=inn.length+1:=by simp
   have hB2:Finds T n (inn++[v]) (flG (flF vs ex sm k) x.bo inn.length (inn.length+1)++flG (flF vs ex sm k) x.el inn.length (inn.length+1+(flG (flF vs ex sm k) x.bo inn.length (inn.length+1)).length)) (badG (Zc2 T n vs ex sm k) x.bo v++badG (Zc2 T n vs ex sm k) x.el v):=by
    have h1:=ZdD (T:=T) (n:=n) (f:=flF vs ex sm k) (g:=Zc2 T n vs ex sm k) (inn.length:Nat) v x.bo (inn++[v]) (by rw[hlen];omega) (Zj3 inn v) (λj hj inn2 a b=>Zfe H hn hE hS hB hV hK k j _ v inn2 a b)
    rw[hlen]at h1
    refine h1.append λmore hm=>?_
    have h2:=ZdD (T:=T) (n:=n) (f:=flF vs ex sm k) (g:=Zc2 T n vs ex sm k) (inn.length:Nat) v x.el (inn++[v]++more) (by rw[Qe,hlen];omega) (by rw[ZhY (by rw[hlen];omega)];exact Zj3 inn v) (λj hj inn2 a b=>Zfe H hn hE hS hB hV hK k j _ v inn2 a b)
    rw[Qe,hlen,hm]at h2
    exact h2
   generalize flG (flF vs ex sm k) x.bo inn.length (inn.length+1)++flG (flF vs ex sm k) x.el inn.length (inn.length+1+(flG (flF vs ex sm k) x.bo inn.length (inn.length+1)).length)=R at *
   generalize badG (Zc2 T n vs ex sm k) x.bo v++badG (Zc2 T n vs ex sm k) x.el v=D at *
   by_cases ho:okX T n vs ex x c v=true
   ·rw[if_pos ho]
    obtain⟨m,l,f⟩:=hB2
    refine⟨v::m,by simp[l],λrest=>?_⟩
    rw[Uj,hfst,if_pos ho,f,QE]
    rfl
   ·rw[if_neg ho]
    refine⟨List.replicate (q::R).length 0,List.length_replicate,λrest=>?_⟩
    rw[Uj,hfst,if_neg ho]
    rfl
theorem Zqc:∀(l:List Int),(∀a,a∈l->0<=a)->l.Pairwise (λa b=>a<=b)->Zen (-1) l=match l with
  | []=>-1
  | a::_=>a
 | [],h,hp=>rfl
 | a::l,h,hp=>by
  have key:∀(l:List Int),(∀b,b∈l->a<=b)->Zen a l=a:=by
   intro l
   induction l with
   | nil=>intro _;rfl
   | cons b l ih=>
    intro hb
    show Zen (Zcr a b) l=a
    have h0:=h a (by simp)
    have h1:=hb b (by simp)
    rw[show Zcr a b=a from by unfold Zcr;rw[if_neg (by omega)]]
    exact ih λc hc=>hb c (by simp[hc])
  show Zen (Zcr (-1) a) l=a
  rw[Zfd]
  exact key l λb hb=>(List.pairwise_cons.1 hp).1 b hb
theorem ZeO(c:Int):∀(l:List Nat) (ou:Int) (b:Nat),(∀i,i∈l->∀ou b,(g i c).Sublist ((f i ou b).map Sq.pl))->(badG g l c).Sublist ((flG f l ou b).map Sq.pl)
 | [],ou,b,h=>List.nil_sublist _
 | i::l,ou,b,h=>by
  simp only[badG,flG,QK]
  exact(h i (by simp) ou b).append (ZeO c l ou _ λj hj=>h j (by simp[hj]))
theorem ZgT:∀(k i:Nat) (c ou:Int) (b:Nat),(Zc2 T n vs ex sm k i c).Sublist ((flF vs ex sm k i ou b).map Sq.pl)
 | 0,i,c,ou,b=>List.nil_sublist _
 | k+1,i,c,ou,b=>by
  simp only[Zc2,flF]
  cases hx:sm[i]? with
  | none=>exact List.nil_sublist _
  | some x=>
   dsimp only
   rw[List.map_cons,QK]
   generalize jn T n c (levX T n vs ex x.e)=v
   have h1:=ZeO (f:=flF vs ex sm k) (g:=Zc2 T n vs ex sm k) v x.bo (b:Nat) (b+1) (λj hj ou b=>ZgT k j v ou b)
   have h2:=ZeO (f:=flF vs ex sm k) (g:=Zc2 T n vs ex sm k) v x.el (b:Nat) (b+1+(flG (flF vs ex sm k) x.bo b (b+1)).length) (λj hj ou b=>ZgT k j v ou b)
   have h3:=h1.append h2
   by_cases ho:okX T n vs ex x c v=true
   ·rw[if_pos ho]
    exact h3.cons _
   ·rw[if_neg ho]
    exact h3.cons_cons _
theorem Zk3(H:Zam T n)(hn:0<=n)(hE:Z7 ex)(hS:ZaQ ex sm)(hB:ExB n vs.length ex)(hV:VsB n vs)(hK:∀x,x∈sm->x.k=61∨x.k=62∨x.k=63∨x.k=64)
  (hp:(fls vs ex sm l (-1) 0).Pairwise λa b=>a.pl<=b.pl):firstF T n (fls vs ex sm l (-1) 0) []=brks T n vs ex sm l (botI T n) (-1):=by
 have hc:ctxF T n [] (-1)=botI T n:=if_pos (.inl (by omega))
 have hF:Finds T n [] (fls vs ex sm l (-1) 0) (badG (λi c=>Zc2 T n vs ex sm (i+1) i c) l (botI T n)):=
  ZdD (f:=fl vs ex sm) (-1) (botI T n) l [] (by simp) hc (λi hi inn a b=>Zfe H hn hE hS hB hV hK (i+1) i (-1) (botI T n) inn a b)
 have hL:brks T n vs ex sm l (botI T n) (-1)=Zen (-1) (badG (λi c=>Zc2 T n vs ex sm (i+1) i c) l (botI T n)):=
  ZcT _ (λi a=>Zbb T n vs ex sm (i+1) i _ a) (λi m hm=>ZdC T n vs ex sm (i+1) i _ m hm) l (-1) (by omega)
 have hsub:(badG (λi c=>Zc2 T n vs ex sm (i+1) i c) l (botI T n)).Sublist ((fls vs ex sm l (-1) 0).map Sq.pl):=ZeO (f:=fl vs ex sm) _ l (-1) 0 (λi hi ou b=>ZgT (i+1) i _ ou b)
 have hnn:=Zcx (f:=λi c=>Zc2 T n vs ex sm (i+1) i c) (λi c a=>Zbb T n vs ex sm (i+1) i c a) (botI T n) l
 have hpw:(badG (λi c=>Zc2 T n vs ex sm (i+1) i c) l (botI T n)).Pairwise (λa b=>a<=b):=List.Pairwise.sublist hsub (List.pairwise_map.2 hp)
 rw[hL,Zqc _ hnn hpw]
 obtain⟨m,lm,f⟩:=hF
 have:=f []
 rw[QS]at this
 rw[this]
 cases badG (λi c=>Zc2 T n vs ex sm (i+1) i c) l (botI T n) with
 | nil=>rfl
 | cons a b=>rfl
end Go.Proofs.YtcnbifdlkalimabGreat
