import Derived.Test.YtcnbifdlkalimabGreatPlnA
/- Lemmas for the statement Means; their conditions stand in each. -/
namespace Go.Proofs.YtcnbifdlkalimabGreat
open Go.RowKit Go.Proofs.Tryz
variable{a b c t:Int}{l ls:List Int}{k n pl:Nat}{s:ZB}
structure Ex where
 op:Int
 v:Int
 l:Nat
 r:Nat
structure Sm where
 k:Int
 a:Nat
 v:Int
 e:Nat
 bo:List Nat
 el:List Nat
 two:Bool
structure Rs where
 r:Rd
 n:Int
 ls:List Int
 vs:List Int
 ex:List Ex
 sm:List Sm
def nodP(p:Rs)(r:Rd)(x:Ex):Rs×Nat:=({p with r:=r,ex:=p.ex++[x]},p.ex.length)
def termP(s:ZB)(exf:Rs->Rs×Nat)(p:Rs):Rs×Nat:=
 if 48<=tok s p.r∧tok s p.r<=57 then nodP p (num s (adv s p.r)).2 ⟨0,(num s (adv s p.r)).1,0,0⟩
 else if tok s p.r=36 then nodP p (digR s (nx (adv s p.r)) 0 (p.n-1)) ⟨10,dig s (nx (adv s p.r)) 0 (p.n-1),0,0⟩
 else if tok s p.r=40 then
  ({(exf {p with r:=nx (adv s p.r)}).1 with r:=tk s (exf {p with r:=nx (adv s p.r)}).1.r 41},(exf {p with r:=nx (adv s p.r)}).2)
 else nodP p (varR s p.r p.ls) ⟨1,varI s p.r p.ls,0,0⟩
def moreP(s:ZB)(tm:Rs->Rs×Nat):Nat->Rs×Nat->Rs×Nat
 | 0,x=>({x.1 with r:=adv s x.1.r},x.2)
 | k+1,x=>if opOf (tok s x.1.r)=0 then ({x.1 with r:=adv s x.1.r},x.2)
   else moreP s tm k (nodP (tm {x.1 with r:=nx (adv s x.1.r)}).1 (tm {x.1 with r:=nx (adv s x.1.r)}).1.r ⟨opOf (tok s x.1.r),0,x.2,(tm {x.1 with r:=nx (adv s x.1.r)}).2⟩)
def exprP(s:ZB):Nat->Rs->Rs×Nat
 | 0,p=>(p,0)
 | k+1,p=>moreP s (termP s (exprP s k)) k (termP s (exprP s k) p)
def exP(s:ZB)(p:Rs):Rs×Nat:=exprP s (s.size+1) p
def isS(t:Int):Bool:=isL t||(t==62)||(t==63)||(t==64)
def loopP(s:ZB)(f:Rs->Rs×Nat):Nat->Rs->List Nat->Rs×List Nat
 | 0,p,l=>({p with r:=adv s p.r},l)
 | k+1,p,l=>if isS (tok s p.r)=true then loopP s f k (f {p with r:=adv s p.r}).1 (l++[(f {p with r:=adv s p.r}).2]) else ({p with r:=adv s p.r},l)
def blkP(s:ZB)(f:Rs->Rs×Nat)(k:Nat)(p:Rs):Rs×List Nat:=
 ({(loopP s f k {p with r:=tk s p.r 123} []).1 with r:=tk s (loopP s f k {p with r:=tk s p.r 123} []).1.r 125},(loopP s f k {p with r:=tk s p.r 123} []).2)
def ZeC(p:Rs)(r:Rd)(x:Sm):Rs×Nat:=({p with r:=r,sm:=p.sm++[x]},p.sm.length)
def ZnH(s:ZB)(p:Rs)(a:Nat):Rs×Nat:=
 let y:=exP s {p with r:=tk s (varR s p.r p.ls) 61}
 ZeC y.1 (tk s y.1.r 59) ⟨61,a,varI s p.r p.ls,y.2,[],[],false⟩
def ZnI(s:ZB)(p:Rs)(a:Nat):Rs×Nat:=
 let y:=exP s {p with r:=digR s (tk s p.r 62) 0 (p.n-1)}
 ZeC y.1 (tk s y.1.r 59) ⟨62,a,dig s (tk s p.r 62) 0 (p.n-1),y.2,[],[],false⟩
def ZlE(s:ZB)(f:Rs->Rs×Nat)(k:Nat)(p:Rs)(a:Nat):Rs×Nat:=
 let y:=exP s {p with r:=tk s p.r 63}
 let b:=blkP s f k y.1
 if tok s b.1.r=58 then
  let c:=blkP s f k {b.1 with r:=nx (adv s b.1.r)}
  ZeC c.1 c.1.r ⟨63,a,0,y.2,b.2,c.2,true⟩
 else ZeC b.1 (adv s b.1.r) ⟨63,a,0,y.2,b.2,[],false⟩
def ZnE(s:ZB)(f:Rs->Rs×Nat)(k:Nat)(p:Rs)(a:Nat):Rs×Nat:=
 let y:=exP s {p with r:=tk s p.r 64}
 let b:=blkP s f k y.1
 ZeC b.1 b.1.r ⟨64,a,0,y.2,b.2,[],false⟩
def stmP(s:ZB):Nat->Rs->Rs×Nat
 | 0,p=>(p,0)
 | k+1,p=>
  if tok s p.r=62 then ZnI s {p with r:=adv s p.r} (adv s p.r).a
  else if tok s p.r=63 then ZlE s (stmP s k) k {p with r:=adv s p.r} (adv s p.r).a
  else if tok s p.r=64 then ZnE s (stmP s k) k {p with r:=adv s p.r} (adv s p.r).a
  else ZnH s {p with r:=adv s p.r} (adv s p.r).a
def ZiB(s:ZB)(n:Int):Nat->Rd->List Int->Rd×List Int
 | 0,r,l=>(adv s r,l)
 | k+1,r,l=>if 48<=tok s r∧tok s r<=57 then
   ZiB s n k (digR s (digR s (adv s r) 0 (n-1)) 0 (n-1)) (l++[dig s (adv s r) 0 (n-1),dig s (digR s (adv s r) 0 (n-1)) 0 (n-1)])
  else (adv s r,l)
def ZbB(s:ZB)(n:Int):Nat->Rd->List Int->List Int->Rd×List Int×List Int
 | 0,r,ls,vs=>(adv s r,ls,vs)
 | k+1,r,ls,vs=>if isL (tok s r)=true then
   (if fnd (tok s r) ls<ls.length then (rfs (adv s r) 12,ls,vs)
   else ZbB s n k (digR s (nx (adv s r)) 0 (n-1)) (ls++[tok s r]) (vs++[dig s (nx (adv s r)) 0 (n-1)]))
  else (adv s r,ls,vs)
def nP(s:ZB):Int:=if isD s ⟨0,0⟩ 1 6=true then dig s ⟨0,0⟩ 1 6 else 1
def prP(s:ZB):Rd×List Int:=ZiB s (nP s) (s.size+1) (digR s ⟨0,0⟩ 1 6) []
def dcP(s:ZB):Rd×List Int×List Int:=ZbB s (nP s) (s.size+1) (tk s (prP s).1 46) [] []
def headP(s:ZB):Rs:=⟨tk s (dcP s).1 46,nP s,(dcP s).2.1,(dcP s).2.2,[],[]⟩
def readP(s:ZB):Rs×List Nat:=loopP s (stmP s (s.size+2)) (s.size+1) (headP s) []
def endP(s:ZB):Rd:=if (readP s).1.r.er=0∧(readP s).1.r.a<s.size then rfs (readP s).1.r 11 else (readP s).1.r
def hopF(l:List Int):Nat->Int->Int->Bool
 | 0,a,b=>a==b
 | k+1,a,b=>(a==b)||(List.range (l.length/2)).any λi=>(l.getD (2*i) 0==a)&&hopF l k (l.getD (2*i+1) 0) b
def Zhx(ex:List Ex):Nat->Nat->List Int
 | 0,_=>[]
 | k+1,e=>match ex[e]? with
  | none=>[]
  | some x=>if x.op=0∨x.op=1∨x.op=10 then [x.op%256,x.v%256] else Zhx ex k x.l++Zhx ex k x.r++[x.op%256,0]
def cod(ex:List Ex)(e:Nat):List Int:=Zhx ex (e+1) e
def ZbL(f:Nat->Nat->List Int):List Nat->Nat->List Int
 | [],_=>[]
 | n::l,place=>f n place++ZbL f l (place+(f n place).length/2)
def onF(ex:List Ex)(sm:List Sm):Nat->Nat->Nat->List Int
 | 0,_,_=>[]
 | k+1,n,place=>match sm[n]? with
  | none=>[]
  | some x=>
   let e:=cod ex x.e
   if x.k=61 then e++[2,x.v%256]
   else if x.k=62 then e++[11,x.v%256]
   else
    let fr:=place+e.length/2+1
    let body:=ZbL (onF ex sm k) x.bo fr
    let th:=fr+body.length/2
    if x.k=64 then e++[9,((th+1:Nat):Int)%256]++body++[8,(place:Int)%256]
    else if x.two=false then e++[9,(th:Int)%256]++body
    else
     let other:=ZbL (onF ex sm k) x.el (th+1)
     e++[9,((th+1:Nat):Int)%256]++body++[8,((th+1+other.length/2:Nat):Int)%256]++other
set_option linter.unusedVariables false
theorem Z8{r:Rd}(h:tok s r≠0):tk s (adv s r) (tok s r)=nx (adv s r):=by
 unfold tk Zbn
 rw[Zp,ZY]
 simp
theorem Zfs(s:ZB)(r:Rd)(ls:List Int):ZaW s (adv s r) ls=ZaW s r ls:=by unfold ZaW;rw[Zp]
theorem ZdN(s:ZB)(r:Rd)(ls:List Int):varI s (adv s r) ls=varI s r ls:=by unfold varI;rw[Zfs,Zp]
theorem ZeP(s:ZB)(r:Rd)(ok:Bool)(e:Int):Zbn s (adv s r) ok e=Zbn s r ok e:=by unfold Zbn;rw[ZY]
theorem Za5(s:ZB)(r:Rd)(ls:List Int):varR s (adv s r) ls=varR s r ls:=by unfold varR;rw[ZeP,Zfs,Zp]
theorem Zg7{r:Rd}{ok:Bool}{e:Int}(h:r.er≠0):Zbn s r ok e=r:=by
 unfold Zbn
 rw[Zz h,Zpb h,ZiS h]
 split<;>rfl
theorem Zc5{r:Rd}(h:r.er≠0):tk s r c=r:=Zg7 h
theorem Zcz{r:Rd}{ok:Bool}{e:Int}(he:e≠0)(h:(Zbn s r ok e).er=0):r.er=0∧ok=true:=by
 unfold Zbn at h
 split at h
 ·rename_i k
  rw[Zdt,Zk]at h
  exact⟨h,k⟩
 ·exact absurd h (Zan he)
theorem ZbD{r:Rd}(h:(tk s r c).er=0):r.er=0:=(Zcz (by omega) h).1
theorem Zea{r:Rd}(h:(digR s r a b).er=0):r.er=0:=(Zcz (by omega) h).1
theorem Zft{r:Rd}(h:(varR s r ls).er=0):r.er=0∧ZaW s r ls=true:=Zcz (by split<;>omega) h
theorem Zci(s:ZB)(r:Rd)(a b:Int):rem s (digR s r a b)<=rem s r:=ZgE (by omega)
theorem ZeQ(s:ZB)(r:Rd)(ls:List Int):rem s (varR s r ls)<=rem s r:=ZgE (by split<;>omega)
theorem ZK{r:Rd}(h:tok s r≠0):rem s (nx (adv s r))<rem s r:=Qq (Zcv h) (Zt _ _)
theorem Zjm:∀(k:Nat) (r:Rd) (v:Int),(ZfK s k r v).2.er=0->r.er=0
 | 0,r,v,h=>h
 | k+1,r,v,h=>by
  simp only[ZfK]at h
  split at h
  ·split at h
   ·exact absurd h (Zan (by omega))
   ·have:=Zjm k _ _ h
    rw[Zdt]at this
    exact this
  ·exact h
structure FrQ(q q':Tq):Prop where
 n:q'.n=q.n
 pn:q'.pn=q.pn
 pr:q'.pr=q.pr
 ls:q'.ls=q.ls
 vs:q'.vs=q.vs
theorem FrQ.refl(q:Tq):FrQ q q:=⟨rfl,rfl,rfl,rfl,rfl⟩
theorem FrQ.trans{a b c:Tq}(h:FrQ a b)(k:FrQ b c):FrQ a c:=⟨k.n.trans h.n,k.pn.trans h.pn,k.pr.trans h.pr,k.ls.trans h.ls,k.vs.trans h.vs⟩
structure FrP(p p':Rs):Prop where
 n:p'.n=p.n
 ls:p'.ls=p.ls
 vs:p'.vs=p.vs
theorem FrP.refl(q:Rs):FrP q q:=⟨rfl,rfl,rfl⟩
theorem FrP.trans{a b c:Rs}(h:FrP a b)(k:FrP b c):FrP a c:=⟨k.n.trans h.n,k.ls.trans h.ls,k.vs.trans h.vs⟩
structure Ag(q:Tq)(p:Rs):Prop where
 r:q.r=p.r
 n:q.n=p.n
 ls:q.ls=p.ls
 vs:q.vs=p.vs
theorem Ag.go{q q':Tq}{p p':Rs}(h:Ag q p)(fq:FrQ q q')(fp:FrP p p')(hr:q'.r=p'.r):Ag q' p':=
 ⟨hr,by rw[fq.n,fp.n,h.n],by rw[fq.ls,fp.ls,h.ls],by rw[fq.vs,fp.vs,h.vs]⟩
def Z7(ex:List Ex):Prop:=∀(e:Nat) (x:Ex),ex[e]?=some x->(x.op=0∨x.op=1∨x.op=10)∨(x.l<e∧x.r<e)
theorem Z7.add{ex:List Ex}(h:Z7 ex){x:Ex}(hx:(x.op=0∨x.op=1∨x.op=10)∨(x.l<ex.length∧x.r<ex.length)):Z7 (ex++[x]):=by
 intro e y hy
 by_cases he:e<ex.length
 ·rw[QD he]at hy
  exact h e y hy
 ·rw[QF (by omega)]at hy
  have e0:e-ex.length=0:=by
   cases k:e-ex.length with
   | zero=>rfl
   | succ j=>rw[k]at hy;simp at hy
  rw[e0]at hy
  simp at hy
  subst hy
  have:e=ex.length:=by omega
  rw[this]
  exact hx
theorem ZcZ{ex more:List Ex}(h:Z7 ex):∀(k e k':Nat),e<ex.length->e<k->e<k'->Zhx (ex++more) k e=Zhx ex k' e
 | 0,e,k',_,h1,_=>by omega
 | k+1,e,0,_,_,h1=>by omega
 | k+1,e,k'+1,h0,h1,h2=>by
  simp only[Zhx]
  rw[QD h0]
  obtain⟨x,hx⟩:∃x,ex[e]?=some x:=⟨ex[e],Qn h0⟩
  rw[hx]
  dsimp only
  split
  ·rfl
  ·rename_i hop
   rcases h e x hx with c|⟨c1,c2⟩
   ·exact absurd c hop
   ·rw[ZcZ h k x.l k' (by omega) (by omega) (by omega),ZcZ h k x.r k' (by omega) (by omega) (by omega)]
theorem Zg8{ex more:List Ex}{e:Nat}(h:Z7 ex)(he:e<ex.length):cod (ex++more) e=cod ex e:=
 ZcZ h _ _ _ he (by omega) (by omega)
theorem ZeR{ex:List Ex}{e:Nat}(h:Z7 ex)(he:e<ex.length)(hk:e<k):Zhx ex k e=cod ex e:=by
 have:=ZcZ (more:=[]) h k e (e+1) he hk (by omega)
 rw[QS]at this
 exact this
theorem Zg9{ex:List Ex}{x:Ex}(hx:x.op=0∨x.op=1∨x.op=10):cod (ex++[x]) ex.length=[x.op%256,x.v%256]:=by
 unfold cod
 simp only[Zhx]
 rw[QF (Qb _)]
 simp
 intro c
 omega
theorem Zm2{ex:List Ex}{x:Ex}(h:Z7 ex)(hx:¬(x.op=0∨x.op=1∨x.op=10))(hl:x.l<ex.length)(hr:x.r<ex.length):cod (ex++[x]) ex.length=cod ex x.l++cod ex x.r++[x.op%256,0]:=by
 unfold cod
 rw[Zhx]
 rw[QF (Qb _)]
 simp only[Nat.sub_self,List.getElem?_cons_zero]
 rw[if_neg hx,ZcZ h _ _ (x.l+1) hl (by omega) (by omega),ZcZ h _ _ (x.r+1) hr (by omega) (by omega)]
theorem Zib(ex:List Ex):∀k e,(Zhx ex k e).length%2=0
 | 0,e=>rfl
 | k+1,e=>by
  simp only[Zhx]
  split
  ·rfl
  ·split
   ·simp
   ·have:=Zib ex k
    rename_i x _ _
    have h1:=this x.l
    have h2:=this x.r
    simp only[Qe,Qt,Qy]
    omega
theorem Zbk(ex:List Ex)(e:Nat):(cod ex e).length%2=0:=Zib _ _ _
structure ZnJ(s:ZB)(x:Tq×Sq)(p:Rs)(y:Tq×Sq)(z:Rs×Nat):Prop where
 r:y.1.r=z.1.r
 le:rem s z.1.r<=rem s p.r
 bad:z.1.r.er=0->p.r.er=0
 fq:FrQ x.1 y.1
 ss:y.1.ss=x.1.ss
 fp:FrP p z.1
 sm:z.1.sm=p.sm
 ok:z.1.r.er=0->Z7 p.ex->∃more,z.1.ex=p.ex++more∧Z7 z.1.ex∧z.2<z.1.ex.length∧y.1.cd=x.1.cd++cod z.1.ex z.2
theorem Zcj(s:ZB)(k:Nat)(ih:∀(x:Tq×Sq) (p:Rs),Ag x.1 p->rem s p.r<k->ZnJ s x p (exprQ s k x) (exprP s k p))(x:Tq×Sq)(p:Rs)(hA:Ag x.1 p)(hk:rem s p.r<=k) :
  ZnJ s x p (termQ s (exprQ s k) x) (termP s (exprP s k) p):=by
 have hr:=hA.r
 unfold termQ termP
 rw[hr]
 by_cases h1:48<=tok s p.r∧tok s p.r<=57
 ·rw[if_pos h1,if_pos h1]
  refine⟨rfl,Qg (ZgF _ _ _) (Zt _ _),λh=>?_,⟨rfl,rfl,rfl,rfl,rfl⟩,rfl,⟨rfl,rfl,rfl⟩,rfl,λh hE=>?_⟩
  ·have:=Zjm _ _ _ h
   rw[Zk]at this
   exact this
  ·refine⟨[_],rfl,hE.add (.inl (.inl rfl)),by simp[nodP],?_⟩
   show x.1.cd++_=x.1.cd++cod (p.ex++[_]) p.ex.length
   rw[Zg9 (.inl rfl)]
   rfl
 ·rw[if_neg h1,if_neg h1]
  by_cases h2:tok s p.r=36
  ·rw[if_pos h2,if_pos h2]
   have e1:tk s (adv s p.r) 36=nx (adv s p.r):=by rw[<-h2];exact Z8 (by omega)
   have ht:=ZK (s:=s) (r:=p.r) (by omega)
   unfold Ziu nodP
   dsimp only
   rw[e1,hA.n]
   refine⟨rfl,Qg (Zci _ _ _ _) (Uf ht),λh=>?_,⟨hA.n.symm,rfl,rfl,rfl,rfl⟩,rfl,⟨rfl,rfl,rfl⟩,rfl,λh hE=>?_⟩
   ·have:=Zea h
    rw[Zdt,Zk]at this
    exact this
   ·refine⟨[_],rfl,hE.add (.inl (.inr (.inr rfl))),by simp,?_⟩
    show x.1.cd++_=x.1.cd++cod (p.ex++[_]) p.ex.length
    rw[Zg9 (.inr (.inr rfl))]
    rfl
  ·rw[if_neg h2,if_neg h2]
   by_cases h3:tok s p.r=40
   ·rw[if_pos h3,if_pos h3]
    have ht:=ZK (s:=s) (r:=p.r) (by omega)
    have hI:=ih ({x.1 with r:=nx (adv s p.r)},x.2) {p with r:=nx (adv s p.r)} ⟨rfl,hA.n,hA.ls,hA.vs⟩ (by show rem s (nx (adv s p.r))<k;omega)
    generalize exprQ s k ({x.1 with r:=nx (adv s p.r)},x.2)=y at *
    generalize exprP s k {p with r:=nx (adv s p.r)}=z at *
    refine⟨by show tk s y.1.r 41=tk s z.1.r 41;rw[hI.r],?_,λh=>?_,⟨hI.fq.n,hI.fq.pn,hI.fq.pr,hI.fq.ls,hI.fq.vs⟩,hI.ss,⟨hI.fp.n,hI.fp.ls,hI.fp.vs⟩,hI.sm,λh hE=>?_⟩
    ·have a:=ZaD s z.1.r 41
     have b:=hI.le
     have c:rem s ({p with r:=nx (adv s p.r)}:Rs).r=rem s (nx (adv s p.r)):=rfl
     show rem s (tk s z.1.r 41)<=_
     omega
    ·have:=hI.bad (ZbD h)
     have:(nx (adv s p.r)).er=0:=this
     rw[Zdt,Zk]at this
     exact this
    ·exact hI.ok (ZbD h) hE
   ·rw[if_neg h3,if_neg h3]
    unfold Ziv nodP
    dsimp only
    rw[Za5,ZdN,hA.ls]
    refine⟨rfl,ZeQ _ _ _,λh=>(Zft h).1,⟨rfl,rfl,rfl,hA.ls.symm,rfl⟩,rfl,⟨rfl,rfl,rfl⟩,rfl,λh hE=>?_⟩
    refine⟨[_],rfl,hE.add (.inl (.inr (.inl rfl))),by simp,?_⟩
    show x.1.cd++_=x.1.cd++cod (p.ex++[_]) p.ex.length
    rw[Zg9 (.inr (.inl rfl))]
    rfl
theorem Zkg(s:ZB)(K:Nat)(tq:Tq×Sq->Tq×Sq)(tp:Rs->Rs×Nat)(hT:∀(x:Tq×Sq) (p:Rs),Ag x.1 p->rem s p.r<=K->ZnJ s x p (tq x) (tp p)) :
  ∀(k:Nat) (x0:Tq×Sq) (p0:Rs) (x:Tq×Sq) (z:Rs×Nat),Ag x0.1 p0->rem s p0.r<=K->ZnJ s x0 p0 x z->ZnJ s x0 p0 (moreQ s tq k x) (moreP s tp k z)
 | 0,x0,p0,x,z,hA,hK,hS=>by
  refine⟨?_,?_,λh=>hS.bad (by rw[<-Zk s];exact h),⟨hS.fq.n,hS.fq.pn,hS.fq.pr,hS.fq.ls,hS.fq.vs⟩,hS.ss,⟨hS.fp.n,hS.fp.ls,hS.fp.vs⟩,hS.sm,λh hE=>?_⟩
  ·show adv s x.1.r=adv s z.1.r
   rw[hS.r]
  ·exact Qg (Zt _ _) hS.le
  ·exact hS.ok (by rw[<-Zk s];exact h) hE
 | k+1,x0,p0,x,z,hA,hK,hS=>by
  simp only[moreQ,moreP]
  rw[hS.r]
  by_cases h0:opOf (tok s z.1.r)=0
  ·rw[if_pos h0,if_pos h0]
   exact⟨rfl,Qg (Zt _ _) hS.le,λh=>hS.bad (by rw[<-Zk s];exact h),⟨hS.fq.n,hS.fq.pn,hS.fq.pr,hS.fq.ls,hS.fq.vs⟩,hS.ss,⟨hS.fp.n,hS.fp.ls,hS.fp.vs⟩,hS.sm,λh hE=>hS.ok (by rw[<-Zk s];exact h) hE⟩
  ·rw[if_neg h0,if_neg h0]
   have hp:=ZbG h0
   have ht:=ZK (s:=s) (r:=z.1.r) hp.1
   have hAz:=hA.go hS.fq hS.fp hS.r
   have hle:=hS.le
   have hI:=hT ({x.1 with r:=nx (adv s z.1.r)},x.2) {z.1 with r:=nx (adv s z.1.r)} ⟨rfl,hAz.n,hAz.ls,hAz.vs⟩ (by show rem s (nx (adv s z.1.r))<=K;omega)
   refine Zkg s K tq tp hT k x0 p0 _ _ hA hK ?_
   generalize opOf (tok s z.1.r)=op at *
   generalize tq ({x.1 with r:=nx (adv s z.1.r)},x.2)=y at *
   generalize tp {z.1 with r:=nx (adv s z.1.r)}=u at *
   have hle2:=hI.le
   have c:rem s ({z.1 with r:=nx (adv s z.1.r)}:Rs).r=rem s (nx (adv s z.1.r)):=rfl
   refine⟨hI.r,by show rem s u.1.r<=_;omega,λh=>?_,?_,hI.ss.trans hS.ss,?_,hI.sm.trans hS.sm,λh hE=>?_⟩
   ·have:=hI.bad h
    have:(nx (adv s z.1.r)).er=0:=this
    rw[Zdt,Zk]at this
    exact hS.bad this
   ·exact hS.fq.trans ⟨hI.fq.n,hI.fq.pn,hI.fq.pr,hI.fq.ls,hI.fq.vs⟩
   ·exact hS.fp.trans ⟨hI.fp.n,hI.fp.ls,hI.fp.vs⟩
   ·have b0:z.1.r.er=0:=by
     have:=hI.bad h
     have:(nx (adv s z.1.r)).er=0:=this
     rw[Zdt,Zk]at this
     exact this
    obtain⟨m1,e1,o1,l1,c1⟩:=hS.ok b0 hE
    obtain⟨m2,e2,o2,l2,c2⟩:=hI.ok h o1
    have e2:u.1.ex=z.1.ex++m2:=e2
    have lz:z.2<u.1.ex.length:=by rw[e2,Qe];omega
    refine⟨m1++m2++[⟨op,0,z.2,u.2⟩],?_,o2.add (.inr ⟨lz,l2⟩),by simp[nodP],?_⟩
    ·show u.1.ex++[_]=_
     rw[e2,e1]
     simp
    ·show y.1.cd++_=x0.1.cd++cod (u.1.ex++[_]) u.1.ex.length
     rw[Zm2 o2 (by show ¬(op=0∨op=1∨op=10);omega) lz l2,c2]
     show x.1.cd++cod u.1.ex u.2++[op,0%256]=_
     rw[c1,show cod u.1.ex z.2=cod z.1.ex z.2 from by rw[e2];exact Zg8 o1 l1]
     rw[show op%256=op from by omega]
     simp
theorem ZbI(s:ZB):∀(k:Nat) (x:Tq×Sq) (p:Rs),Ag x.1 p->rem s p.r<k->ZnJ s x p (exprQ s k x) (exprP s k p)
 | 0,x,p,hA,hk=>by omega
 | k+1,x,p,hA,hk=>by
  simp only[exprQ,exprP]
  exact Zkg s k _ _ (λx p hA hk=>Zcj s k (ZbI s k) x p hA hk) k x p _ _ hA (by omega) (Zcj s k (ZbI s k) x p hA (by omega))
theorem Zco(s:ZB)(x:Tq×Sq)(p:Rs)(hA:Ag x.1 p):ZnJ s x p (exQ s x) (exP s p):=
 ZbI s _ x p hA (by have:=Z1 s p.r;omega)
theorem ZeS(f:Nat->Nat->List Int)(n:Nat):∀(l:List Nat) (pl:Nat),(∀n pl,(f n pl).length%2=0)->ZbL f (l++[n]) pl=ZbL f l pl++f n (pl+(ZbL f l pl).length/2)
 | [],pl,he=>by simp[ZbL]
 | m::l,pl,he=>by
  simp only[ZbL,Uj]
  rw[ZeS f n l _ he,QE]
  congr 2
  rw[Qe]
  have h1:=he m pl
  congr 1
  omega
theorem ZcA(f:Nat->Nat->List Int)(he:∀n pl,(f n pl).length%2=0):∀(l:List Nat) (pl:Nat),(ZbL f l pl).length%2=0
 | [],pl=>rfl
 | m::l,pl=>by
  simp only[ZbL,Qe]
  have h1:=he m pl
  have h2:=ZcA f he l (pl+(f m pl).length/2)
  omega
theorem Zbp{f g:Nat->Nat->List Int}:∀(l:List Nat) (pl:Nat),(∀n,n∈l->∀pl,f n pl=g n pl)->ZbL f l pl=ZbL g l pl
 | [],pl,h=>rfl
 | m::l,pl,h=>by
  simp only[ZbL]
  rw[h m (by simp) pl,Zbp l _ (λn hn=>h n (by simp[hn]))]
theorem Zjn(ex:List Ex)(sm:List Sm):∀k n pl,(onF ex sm k n pl).length%2=0
 | 0,n,pl=>rfl
 | k+1,n,pl=>by
  simp only[onF]
  split
  ·rfl
  ·rename_i x _
   have h0:=Zbk ex x.e
   have h1:=ZcA _ (Zjn ex sm k) x.bo (pl+(cod ex x.e).length/2+1)
   have h2:=ZcA _ (Zjn ex sm k) x.el (pl+(cod ex x.e).length/2+1+(ZbL (onF ex sm k) x.bo (pl+(cod ex x.e).length/2+1)).length/2+1)
   split
   ·simp only[Qe,Qt,Qy];omega
   ·split
    ·simp only[Qe,Qt,Qy];omega
    ·split
     ·simp only[Qe,Qt,Qy];omega
     ·split
      ·simp only[Qe,Qt,Qy];omega
      ·simp only[Qe,Qt,Qy];omega
def ZaQ(ex:List Ex)(sm:List Sm):Prop:=∀(n:Nat) (x:Sm),sm[n]?=some x->x.e<ex.length∧(∀m,m∈x.bo->m<n)∧(∀m,m∈x.el->m<n)
theorem ZaQ.more{ex:List Ex}{sm:List Sm}(h:ZaQ ex sm)(m:List Ex):ZaQ (ex++m) sm:=λn x hx=>⟨by have:=(h n x hx).1;rw[Qe];omega,(h n x hx).2⟩
theorem ZaQ.add{ex:List Ex}{sm:List Sm}(h:ZaQ ex sm){x:Sm}(he:x.e<ex.length)(hb:∀m,m∈x.bo->m<sm.length)(hl:∀m,m∈x.el->m<sm.length):ZaQ ex (sm++[x]):=by
 intro n y hy
 by_cases hn:n<sm.length
 ·rw[QD hn]at hy
  exact h n y hy
 ·rw[QF (by omega)]at hy
  have e0:n-sm.length=0:=by
   cases k:n-sm.length with
   | zero=>rfl
   | succ j=>rw[k]at hy;simp at hy
  rw[e0]at hy
  simp at hy
  subst hy
  have:n=sm.length:=by omega
  rw[this]
  exact⟨he,hb,hl⟩
theorem Zic{ex me:List Ex}{sm ms:List Sm}(hE:Z7 ex)(hS:ZaQ ex sm):∀(k n k' pl:Nat),n<sm.length->n<k->n<k'->onF (ex++me) (sm++ms) k n pl=onF ex sm k' n pl
 | 0,n,k',pl,_,h1,_=>by omega
 | k+1,n,0,pl,_,_,h1=>by omega
 | k+1,n,k'+1,pl,h0,h1,h2=>by
  simp only[onF]
  rw[QD h0]
  obtain⟨x,hx⟩:∃x,sm[n]?=some x:=⟨sm[n],Qn h0⟩
  obtain⟨o1,o2,o3⟩:=hS n x hx
  rw[hx]
  dsimp only
  rw[Zg8 hE o1]
  have hb:∀pl,ZbL (onF (ex++me) (sm++ms) k) x.bo pl=ZbL (onF ex sm k') x.bo pl:=λpl=>Zbp _ _ λm hm p=>Zic hE hS k m k' p (by have:=o2 m hm;omega) (by have:=o2 m hm;omega) (by have:=o2 m hm;omega)
  have hl:∀pl,ZbL (onF (ex++me) (sm++ms) k) x.el pl=ZbL (onF ex sm k') x.el pl:=λpl=>Zbp _ _ λm hm p=>Zic hE hS k m k' p (by have:=o3 m hm;omega) (by have:=o3 m hm;omega) (by have:=o3 m hm;omega)
  rw[hb,hl]
def one(ex:List Ex)(sm:List Sm)(n pl:Nat):List Int:=onF ex sm (n+1) n pl
def als(ex:List Ex)(sm:List Sm)(l:List Nat)(pl:Nat):List Int:=ZbL (one ex sm) l pl
theorem Zc0(ex:List Ex)(sm:List Sm)(n pl:Nat):(one ex sm n pl).length%2=0:=Zjn _ _ _ _ _
theorem ZaT(ex:List Ex)(sm:List Sm)(l:List Nat)(pl:Nat):(als ex sm l pl).length%2=0:=ZcA _ (Zc0 ex sm) _ _
theorem Zqx{ex me:List Ex}{sm ms:List Sm}(hE:Z7 ex)(hS:ZaQ ex sm)(hn:n<sm.length):one (ex++me) (sm++ms) n pl=one ex sm n pl:=
 Zic hE hS _ _ _ _ hn (by omega) (by omega)
theorem Zqy{ex me:List Ex}{sm ms:List Sm}{l:List Nat}(hE:Z7 ex)(hS:ZaQ ex sm)(hn:∀n,n∈l->n<sm.length):als (ex++me) (sm++ms) l pl=als ex sm l pl:=
 Zbp _ _ λn h p=>Zqx hE hS (hn n h)
theorem Zjo{ex:List Ex}{sm:List Sm}{l:List Nat}(hE:Z7 ex)(hS:ZaQ ex sm)(hn:∀n,n∈l->n<sm.length∧n<k):ZbL (onF ex sm k) l pl=als ex sm l pl:=
 Zbp _ _ λn h p=>by
  have:=Zic (me:=[]) (ms:=[]) hE hS k n (n+1) p (hn n h).1 (hn n h).2 (by omega)
  rw[QS,QS]at this
  exact this
theorem Zfu{ex:List Ex}{sm:List Sm}{x:Sm}(hE:Z7 ex)(hS:ZaQ ex sm)(he:x.e<ex.length)(hb:∀m,m∈x.bo->m<sm.length)(hl:∀m,m∈x.el->m<sm.length) :
  one ex (sm++[x]) sm.length pl =
   (let e:=cod ex x.e
   if x.k=61 then e++[2,x.v%256]
   else if x.k=62 then e++[11,x.v%256]
   else
    let fr:=pl+e.length/2+1
    let body:=als ex sm x.bo fr
    let th:=fr+body.length/2
    if x.k=64 then e++[9,((th+1:Nat):Int)%256]++body++[8,(pl:Int)%256]
    else if x.two=false then e++[9,(th:Int)%256]++body
    else
     let other:=als ex sm x.el (th+1)
     e++[9,((th+1:Nat):Int)%256]++body++[8,((th+1+other.length/2:Nat):Int)%256]++other):=by
 unfold one
 rw[onF]
 rw[QF (Qb _)]
 simp only[Nat.sub_self,List.getElem?_cons_zero]
 have h1:∀(l:List Nat) (pl:Nat),(∀m,m∈l->m<sm.length)->ZbL (onF ex (sm++[x]) sm.length) l pl=als ex sm l pl:=λl pl hl=>Zbp _ _ λn h p=>by
  have:=Zic (me:=[]) (ms:=[x]) hE hS sm.length n (n+1) p (hl n h) (hl n h) (by omega)
  rw[QS]at this
  exact this
 simp only[h1 x.bo _ hb,h1 x.el _ hl]
structure ZdZ(s:ZB)(q:Tq)(p:Rs)(y:Tq)(z:Rs):Prop where
 r:y.r=z.r
 le:rem s z.r<=rem s p.r
 bad:z.r.er=0->p.r.er=0
 fq:FrQ q y
 fp:FrP p z
theorem ZdZ.trans{q:Tq}{p:Rs}{y:Tq}{z:Rs}{y':Tq}{z':Rs}(h:ZdZ s q p y z)(k:ZdZ s y z y' z'):ZdZ s q p y' z':=
 ⟨k.r,Qg k.le h.le,λe=>h.bad (k.bad e),h.fq.trans k.fq,h.fp.trans k.fp⟩
structure Mo(p z:Rs):Prop where
 ex:∃m,z.ex=p.ex++m
 sm:∃m,z.sm=p.sm++m
 oe:Z7 z.ex
 os:ZaQ z.ex z.sm
theorem Mo.trans{p z u:Rs}(h:Mo p z)(k:Mo z u):Mo p u:=by
 obtain⟨m1,e1⟩:=h.ex
 obtain⟨m2,e2⟩:=k.ex
 obtain⟨m3,e3⟩:=h.sm
 obtain⟨m4,e4⟩:=k.sm
 exact⟨⟨m1++m2,by rw[e2,e1,QE]⟩,⟨m3++m4,by rw[e4,e3,QE]⟩,k.oe,k.os⟩
theorem Mo.lt{p z:Rs}(h:Mo p z)(hn:n<p.sm.length):n<z.sm.length:=by
 obtain⟨m,e⟩:=h.sm
 rw[e,Qe];omega
theorem Mo.lte{p z:Rs}(h:Mo p z)(hn:n<p.ex.length):n<z.ex.length:=by
 obtain⟨m,e⟩:=h.ex
 rw[e,Qe];omega
theorem Mo.all{p z:Rs}(h:Mo p z)(hE:Z7 p.ex)(hS:ZaQ p.ex p.sm){l:List Nat}(hl:∀n,n∈l->n<p.sm.length)(pl:Nat):Go.Proofs.YtcnbifdlkalimabGreat.als z.ex z.sm l pl=Go.Proofs.YtcnbifdlkalimabGreat.als p.ex p.sm l pl:=by
 obtain⟨m1,e1⟩:=h.ex
 obtain⟨m3,e3⟩:=h.sm
 rw[e1,e3]
 exact Zqy hE hS hl
theorem Mo.cod{p z:Rs}(h:Mo p z)(hE:Z7 p.ex)(hn:n<p.ex.length):Go.Proofs.YtcnbifdlkalimabGreat.cod z.ex n=Go.Proofs.YtcnbifdlkalimabGreat.cod p.ex n:=by
 obtain⟨m1,e1⟩:=h.ex
 rw[e1]
 exact Zg8 hE hn
def ZlJ(q:Tq)(p:Rs)(y:Tq)(z:Rs×Nat):Prop:=
 z.1.r.er=0->Z7 p.ex->ZaQ p.ex p.sm->q.cd.length%2=0->Mo p z.1∧z.2<z.1.sm.length∧y.cd=q.cd++one z.1.ex z.1.sm z.2 (q.cd.length/2)
def Zrg(q:Tq)(p:Rs)(y:Tq)(z:Rs×List Nat):Prop:=
 z.1.r.er=0->Z7 p.ex->ZaQ p.ex p.sm->q.cd.length%2=0->Mo p z.1∧(∀n,n∈z.2->n<z.1.sm.length)∧y.cd=q.cd++als z.1.ex z.1.sm z.2 (q.cd.length/2)
theorem Zkh{ex:Tq×Sq->Tq×Sq}{x:Tq×Sq}(h:x.1.r.er≠0):(termQ s ex x).1.r=x.1.r:=by
 unfold termQ
 rw[Zd3 h,if_neg (by omega),if_neg (by omega),if_neg (by omega)]
 show varR s (adv s x.1.r) x.1.ls=x.1.r
 rw[Za5]
 exact Zg7 h
theorem ZoH{tm:Tq×Sq->Tq×Sq}{x:Tq×Sq}(h:x.1.r.er≠0):∀k,(moreQ s tm k x).1.r=x.1.r
 | 0=>Zz h
 | k+1=>by
  simp only[moreQ]
  rw[Zd3 h,if_pos (by rfl)]
  exact Zz h
theorem ZoI{x:Tq×Sq}(h:x.1.r.er≠0):∀k,(exprQ s k x).1.r=x.1.r
 | 0=>rfl
 | k+1=>by
  simp only[exprQ]
  rw[ZoH (by rw[Zkh h];exact h),Zkh h]
theorem ZrN{x:Tq×Sq}(h:x.1.r.er≠0):(exQ s x).1.r=x.1.r:=ZoI h _
theorem Zsz(s:ZB)(x:Tq×Sq):FrQ x.1 (exQ s x).1:=(Zco s x ⟨x.1.r,x.1.n,x.1.ls,x.1.vs,[],[]⟩ ⟨rfl,rfl,rfl,rfl⟩).fq
theorem ZdO{ou:Int}{q:Tq}(h:isS (tok s q.r)=false):(stmQ s (k+1) ou q).r=rfs (adv s q.r) 11∧FrQ q (stmQ s (k+1) ou q):=by
 unfold isS at h
 simp only[Bool.or_eq_false_iff,Qf]at h
 obtain⟨⟨⟨h1,h2⟩,h3⟩,h4⟩:=h
 simp only[stmQ]
 rw[if_neg h2,if_neg h3,if_neg h4]
 have e1:varR s (adv s q.r) q.ls=rfs (adv s q.r) 11:=by
  unfold varR Zbn ZaW
  rw[Zp,h1,ZY]
  simp
 have hb:(rfs (adv s q.r) 11).er≠0:=Zan (by omega)
 unfold ZkB
 dsimp only
 rw[e1,Zc5 hb]
 have hF:=Zsz s ({q with r:=rfs (adv s q.r) 11},{k:=1,pl:=(adv s q.r).a,ou:=ou,ta:=lvOf {q with r:=adv s q.r} (varI s (adv s q.r) q.ls),rd:=none6,tp:=none6})
 have hR:=ZrN (s:=s) (x:=({q with r:=rfs (adv s q.r) 11},{k:=1,pl:=(adv s q.r).a,ou:=ou,ta:=lvOf {q with r:=adv s q.r} (varI s (adv s q.r) q.ls),rd:=none6,tp:=none6})) hb
 refine⟨?_,⟨hF.n,hF.pn,hF.pr,hF.ls,hF.vs⟩⟩
 show tk s (exQ s _).1.r 59=_
 rw[hR]
 exact Zc5 hb
structure ZsD(s:ZB)(q0:Tq)(p0:Rs)(y:Tq)(z:Rs×List Nat):Prop where
 e:y.r=z.1.r∨(z.1.r.er=0∧isS (tok s z.1.r)=false∧tok s z.1.r≠125∧y.r=rfs (adv s z.1.r) 11)
 le:rem s z.1.r<=rem s p0.r
 bad:z.1.r.er=0->p0.r.er=0
 fq:FrQ q0 y
 fp:FrP p0 z.1
 ok:y.r=z.1.r->Zrg q0 p0 y z
theorem Zha(s:ZB)(K:Nat)(ou:Int)(ih:∀(q:Tq) (p:Rs),Ag q p->rem s p.r<K+1->ZdZ s q p (stmQ s (K+1) ou q) (stmP s (K+1) p).1∧ZlJ q p (stmQ s (K+1) ou q) (stmP s (K+1) p)) :
  ∀(k:Nat) (q0:Tq) (p0:Rs) (q:Tq) (p:Rs) (l:List Nat),Ag q0 p0->rem s p0.r<K+1->ZdZ s q0 p0 q p->Zrg q0 p0 q (p,l)->ZsD s q0 p0 (loopQ s (stmQ s (K+1) ou) k q) (loopP s (stmP s (K+1)) k p l)
 | 0,q0,p0,q,p,l,hA,hK,hS,hL=>by
  refine⟨.inl (by show adv s q.r=adv s p.r;rw[hS.r]),Qg (Zt _ _) hS.le,λh=>hS.bad (by rw[<-Zk s];exact h),⟨hS.fq.n,hS.fq.pn,hS.fq.pr,hS.fq.ls,hS.fq.vs⟩,⟨hS.fp.n,hS.fp.ls,hS.fp.vs⟩,λ_ h hE hM hc=>?_⟩
  obtain⟨M,a,b⟩:=hL (by rw[<-Zk s];exact h) hE hM hc
  exact⟨⟨M.ex,M.sm,M.oe,M.os⟩,a,b⟩
 | k+1,q0,p0,q,p,l,hA,hK,hS,hL=>by
  simp only[loopQ,loopP]
  rw[hS.r]
  cases h:isS (tok s p.r) with
  | true=>
   have hn:tok s p.r≠0∧tok s p.r≠125:=by
    unfold isS isL at h
    simp only[QJ,decide_eq_true_eq,QL]at h
    omega
   have he:=(Z5 hn.1).1
   rw[if_pos ⟨he,hn.2⟩,if_pos rfl]
   have hA1:=hA.go hS.fq hS.fp hS.r
   have hle:=hS.le
   have hrd:=Zt s p.r
   obtain⟨h1,h2⟩:=ih {q with r:=adv s p.r} {p with r:=adv s p.r} ⟨rfl,hA1.n,hA1.ls,hA1.vs⟩ (by show rem s (adv s p.r)<_;omega)
   refine Zha s K ou ih k q0 p0 _ _ _ hA hK (hS.trans ⟨h1.r,Qg h1.le hrd,λe=>by have:=h1.bad e;exact he,⟨h1.fq.n,h1.fq.pn,h1.fq.pr,h1.fq.ls,h1.fq.vs⟩,⟨h1.fp.n,h1.fp.ls,h1.fp.vs⟩⟩) ?_
   intro h hE hM hc
   generalize stmQ s (K+1) ou {q with r:=adv s p.r}=y at *
   generalize stmP s (K+1) {p with r:=adv s p.r}=z at *
   obtain⟨M,a,b⟩:=hL he hE hM hc
   have hcq:q.cd.length%2=0:=by
    have:(q.cd).length=(q0.cd++als p.ex p.sm l (q0.cd.length/2)).length:=congrArg List.length b
    rw[Qe]at this
    have:=ZaT p.ex p.sm l (q0.cd.length/2)
    omega
   obtain⟨M2,a2,b2⟩:=h2 h M.oe M.os hcq
   have M2:Mo p z.1:=⟨M2.ex,M2.sm,M2.oe,M2.os⟩
   have b2:y.cd=q.cd++one z.1.ex z.1.sm z.2 (q.cd.length/2):=b2
   have b:q.cd=q0.cd++als p.ex p.sm l (q0.cd.length/2):=b
   refine⟨M.trans M2,λn hn=>?_,?_⟩
   ·rw[QI,QA]at hn
    rcases hn with hn|hn
    ·exact M2.lt (a n hn)
    ·rw[hn];exact a2
   ·rw[b2]
    show _=q0.cd++ZbL (one z.1.ex z.1.sm) (l++[z.2]) (q0.cd.length/2)
    rw[ZeS _ _ _ _ (Zc0 _ _)]
    have e1:ZbL (one z.1.ex z.1.sm) l (q0.cd.length/2)=als p.ex p.sm l (q0.cd.length/2):=M2.all M.oe M.os a _
    rw[e1]
    have hl2:q.cd.length/2=q0.cd.length/2+(als p.ex p.sm l (q0.cd.length/2)).length/2:=by
     have h1:=ZaT p.ex p.sm l (q0.cd.length/2)
     rw[b,Qe]
     omega
    rw[hl2,b,QE]
  | false=>
   rw[if_neg (show ¬(false=true) from by simp)]
   by_cases hq:p.r.er=0∧tok s p.r≠125
   ·rw[if_pos hq]
    have hd:=ZdO (s:=s) (k:=K) (ou:=ou) (q:={q with r:=adv s p.r}) (by show isS (tok s (adv s p.r))=false;rw[Zp];exact h)
    have hr:(stmQ s (K+1) ou {q with r:=adv s p.r}).r=rfs (adv s p.r) 11:=by rw[hd.1];show rfs (adv s (adv s p.r)) 11=_;rw[ZY]
    have hb:(rfs (adv s p.r) 11).er≠0:=Zan (by omega)
    generalize stmQ s (K+1) ou {q with r:=adv s p.r}=y at *
    have hy:loopQ s (stmQ s (K+1) ou) k y=y:=by
     cases k with
     | zero=>simp only[loopQ];rw[Zz (by rw[hr];exact hb)]
     | succ k=>simp only[loopQ];rw[if_neg (λc=>hb (by rw[<-hr];exact c.1)),Zz (by rw[hr];exact hb)]
    rw[hy]
    have hfq:FrQ q y:=⟨hd.2.n,hd.2.pn,hd.2.pr,hd.2.ls,hd.2.vs⟩
    refine⟨.inr ⟨by show (adv s p.r).er=0;rw[Zk];exact hq.1,by show isS (tok s (adv s p.r))=false;rw[Zp];exact h,by show tok s (adv s p.r)≠125;rw[Zp];exact hq.2,by show y.r=rfs (adv s (adv s p.r)) 11;rw[ZY];exact hr⟩,Qg (Zt _ _) hS.le,λh=>hS.bad hq.1,hS.fq.trans hfq,⟨hS.fp.n,hS.fp.ls,hS.fp.vs⟩,λe=>?_⟩
    exfalso
    have e:y.r=adv s p.r:=e
    rw[hr]at e
    have:=congrArg Rd.er e
    rw[Zk,hq.1]at this
    exact hb this
   ·rw[if_neg hq]
    refine⟨.inl rfl,Qg (Zt _ _) hS.le,λh=>hS.bad (by rw[<-Zk s];exact h),⟨hS.fq.n,hS.fq.pn,hS.fq.pr,hS.fq.ls,hS.fq.vs⟩,⟨hS.fp.n,hS.fp.ls,hS.fp.vs⟩,λ_ h hE hM hc=>?_⟩
    obtain⟨M,a,b⟩:=hL (by rw[<-Zk s];exact h) hE hM hc
    exact⟨⟨M.ex,M.sm,M.oe,M.os⟩,a,b⟩
theorem ZdZ.refl{q:Tq}{p:Rs}(h:q.r=p.r):ZdZ s q p q p:=⟨h,Qb _,λe=>e,FrQ.refl _,FrP.refl _⟩
theorem Zeb(s:ZB)(K:Nat)(ou:Int)(ih:∀(q:Tq) (p:Rs),Ag q p->rem s p.r<K+1->ZdZ s q p (stmQ s (K+1) ou q) (stmP s (K+1) p).1∧ZlJ q p (stmQ s (K+1) ou q) (stmP s (K+1) p))(k:Nat)(q:Tq)(p:Rs)(hA:Ag q p)(hK:rem s p.r<K+1) :
  ZdZ s q p (blkQ s (stmQ s (K+1) ou) k q) (blkP s (stmP s (K+1)) k p).1∧Zrg q p (blkQ s (stmQ s (K+1) ou) k q) (blkP s (stmP s (K+1)) k p):=by
 have hr:=hA.r
 unfold blkQ blkP
 rw[hr]
 have hk:=ZaD s p.r 123
 have hl:=Zha s K ou ih k {q with r:=tk s p.r 123} {p with r:=tk s p.r 123} {q with r:=tk s p.r 123} {p with r:=tk s p.r 123} [] ⟨rfl,hA.n,hA.ls,hA.vs⟩ (by show rem s (tk s p.r 123)<_;omega) (ZdZ.refl rfl) (λ_ hE hM _=>⟨⟨⟨[],by simp⟩,⟨[],by simp⟩,hE,hM⟩,λn hn=>by simp at hn,by simp[als,ZbL]⟩)
 generalize loopQ s (stmQ s (K+1) ou) k {q with r:=tk s p.r 123}=y at *
 generalize loopP s (stmP s (K+1)) k {p with r:=tk s p.r 123} []=z at *
 have he:tk s y.r 125=tk s z.1.r 125:=by
  rcases hl.e with e|⟨e1,e2,e3,e4⟩
  ·rw[e]
  ·rw[e4,Zc5 (Zan (by omega))]
   unfold tk Zbn
   rw[if_neg (by rw[QL];exact e3)]
 have hok:(tk s z.1.r 125).er=0->y.r=z.1.r:=by
  intro h
  rcases hl.e with e|⟨e1,e2,e3,e4⟩
  ·exact e
  ·have:=(Zcz (by omega) h).2
   rw[QL]at this
   exact absurd this e3
 have hle:=hl.le
 have hrk:=ZaD s z.1.r 125
 have c:rem s ({p with r:=tk s p.r 123}:Rs).r=rem s (tk s p.r 123):=rfl
 refine⟨⟨he,by show rem s (tk s z.1.r 125)<=_;omega,λh=>ZbD (hl.bad (ZbD h)),⟨hl.fq.n,hl.fq.pn,hl.fq.pr,hl.fq.ls,hl.fq.vs⟩,⟨hl.fp.n,hl.fp.ls,hl.fp.vs⟩⟩,λh hE hM hc=>?_⟩
 obtain⟨M,a,b⟩:=hl.ok (hok h) (ZbD h) hE hM hc
 exact⟨⟨M.ex,M.sm,M.oe,M.os⟩,a,b⟩
theorem Zhb(A B:List Int)(a b v:Int)(i:Nat)(hi:i=A.length+1):(A++[a,b]++B).set i v=A++[a,v]++B:=by
 subst hi
 rw[QE,List.set_append_right _ _ (by omega),show A.length+1-A.length=1 from by omega,QE]
 rfl
theorem Zm3(s:ZB)(q:Tq)(p:Rs)(x:Sq)(a:Nat)(hA:Ag q p):ZdZ s q p (ZkB s q x) (ZnH s p a).1∧ZlJ q p (ZkB s q x) (ZnH s p a):=by
 unfold ZkB ZnH
 dsimp only
 rw[hA.r,hA.ls]
 have h1:=ZeQ s p.r p.ls
 have h2:=ZaD s (varR s p.r p.ls) 61
 have hI:=Zco s ({q with r:=tk s (varR s p.r p.ls) 61,ls:=p.ls},{x with k:=1,ta:=lvOf {q with ls:=p.ls} (varI s p.r p.ls)}) {p with r:=tk s (varR s p.r p.ls) 61} ⟨rfl,hA.n,rfl,hA.vs⟩
 rw[show lvOf {q with ls:=p.ls} (varI s p.r p.ls)=lvOf q (varI s p.r p.ls) from rfl]at hI
 generalize exQ s ({q with r:=tk s (varR s p.r p.ls) 61,ls:=p.ls},{x with k:=1,ta:=lvOf q (varI s p.r p.ls)})=y at *
 generalize exP s {p with r:=tk s (varR s p.r p.ls) 61}=z at *
 have h3:=ZaD s z.1.r 59
 have h4:=hI.le
 have c:rem s ({p with r:=tk s (varR s p.r p.ls) 61}:Rs).r=rem s (tk s (varR s p.r p.ls) 61):=rfl
 refine⟨⟨by show tk s y.1.r 59=tk s z.1.r 59;rw[hI.r],by show rem s (tk s z.1.r 59)<=_;omega,λh=>(Zft (ZbD (hI.bad (ZbD h)))).1,⟨hI.fq.n,hI.fq.pn,hI.fq.pr,by show y.1.ls=_;rw[hI.fq.ls];exact hA.ls.symm,hI.fq.vs⟩,⟨hI.fp.n,hI.fp.ls,hI.fp.vs⟩⟩,λh hE hM hc=>?_⟩
 obtain⟨m,e1,o1,l1,c1⟩:=hI.ok (ZbD h) hE
 have es:z.1.sm=p.sm:=hI.sm
 have hM1:ZaQ z.1.ex z.1.sm:=by rw[es,e1];exact hM.more m
 refine⟨⟨⟨m,e1⟩,⟨[_],by show z.1.sm++[_]=p.sm++_;rw[es]⟩,o1,hM1.add l1 (by simp) (by simp)⟩,by simp[ZeC],?_⟩
 show y.1.cd++_=q.cd++one z.1.ex (z.1.sm++[_]) z.1.sm.length _
 rw[Zfu o1 hM1 l1 (by simp) (by simp),c1]
 simp
theorem Zm4(s:ZB)(q:Tq)(p:Rs)(x:Sq)(a:Nat)(hA:Ag q p):ZdZ s q p (ZlA s q x) (ZnI s p a).1∧ZlJ q p (ZlA s q x) (ZnI s p a):=by
 unfold ZlA ZnI
 dsimp only
 rw[hA.r,hA.n]
 have h1:=Zci s (tk s p.r 62) 0 (p.n-1)
 have h2:=ZaD s p.r 62
 have hI:=Zco s ({q with r:=digR s (tk s p.r 62) 0 (p.n-1),n:=p.n},{x with k:=2,ta:=dig s (tk s p.r 62) 0 (p.n-1)}) {p with r:=digR s (tk s p.r 62) 0 (p.n-1)} ⟨rfl,rfl,hA.ls,hA.vs⟩
 generalize exQ s ({q with r:=digR s (tk s p.r 62) 0 (p.n-1),n:=p.n},{x with k:=2,ta:=dig s (tk s p.r 62) 0 (p.n-1)})=y at *
 generalize exP s {p with r:=digR s (tk s p.r 62) 0 (p.n-1)}=z at *
 have h3:=ZaD s z.1.r 59
 have h4:=hI.le
 have c:rem s ({p with r:=digR s (tk s p.r 62) 0 (p.n-1)}:Rs).r=rem s (digR s (tk s p.r 62) 0 (p.n-1)):=rfl
 refine⟨⟨by show tk s y.1.r 59=tk s z.1.r 59;rw[hI.r],by show rem s (tk s z.1.r 59)<=_;omega,λh=>ZbD (Zea (hI.bad (ZbD h))),⟨by show y.1.n=_;rw[hI.fq.n];exact hA.n.symm,hI.fq.pn,hI.fq.pr,hI.fq.ls,hI.fq.vs⟩,⟨hI.fp.n,hI.fp.ls,hI.fp.vs⟩⟩,λh hE hM hc=>?_⟩
 obtain⟨m,e1,o1,l1,c1⟩:=hI.ok (ZbD h) hE
 have es:z.1.sm=p.sm:=hI.sm
 have hM1:ZaQ z.1.ex z.1.sm:=by rw[es,e1];exact hM.more m
 refine⟨⟨⟨m,e1⟩,⟨[_],by show z.1.sm++[_]=p.sm++_;rw[es]⟩,o1,hM1.add l1 (by simp) (by simp)⟩,by simp[ZeC],?_⟩
 show y.1.cd++_=q.cd++one z.1.ex (z.1.sm++[_]) z.1.sm.length _
 rw[Zfu o1 hM1 l1 (by simp) (by simp),c1]
 simp
theorem Zhc(s:ZB)(K:Nat)(ih:∀(ou:Int) (q:Tq) (p:Rs),Ag q p->rem s p.r<K+1->ZdZ s q p (stmQ s (K+1) ou q) (stmP s (K+1) p).1∧ZlJ q p (stmQ s (K+1) ou q) (stmP s (K+1) p))(q:Tq)(p:Rs)(x:Sq)(ch:Int)(hA:Ag q p)(hK:rem s (tk s p.r ch)<K+1)(y:Tq×Sq)(z:Rs×Nat)
  (hy:exQ s ({q with r:=tk s p.r ch},x)=y) (hz:exP s {p with r:=tk s p.r ch}=z) :
  ZdZ s q p (blkQ s (stmQ s (K+1) y.1.ss.length) (K+1) (emitQ (addQ y.1 y.2) 9 0)) (blkP s (stmP s (K+1)) (K+1) z.1).1∧
  ((blkP s (stmP s (K+1)) (K+1) z.1).1.r.er=0->Z7 p.ex->ZaQ p.ex p.sm->q.cd.length%2=0->Mo p (blkP s (stmP s (K+1)) (K+1) z.1).1∧(∀n,n∈(blkP s (stmP s (K+1)) (K+1) z.1).2->n<(blkP s (stmP s (K+1)) (K+1) z.1).1.sm.length)∧z.2<(blkP s (stmP s (K+1)) (K+1) z.1).1.ex.length∧
   (plQ y.1=q.cd.length/2+(cod (blkP s (stmP s (K+1)) (K+1) z.1).1.ex z.2).length/2)∧
   (blkQ s (stmQ s (K+1) y.1.ss.length) (K+1) (emitQ (addQ y.1 y.2) 9 0)).cd=q.cd++cod (blkP s (stmP s (K+1)) (K+1) z.1).1.ex z.2++[9,0]++als (blkP s (stmP s (K+1)) (K+1) z.1).1.ex (blkP s (stmP s (K+1)) (K+1) z.1).1.sm (blkP s (stmP s (K+1)) (K+1) z.1).2 (q.cd.length/2+(cod (blkP s (stmP s (K+1)) (K+1) z.1).1.ex z.2).length/2+1)):=by
 have hI:=Zco s ({q with r:=tk s p.r ch},x) {p with r:=tk s p.r ch} ⟨rfl,hA.n,hA.ls,hA.vs⟩
 rw[hy,hz]at hI
 have c:rem s ({p with r:=tk s p.r ch}:Rs).r=rem s (tk s p.r ch):=rfl
 have h4:=hI.le
 have hr:=ZaD s p.r ch
 have hA1:Ag (emitQ (addQ y.1 y.2) 9 0) z.1:=⟨hI.r,by show y.1.n=_;rw[hI.fq.n,hI.fp.n];exact hA.n,by show y.1.ls=_;rw[hI.fq.ls,hI.fp.ls];exact hA.ls,by show y.1.vs=_;rw[hI.fq.vs,hI.fp.vs];exact hA.vs⟩
 obtain⟨hB,hB2⟩:=Zeb s K y.1.ss.length (ih _) (K+1) (emitQ (addQ y.1 y.2) 9 0) z.1 hA1 (by omega)
 generalize blkQ s (stmQ s (K+1) y.1.ss.length) (K+1) (emitQ (addQ y.1 y.2) 9 0)=u at *
 generalize blkP s (stmP s (K+1)) (K+1) z.1=v at *
 have h5:=hB.le
 refine⟨⟨hB.r,by omega,λh=>ZbD (hI.bad (hB.bad h)),⟨by rw[hB.fq.n];exact hI.fq.n,by rw[hB.fq.pn];exact hI.fq.pn,by rw[hB.fq.pr];exact hI.fq.pr,by rw[hB.fq.ls];exact hI.fq.ls,by rw[hB.fq.vs];exact hI.fq.vs⟩,⟨by rw[hB.fp.n];exact hI.fp.n,by rw[hB.fp.ls];exact hI.fp.ls,by rw[hB.fp.vs];exact hI.fp.vs⟩⟩,λh hE hM hc=>?_⟩
 obtain⟨m,e1,o1,l1,c1⟩:=hI.ok (hB.bad h) hE
 have es:z.1.sm=p.sm:=hI.sm
 have e1:z.1.ex=p.ex++m:=e1
 have hM1:ZaQ z.1.ex z.1.sm:=by rw[es,e1];exact hM.more m
 have c1:y.1.cd=q.cd++cod z.1.ex z.2:=c1
 have ev:=Zbk z.1.ex z.2
 have ce:(emitQ (addQ y.1 y.2) 9 0).cd=q.cd++cod z.1.ex z.2++[9,0]:=by show y.1.cd++[9,0%256]=_;rw[c1];rfl
 have cl:(emitQ (addQ y.1 y.2) 9 0).cd.length=q.cd.length+(cod z.1.ex z.2).length+2:=by rw[ce];simp only[Qe,Qt,Qy]
 obtain⟨M,a1,b1⟩:=hB2 h o1 hM1 (by omega)
 have ec:cod v.1.ex z.2=cod z.1.ex z.2:=M.cod o1 l1
 rw[ec]
 refine⟨Mo.trans ⟨⟨m,e1⟩,⟨[],by rw[es];simp⟩,o1,hM1⟩ M,a1,M.lte l1,?_,?_⟩
 ·unfold plQ
  rw[c1,Qe]
  omega
 ·rw[b1,show (emitQ (addQ y.1 y.2) 9 0).cd.length/2=q.cd.length/2+(cod z.1.ex z.2).length/2+1 from by omega,ce]
theorem Zqz(s:ZB)(K:Nat)(ih:∀(ou:Int) (q:Tq) (p:Rs),Ag q p->rem s p.r<K+1->ZdZ s q p (stmQ s (K+1) ou q) (stmP s (K+1) p).1∧ZlJ q p (stmQ s (K+1) ou q) (stmP s (K+1) p))(q:Tq)(p:Rs)(x:Sq)(a:Nat)(hA:Ag q p)(hK:rem s (tk s p.r 64)<K+1) :
  ZdZ s q p (ZkD s (stmQ s (K+1)) (K+1) q x) (ZnE s (stmP s (K+1)) (K+1) p a).1∧ZlJ q p (ZkD s (stmQ s (K+1)) (K+1) q x) (ZnE s (stmP s (K+1)) (K+1) p a):=by
 have hP:=Zhc s K ih q p {x with k:=4} 64 hA hK _ _ rfl rfl
 unfold ZkD ZnE
 dsimp only
 rw[hA.r]
 generalize exQ s ({q with r:=tk s p.r 64},{x with k:=4})=y at *
 generalize exP s {p with r:=tk s p.r 64}=z at *
 generalize blkQ s (stmQ s (K+1) y.1.ss.length) (K+1) (emitQ (addQ y.1 y.2) 9 0)=u at *
 generalize blkP s (stmP s (K+1)) (K+1) z.1=v at *
 obtain⟨hB,hB2⟩:=hP
 refine⟨⟨hB.r,hB.le,hB.bad,⟨hB.fq.n,hB.fq.pn,hB.fq.pr,hB.fq.ls,hB.fq.vs⟩,⟨hB.fp.n,hB.fp.ls,hB.fp.vs⟩⟩,λh hE hM hc=>?_⟩
 obtain⟨M,a1,l1,p1,c1⟩:=hB2 h hE hM hc
 obtain⟨m1,e1⟩:=M.sm
 refine⟨⟨M.ex,⟨m1++[_],by show v.1.sm++[_]=_;rw[e1,List.append_assoc]⟩,M.oe,M.os.add l1 a1 (by simp)⟩,by simp[ZeC],?_⟩
 show (aimQ (emitQ u 8 (plQ q)) (plQ y.1)).cd=q.cd++one v.1.ex (v.1.sm++[_]) v.1.sm.length _
 rw[Zfu M.oe M.os l1 a1 (by simp)]
 dsimp only
 rw[if_neg (by omega),if_neg (by omega),if_pos rfl]
 have ev:=Zbk v.1.ex z.2
 have ev2:=ZaT v.1.ex v.1.sm v.2 (q.cd.length/2+(cod v.1.ex z.2).length/2+1)
 generalize als v.1.ex v.1.sm v.2 (q.cd.length/2+(cod v.1.ex z.2).length/2+1)=B at *
 generalize cod v.1.ex z.2=E at *
 show (u.cd++[8,(plQ q:Int)%256]).set (2*plQ y.1+1) ((((u.cd++[8,(plQ q:Int)%256]).length/2:Nat):Int)%256)=_
 have hl:(u.cd++[8,(plQ q:Int)%256]).length/2=q.cd.length/2+E.length/2+1+B.length/2+1:=by
  rw[c1]
  simp only[Qe,Qt,Qy]
  omega
 rw[hl,c1,QE (q.cd++E++[9,0]) B,Zhb _ _ _ _ _ _ (by rw[p1,Qe];omega)]
 unfold plQ
 simp
theorem ZqA(s:ZB)(K:Nat)(ih:∀(ou:Int) (q:Tq) (p:Rs),Ag q p->rem s p.r<K+1->ZdZ s q p (stmQ s (K+1) ou q) (stmP s (K+1) p).1∧ZlJ q p (stmQ s (K+1) ou q) (stmP s (K+1) p))(q:Tq)(p:Rs)(x:Sq)(a:Nat)(hA:Ag q p)(hK:rem s (tk s p.r 63)<K+1) :
  ZdZ s q p (ZkC s (stmQ s (K+1)) (K+1) q x) (ZlE s (stmP s (K+1)) (K+1) p a).1∧ZlJ q p (ZkC s (stmQ s (K+1)) (K+1) q x) (ZlE s (stmP s (K+1)) (K+1) p a):=by
 have hP:=Zhc s K ih q p {x with k:=3} 63 hA hK _ _ rfl rfl
 unfold ZkC ZlE
 dsimp only
 rw[hA.r]
 generalize exQ s ({q with r:=tk s p.r 63},{x with k:=3})=y at *
 have hz:∃z,exP s {p with r:=tk s p.r 63}=z:=⟨_,rfl⟩
 obtain⟨z,hz⟩:=hz
 have hz1:=(Zco s ({q with r:=tk s p.r 63},x) {p with r:=tk s p.r 63} ⟨rfl,hA.n,hA.ls,hA.vs⟩).le
 rw[hz]at hz1
 rw[hz]at hP ⊢
 generalize hu:blkQ s (stmQ s (K+1) y.1.ss.length) (K+1) (emitQ (addQ y.1 y.2) 9 0)=u at *
 generalize hv:blkP s (stmP s (K+1)) (K+1) z.1=v at *
 obtain⟨hB,hB2⟩:=hP
 rw[hB.r]
 by_cases ht:tok s v.1.r=58
 ·rw[if_pos ht,if_pos ht]
  have hlt:=ZK (s:=s) (r:=v.1.r) (by omega)
  have hle:=hB.le
  have hrk:=ZaD s p.r 63
  have hAv:=hA.go hB.fq hB.fp hB.r
  have hvr:rem s v.1.r<K+1:=by
   have c:rem s ({p with r:=tk s p.r 63}:Rs).r=rem s (tk s p.r 63):=rfl
   have:=(Zeb s K y.1.ss.length (ih _) (K+1) ⟨z.1.r,z.1.n,0,λ_ _=>false,z.1.ls,z.1.vs,[],0,0,[]⟩ z.1 ⟨rfl,rfl,rfl,rfl⟩ (by omega)).1.le
   rw[hv]at this
   omega
  have hO:=Zeb s K y.1.ss.length (ih _) (K+1) (aimQ (emitQ {u with r:=nx (adv s v.1.r)} 8 0) (plQ y.1)) {v.1 with r:=nx (adv s v.1.r)} ⟨rfl,hAv.n,hAv.ls,hAv.vs⟩ (by show rem s (nx (adv s v.1.r))<_;omega)
  have er1:v.1.r.er=0:=(Z5 (s:=s) (r:=v.1.r) (by omega)).1
  have hcd:(aimQ (emitQ {u with r:=nx (adv s v.1.r)} 8 0) (plQ y.1)).cd=(u.cd++[8,0]).set (2*plQ y.1+1) ((((u.cd++[8,0]).length/2:Nat):Int)%256):=rfl
  have hfr:FrQ u (aimQ (emitQ {u with r:=nx (adv s v.1.r)} 8 0) (plQ y.1)):=⟨rfl,rfl,rfl,rfl,rfl⟩
  generalize aimQ (emitQ {u with r:=nx (adv s v.1.r)} 8 0) (plQ y.1)=u1 at *
  generalize blkQ s (stmQ s (K+1) y.1.ss.length) (K+1) u1=u2 at *
  generalize blkP s (stmP s (K+1)) (K+1) {v.1 with r:=nx (adv s v.1.r)}=c at *
  obtain⟨hO1,hO2⟩:=hO
  have hle3:=hO1.le
  have hle4:rem s ({v.1 with r:=nx (adv s v.1.r)}:Rs).r=rem s (nx (adv s v.1.r)):=rfl
  refine⟨⟨hO1.r,by show rem s c.1.r<=_;omega,λh=>hB.bad er1,?_,?_⟩,λh hE hM hc=>?_⟩
  ·have f1:=hB.fq.trans (hfr.trans hO1.fq)
   exact⟨f1.n,f1.pn,f1.pr,f1.ls,f1.vs⟩
  ·have f1:FrP v.1 c.1:=⟨hO1.fp.n,hO1.fp.ls,hO1.fp.vs⟩
   have f2:=hB.fp.trans f1
   exact⟨f2.n,f2.ls,f2.vs⟩
  obtain⟨M,a1,l1,p1,c1⟩:=hB2 er1 hE hM hc
  have ev:=Zbk v.1.ex z.2
  have ev2:=ZaT v.1.ex v.1.sm v.2 (q.cd.length/2+(cod v.1.ex z.2).length/2+1)
  have hul:u.cd.length=q.cd.length+(cod v.1.ex z.2).length+2+(als v.1.ex v.1.sm v.2 (q.cd.length/2+(cod v.1.ex z.2).length/2+1)).length:=by
   rw[c1]
   simp only[Qe,Qt,Qy]
  have hu1:u1.cd.length=u.cd.length+2:=by rw[hcd,Um,Qe];rfl
  obtain⟨M2,a2,b2⟩:=hO2 h M.oe M.os (by omega)
  have M2:Mo v.1 c.1:=⟨M2.ex,M2.sm,M2.oe,M2.os⟩
  obtain⟨m1,e1⟩:=(M.trans M2).sm
  have lc:z.2<c.1.ex.length:=M2.lte l1
  have ac:∀m,m∈v.2->m<c.1.sm.length:=λm hm=>M2.lt (a1 m hm)
  refine⟨⟨(M.trans M2).ex,⟨m1++[_],by show c.1.sm++[_]=_;rw[e1,List.append_assoc]⟩,M2.oe,M2.os.add lc ac a2⟩,by simp[ZeC],?_⟩
  show (aimQ u2 (plQ u)).cd=q.cd++one c.1.ex (c.1.sm++[_]) c.1.sm.length _
  rw[Zfu M2.oe M2.os lc ac a2]
  dsimp only
  rw[if_neg (by omega),if_neg (by omega),if_neg (by omega),if_neg (by simp)]
  rw[M2.cod M.oe l1,M2.all M.oe M.os a1]
  have ev3:=ZaT c.1.ex c.1.sm c.2 (q.cd.length/2+(cod v.1.ex z.2).length/2+1+(als v.1.ex v.1.sm v.2 (q.cd.length/2+(cod v.1.ex z.2).length/2+1)).length/2+1)
  have hpl:u1.cd.length/2=q.cd.length/2+(cod v.1.ex z.2).length/2+1+(als v.1.ex v.1.sm v.2 (q.cd.length/2+(cod v.1.ex z.2).length/2+1)).length/2+1:=by omega
  rw[hpl]at b2
  generalize als c.1.ex c.1.sm c.2 (q.cd.length/2+(cod v.1.ex z.2).length/2+1+(als v.1.ex v.1.sm v.2 (q.cd.length/2+(cod v.1.ex z.2).length/2+1)).length/2+1)=O at *
  generalize als v.1.ex v.1.sm v.2 (q.cd.length/2+(cod v.1.ex z.2).length/2+1)=B at *
  generalize cod v.1.ex z.2=E at *
  have hcd2:u1.cd=q.cd++E++[9,((q.cd.length/2+E.length/2+1+B.length/2+1:Nat):Int)%256]++B++[8,0]:=by
   rw[hcd,show (u.cd++([8,0]:List Int)).length/2=q.cd.length/2+E.length/2+1+B.length/2+1 from by rw[Qe];simp only[Qt,Qy];omega,c1,QE (q.cd++E++[9,0]) B,Zhb _ _ _ _ _ _ (by rw[p1,Qe];omega)]
   simp
  show u2.cd.set (2*plQ u+1) (((u2.cd.length/2:Nat):Int)%256)=_
  have hl2:u2.cd.length/2=q.cd.length/2+E.length/2+1+B.length/2+1+O.length/2:=by
   rw[b2,Qe]
   omega
  rw[hl2,b2,hcd2,Zhb _ _ _ _ _ _ (by unfold plQ;simp only[Qe,Qt,Qy];omega)]
  simp
 ·rw[if_neg ht,if_neg ht]
  refine⟨⟨rfl,Qg (Zt _ _) hB.le,λh=>hB.bad (by rw[<-Zk s];exact h),⟨hB.fq.n,hB.fq.pn,hB.fq.pr,hB.fq.ls,hB.fq.vs⟩,⟨hB.fp.n,hB.fp.ls,hB.fp.vs⟩⟩,λh hE hM hc=>?_⟩
  obtain⟨M,a1,l1,p1,c1⟩:=hB2 (by rw[<-Zk s];exact h) hE hM hc
  obtain⟨m1,e1⟩:=M.sm
  refine⟨⟨M.ex,⟨m1++[_],by show v.1.sm++[_]=_;rw[e1,List.append_assoc]⟩,M.oe,M.os.add l1 a1 (by simp)⟩,by simp[ZeC],?_⟩
  show (aimQ {u with r:=adv s v.1.r} (plQ y.1)).cd=q.cd++one v.1.ex (v.1.sm++[_]) v.1.sm.length _
  rw[Zfu M.oe M.os l1 a1 (by simp)]
  dsimp only
  rw[if_neg (by omega),if_neg (by omega),if_neg (by omega),if_pos rfl]
  have ev:=Zbk v.1.ex z.2
  have ev2:=ZaT v.1.ex v.1.sm v.2 (q.cd.length/2+(cod v.1.ex z.2).length/2+1)
  generalize als v.1.ex v.1.sm v.2 (q.cd.length/2+(cod v.1.ex z.2).length/2+1)=B at *
  generalize cod v.1.ex z.2=E at *
  show u.cd.set (2*plQ y.1+1) (((u.cd.length/2:Nat):Int)%256)=_
  have hl:u.cd.length/2=q.cd.length/2+E.length/2+1+B.length/2:=by
   rw[c1]
   simp only[Qe,Qt,Qy]
   omega
  rw[hl,c1,Zhb _ _ _ _ _ _ (by rw[p1,Qe];omega)]
  simp
theorem Zbc(s:ZB):∀(k:Nat) (ou:Int) (q:Tq) (p:Rs),Ag q p->rem s p.r<k->ZdZ s q p (stmQ s k ou q) (stmP s k p).1∧ZlJ q p (stmQ s k ou q) (stmP s k p)
 | 0,ou,q,p,hA,hk=>by omega
 | k+1,ou,q,p,hA,hk=>by
  have hA1:Ag {q with r:=adv s p.r} {p with r:=adv s p.r}:=⟨rfl,hA.n,hA.ls,hA.vs⟩
  have hrd:=Zt s p.r
  have fin:∀(y:Tq) (z:Rs×Nat),(ZdZ s {q with r:=adv s p.r} {p with r:=adv s p.r} y z.1∧ZlJ {q with r:=adv s p.r} {p with r:=adv s p.r} y z)->ZdZ s q p y z.1∧ZlJ q p y z:=λy z h=>⟨⟨h.1.r,Qg h.1.le hrd,λe=>by have:=h.1.bad e;rw[<-Zk s];exact this,⟨h.1.fq.n,h.1.fq.pn,h.1.fq.pr,h.1.fq.ls,h.1.fq.vs⟩,⟨h.1.fp.n,h.1.fp.ls,h.1.fp.vs⟩⟩,λe hE hM hc=>by obtain⟨M,a,b⟩:=h.2 e hE hM hc;exact⟨⟨M.ex,M.sm,M.oe,M.os⟩,a,b⟩⟩
  simp only[stmQ,stmP]
  rw[hA.r]
  by_cases h1:tok s p.r=62
  ·rw[if_pos h1,if_pos h1]
   exact fin _ _ (Zm4 s _ _ _ _ hA1)
  ·rw[if_neg h1,if_neg h1]
   by_cases h2:tok s p.r=63
   ·rw[if_pos h2,if_pos h2]
    have hlt:=ZK (s:=s) (r:=p.r) (by omega)
    have e1:tk s (adv s p.r) 63=nx (adv s p.r):=by rw[<-h2];exact Z8 (by omega)
    obtain⟨K,rfl⟩:∃K,k=K+1:=⟨k-1,by omega⟩
    exact fin _ _ (ZqA s K (Zbc s (K+1)) _ _ _ _ hA1 (by show rem s (tk s (adv s p.r) 63)<_;rw[e1];omega))
   ·rw[if_neg h2,if_neg h2]
    by_cases h3:tok s p.r=64
    ·rw[if_pos h3,if_pos h3]
     have hlt:=ZK (s:=s) (r:=p.r) (by omega)
     have e1:tk s (adv s p.r) 64=nx (adv s p.r):=by rw[<-h3];exact Z8 (by omega)
     obtain⟨K,rfl⟩:∃K,k=K+1:=⟨k-1,by omega⟩
     exact fin _ _ (Zqz s K (Zbc s (K+1)) _ _ _ _ hA1 (by show rem s (tk s (adv s p.r) 64)<_;rw[e1];omega))
    ·rw[if_neg h3,if_neg h3]
     exact fin _ _ (Zm3 s _ _ _ _ hA1)
theorem Zki(l:List Int):∀(k:Nat) (a b:Int),hopF l k a b=true->hopF l (k+1) a b=true
 | 0,a,b,h=>by
  simp only[hopF]at h ⊢
  simp[h]
 | k+1,a,b,h=>by
  rw[hopF]at h ⊢
  rw[QJ]at h ⊢
  rcases h with h|h
  ·exact .inl h
  ·rw[List.any_eq_true]at h ⊢
   obtain⟨i,hi,h⟩:=h
   rw[Qr]at h
   exact .inr ⟨i,hi,by rw[Qr];exact⟨h.1,Zki l k _ _ h.2⟩⟩
theorem Zkj{k':Nat}(h:hopF l k a b=true)(hk:k<=k'):hopF l k' a b=true:=by
 induction k' with
 | zero=>
  have:k=0:=by omega
  rw[this]at h;exact h
 | succ j ih=>
  by_cases e:k=j+1
  ·rw[e]at h;exact h
  ·exact Zki l j a b (ih (by omega))
theorem ZdP(l:List Int)(k:Nat)(a:Int):hopF l k a a=true:=by cases k<;>simp[hopF]
def Pr(l:List Int)(a b:Int):Prop:=∃i:Nat,2*i+1<l.length∧l.getD (2*i) 0=a∧l.getD (2*i+1) 0=b
theorem Zc1:hopF l (k+1) a b=true↔a=b∨∃c,Pr l a c∧hopF l k c b=true:=by
 rw[hopF,QJ,QL,List.any_eq_true]
 constructor
 ·rintro(h|⟨i,hi,h⟩)
  ·exact .inl h
  ·rw[Qr,QL]at h
   rw[Ut]at hi
   exact .inr ⟨_,⟨i,by omega,h.1,rfl⟩,h.2⟩
 ·rintro(h|⟨c,⟨i,hi,h1,h2⟩,h3⟩)
  ·exact .inl h
  ·exact .inr ⟨i,by rw[Ut];omega,by rw[Qr,QL];exact⟨h1,by rw[h2];exact h3⟩⟩
def Way(l:List Int)(a b:Int):Prop:=∃k,hopF l k a b=true
theorem Way.refl(l:List Int)(a:Int):Way l a a:=⟨0,ZdP l 0 a⟩
theorem Way.head(h:Pr l a b)(k:Way l b c):Way l a c:=by
 obtain⟨j,k⟩:=k
 exact⟨j+1,Zc1.2 (.inr ⟨b,h,k⟩)⟩
theorem Way.ind(P:Int->Prop)(h0:P b)(h1:∀a c,Pr l a c->P c->P a)(h:Way l a b):P a:=by
 obtain⟨k,h⟩:=h
 induction k generalizing a with
 | zero=>simp[hopF]at h;rw[h];exact h0
 | succ k ih=>
  rcases Zc1.1 h with h|⟨c,hc,h⟩
  ·rw[h];exact h0
  ·exact h1 a c hc (ih h)
theorem Way.trans(h:Way l a b)(k:Way l b c):Way l a c:=Way.ind (λx=>Way l x c) k (λa c hc h=>h.head hc) h
def In(l:List Int)(n:Nat):Prop:=∀i:Nat,i<l.length->0<=l.getD i 0∧l.getD i 0<n
def ZkG(l:List Int)(b:Int)(k:Nat):Nat->Nat
 | 0=>0
 | n+1=>ZkG l b k n+if hopF l k n b=true then 1 else 0
theorem Zm5(l:List Int)(b:Int)(k:Nat):∀n,ZkG l b k n<=n
 | 0=>Qb _
 | n+1=>by
  have:=Zm5 l b k n
  simp only[ZkG]
  split<;>omega
theorem Zfv(l:List Int)(b:Int)(k:Nat):∀n,ZkG l b k n<=ZkG l b (k+1) n
 | 0=>Qb _
 | n+1=>by
  have:=Zfv l b k n
  simp only[ZkG]
  by_cases h:hopF l k n b=true
  ·rw[if_pos h,if_pos (Zki l k _ _ h)];omega
  ·rw[if_neg h];omega
theorem Zid(l:List Int)(b:Int)(k:Nat):∀n,ZkG l b k n=ZkG l b (k+1) n->∀a:Nat,a<n->hopF l (k+1) a b=true->hopF l k a b=true
 | 0,_,a,ha,_=>by omega
 | n+1,h,a,ha,hh=>by
  have m:=Zfv l b k n
  simp only[ZkG]at h
  by_cases e:a=n
  ·subst e
   by_cases h1:hopF l k a b=true
   ·exact h1
   ·rw[if_neg h1,if_pos hh]at h
    omega
  ·refine Zid l b k n ?_ a (by omega) hh
   by_cases h1:hopF l k n b=true
   ·rw[if_pos h1,if_pos (Zki l k _ _ h1)]at h;omega
   ·rw[if_neg h1]at h
    split at h<;>omega
theorem Zm6(hI:In l n){b:Nat}(h:∀a:Nat,a<n->hopF l (k+1) a b=true->hopF l k a b=true):∀(j:Nat) (a:Nat),a<n->hopF l (k+j) a b=true->hopF l k a b=true
 | 0,a,ha,h1=>h1
 | j+1,a,ha,h1=>by
  rcases Zc1.1 (show hopF l (k+j+1) a b=true from h1) with e|⟨c,hc,h2⟩
  ·rw[e];exact ZdP l k _
  ·obtain⟨i,hi,e1,e2⟩:=id hc
   have hcn:=hI (2*i+1) hi
   rw[e2]at hcn
   obtain⟨cn,rfl⟩:∃cn:Nat,c=cn:=⟨c.toNat,by omega⟩
   have:=Zm6 hI h j cn (by omega) h2
   exact h a ha (Zc1.2 (.inr ⟨_,hc,this⟩))
theorem Zlo(hI:In l n){a b:Nat}(ha:a<n)(hb:b<n)(h:Way l a b):hopF l (n-1) a b=true:=by
 -- either the count still grows at each step up to k,or it stands still from some step on
 have key:∀k,(k+1<=ZkG l b k n)∨(∃j,j<k∧∀a:Nat,a<n->hopF l (j+1) a b=true->hopF l j a b=true):=by
  intro k
  induction k with
  | zero=>
   refine .inl ?_
   have:∀m,b<m->1<=ZkG l b 0 m:=by
    intro m
    induction m with
    | zero=>intro h;omega
    | succ m ih=>
     intro h
     simp only[ZkG]
     by_cases e:b=m
     ·subst e;rw[if_pos (ZdP l 0 _)];omega
     ·have:=ih (by omega);omega
   exact this n hb
  | succ k ih=>
   rcases ih with ih|⟨j,hj,ih⟩
   ·by_cases e:ZkG l b k n=ZkG l b (k+1) n
    ·exact .inr ⟨k,by omega,Zid l b k n e⟩
    ·have:=Zfv l b k n
     exact .inl (by omega)
   ·exact .inr ⟨j,by omega,ih⟩
 obtain⟨K,hK⟩:=h
 rcases key n with h1|⟨j,hj,h1⟩
 ·have:=Zm5 l b n n;omega
 ·have h2:=Zm6 hI h1 K a ha (Zkj hK (by omega))
  exact Zkj h2 (by omega)
theorem Zkk(hl:l.length%2=0){x y:Int}:Pr (l++[x,y]) a b↔Pr l a b∨(a=x∧b=y):=by
 have g:∀i,i<l.length->(l++[x,y]).getD i 0=l.getD i 0:=λi hi=>by rw[Qs,Qs,QD hi]
 have g0:(l++[x,y]).getD l.length 0=x:=by rw[Qs,QF (Qb _)];simp
 have g1:(l++[x,y]).getD (l.length+1) 0=y:=by rw[Qs,QF (by omega)];simp
 constructor
 ·rintro⟨i,hi,h1,h2⟩
  rw[Qe]at hi
  have hi:2*i+1<l.length+2:=hi
  by_cases c:2*i+1<l.length
  ·rw[g _ (by omega)]at h1
   rw[g _ c]at h2
   exact .inl ⟨i,c,h1,h2⟩
  ·have e:2*i=l.length:=by omega
   rw[e]at h1 h2
   rw[g0]at h1
   rw[g1]at h2
   exact .inr ⟨h1.symm,h2.symm⟩
 ·rintro(⟨i,hi,h1,h2⟩|⟨h1,h2⟩)
  ·exact⟨i,by rw[Qe];omega,by rw[g _ (by omega)];exact h1,by rw[g _ hi];exact h2⟩
  ·have e:2*(l.length/2)=l.length:=by omega
   exact⟨l.length/2,by rw[Qe];show _<l.length+2;omega,by rw[e,g0,h1],by rw[e,g1,h2]⟩
theorem ZqB(hl:l.length%2=0){x y:Int}:Way (l++[x,y]) a b↔Way l a b∨(Way l a x∧Way l y b):=by
 constructor
 ·intro h
  refine Way.ind (λa=>Way l a b∨(Way l a x∧Way l y b)) (.inl (Way.refl l b)) ?_ h
  intro a c hc hP
  rcases(Zkk hl).1 hc with h1|⟨h1,h2⟩
  ·rcases hP with h|⟨h,k⟩
   ·exact .inl (h.head h1)
   ·exact .inr ⟨h.head h1,k⟩
  ·rw[h1]
   rw[h2]at hP
   rcases hP with h|⟨h,k⟩
   ·exact .inr ⟨Way.refl l x,h⟩
   ·exact .inr ⟨Way.refl l x,k⟩
 ·have up:∀{a b:Int},Way l a b->Way (l++[x,y]) a b:=λh=>Way.ind (λa=>Way (l++[x,y]) a _) (Way.refl _ _) (λa c hc h=>h.head ((Zkk hl).2 (.inl hc))) h
  rintro(h|⟨h,k⟩)
  ·exact up h
  ·exact(up h).trans ((up k).head ((Zkk hl).2 (.inr ⟨rfl,rfl⟩)))
theorem Zgo(s:ZB)(x:Tq×Sq):rem s (exQ s x).1.r<=rem s x.1.r:=by
 have h:=Zco s x ⟨x.1.r,x.1.n,x.1.ls,x.1.vs,[],[]⟩ ⟨rfl,rfl,rfl,rfl⟩
 rw[h.r]
 exact h.le
theorem Zfw(s:ZB)(K k:Nat)(ou:Int)(q:Tq)(hK:rem s q.r<K+1):rem s (blkQ s (stmQ s (K+1) ou) k q).r<=rem s q.r:=by
 have h:=(Zeb s K ou (Zbc s (K+1) ou) k q ⟨q.r,q.n,q.ls,q.vs,[],[]⟩ ⟨rfl,rfl,rfl,rfl⟩ hK).1
 rw[h.r]
 exact h.le
theorem Zm7(s:ZB)(k:Nat)(ou:Int)(q:Tq)(hK:rem s q.r<k)(ht:tok s q.r≠0):rem s (stmQ s k ou q).r<rem s q.r:=by
 obtain⟨k,rfl⟩:∃j,k=j+1:=⟨k-1,by omega⟩
 have hlt:=ZK ht
 have e1:∀c,tok s q.r=c->tk s (adv s q.r) c=nx (adv s q.r):=λc h=>by rw[<-h];exact Z8 ht
 simp only[stmQ]
 by_cases h1:tok s q.r=62
 ·rw[if_pos h1]
  unfold ZlA
  dsimp only
  rw[e1 62 h1]
  refine Nat.lt_of_le_of_lt (Qg (ZaD _ _ _) (Qg (Zgo _ _) (Zci _ _ _ _))) hlt
 ·rw[if_neg h1]
  by_cases h2:tok s q.r=63
  ·rw[if_pos h2]
   obtain⟨K,rfl⟩:∃K,k=K+1:=⟨k-1,by omega⟩
   unfold ZkC
   dsimp only
   rw[e1 63 h2]
   have hx:=Zgo s ({q with r:=nx (adv s q.r)},{k:=3,pl:=((adv s q.r).a:Int),ou:=ou,ta:=0,rd:=none6,tp:=none6})
   generalize exQ s ({q with r:=nx (adv s q.r)},{k:=3,pl:=((adv s q.r).a:Int),ou:=ou,ta:=0,rd:=none6,tp:=none6})=y at *
   have hx:rem s y.1.r<=rem s (nx (adv s q.r)):=hx
   have hb:=Zfw s K (K+1) y.1.ss.length (emitQ (addQ y.1 y.2) 9 0) (by show rem s y.1.r<_;omega)
   generalize blkQ s (stmQ s (K+1) y.1.ss.length) (K+1) (emitQ (addQ y.1 y.2) 9 0)=u at *
   have hb:rem s u.r<=rem s y.1.r:=hb
   split
   ·have h5:=Qg (Ze0 s (adv s u.r)) (Zt s u.r)
    have hb2:=Zfw s K (K+1) y.1.ss.length (aimQ (emitQ {u with r:=nx (adv s u.r)} 8 0) (plQ y.1)) (by show rem s (nx (adv s u.r))<_;omega)
    have hb2:rem s (blkQ s (stmQ s (K+1) y.1.ss.length) (K+1) (aimQ (emitQ {u with r:=nx (adv s u.r)} 8 0) (plQ y.1))).r<=rem s (nx (adv s u.r)):=hb2
    show rem s (blkQ s (stmQ s (K+1) y.1.ss.length) (K+1) (aimQ (emitQ {u with r:=nx (adv s u.r)} 8 0) (plQ y.1))).r<_
    omega
   ·have:=Zt s u.r
    show rem s (adv s u.r)<_
    omega
  ·rw[if_neg h2]
   by_cases h3:tok s q.r=64
   ·rw[if_pos h3]
    obtain⟨K,rfl⟩:∃K,k=K+1:=⟨k-1,by omega⟩
    unfold ZkD
    dsimp only
    rw[e1 64 h3]
    have hx:=Zgo s ({q with r:=nx (adv s q.r)},{k:=4,pl:=((adv s q.r).a:Int),ou:=ou,ta:=0,rd:=none6,tp:=none6})
    generalize exQ s ({q with r:=nx (adv s q.r)},{k:=4,pl:=((adv s q.r).a:Int),ou:=ou,ta:=0,rd:=none6,tp:=none6})=y at *
    have hx:rem s y.1.r<=rem s (nx (adv s q.r)):=hx
    have hb:=Zfw s K (K+1) y.1.ss.length (emitQ (addQ y.1 y.2) 9 0) (by show rem s y.1.r<_;omega)
    have hb:rem s (blkQ s (stmQ s (K+1) y.1.ss.length) (K+1) (emitQ (addQ y.1 y.2) 9 0)).r<=rem s y.1.r:=hb
    show rem s (blkQ s (stmQ s (K+1) y.1.ss.length) (K+1) (emitQ (addQ y.1 y.2) 9 0)).r<_
    omega
   ·rw[if_neg h3]
    unfold ZkB
    dsimp only
    rw[Za5]
    have hv:rem s (varR s q.r q.ls)<rem s q.r:=by
     cases h:ZaW s q.r q.ls with
     | true=>exact Zdd h ht
     | false=>
      unfold varR Zbn
      rw[h,if_neg (by simp),ZeZ (by split<;>omega)]
      omega
    refine Nat.lt_of_le_of_lt (Qg (ZaD _ _ _) (Qg (Zgo _ _) (ZaD _ _ _))) hv
theorem ZqC{r:Rd}{n:Int}(hn:n<=6)(h:¬(48<=tok s r∧tok s r<=57)):digR s r 0 (n-1)=rfs (adv s r) 11:=by
 unfold digR Zbn
 rw[if_neg]
 unfold isD
 rw[decide_eq_true_eq]
 omega
theorem ZcB{r:Rd}{n:Int}(hn:1<=n):0<=dig s r 0 (n-1)∧dig s r 0 (n-1)<n:=by
 unfold dig
 split
 ·rename_i h
  have:=QB h
  omega
 ·omega
def Zo1(pr:Nat->Nat->Bool)(l:List Int):Prop:=∀i j:Nat,pr i j=true↔Way l i j
theorem Zo1.add{pr:Nat->Nat->Bool}(h:Zo1 pr l)(hl:l.length%2=0)(a b:Nat):Zo1 (λi j=>pr i j||(pr i a&&pr b j)) (l++[(a:Int),(b:Int)]):=by
 intro i j
 show (pr i j||(pr i a&&pr b j))=true↔_
 rw[ZqB hl,QJ,Qr,h i j,h i a,h b j]
theorem In.add(h:In l n)(ha:0<=a∧a<n)(hb:0<=b∧b<n):In (l++[a,b]) n:=by
 intro i hi
 rw[Qe]at hi
 have hi:i<l.length+2:=hi
 by_cases c:i<l.length
 ·rw[Qs,QD c,<-Qs]
  exact h i c
 ·rw[Qs,QF (by omega)]
  by_cases e:i=l.length
  ·rw[e];simpa using ha
  ·rw[show i-l.length=1 from by omega];simpa using hb
structure ZsP(s:ZB)(n:Int)(q:Tq)(y:Tq)(z:Rd×List Int):Prop where
 e:tk s y.r 46=tk s z.1 46
 ok:(tk s z.1 46).er=0->Zo1 y.pr z.2∧In z.2 n.toNat
 n:y.n=q.n
 pn:y.pn=q.pn
 ls:y.ls=q.ls
 vs:y.vs=q.vs
 cd:y.cd=q.cd
 h:y.h=q.h
 hi:y.hi=q.hi
 ss:y.ss=q.ss
theorem Zm8(s:ZB):∀(k:Nat) (q:Tq) (l:List Int),1<=q.n->q.n<=6->Zo1 q.pr l->In l q.n.toNat->l.length%2=0->ZsP s q.n q (prsQ s k q) (ZiB s q.n k q.r l)
 | 0,q,l,h1,h6,hP,hI,hl=>⟨rfl,λ_=>⟨hP,hI⟩,rfl,rfl,rfl,rfl,rfl,rfl,rfl,rfl⟩
 | k+1,q,l,h1,h6,hP,hI,hl=>by
  simp only[prsQ,ZiB]
  by_cases hd:48<=tok s q.r∧tok s q.r<=57
  ·rw[if_pos hd,if_pos ⟨(Z5 (s:=s) (r:=q.r) (by omega)).1,by omega⟩]
   obtain⟨a,ha⟩:∃a:Nat,dig s (adv s q.r) 0 (q.n-1)=a:=⟨(dig s (adv s q.r) 0 (q.n-1)).toNat,by have:=ZcB (s:=s) (r:=adv s q.r) h1;omega⟩
   obtain⟨b,hb⟩:∃b:Nat,dig s (digR s (adv s q.r) 0 (q.n-1)) 0 (q.n-1)=b:=⟨(dig s (digR s (adv s q.r) 0 (q.n-1)) 0 (q.n-1)).toNat,by have:=ZcB (s:=s) (r:=digR s (adv s q.r) 0 (q.n-1)) h1;omega⟩
   have da:=ZcB (s:=s) (r:=adv s q.r) h1
   have db:=ZcB (s:=s) (r:=digR s (adv s q.r) 0 (q.n-1)) h1
   rw[ha]at da ⊢
   rw[hb]at db ⊢
   have hR:=Zm8 s k (pairQ {q with r:=digR s (digR s (adv s q.r) 0 (q.n-1)) 0 (q.n-1)} a b) (l++[(a:Int),(b:Int)]) h1 h6 (hP.add hl a b) (hI.add (by show _∧_<((q.n.toNat:Nat):Int);omega) (by show _∧_<((q.n.toNat:Nat):Int);omega)) (by rw[Qe];show (l.length+2)%2=0;omega)
   exact⟨hR.e,hR.ok,hR.n,hR.pn,hR.ls,hR.vs,hR.cd,hR.h,hR.hi,hR.ss⟩
  ·rw[if_neg hd]
   by_cases hq:q.r.er=0∧tok s q.r≠46
   ·rw[if_pos hq]
    have hd2:¬(48<=tok s (adv s q.r)∧tok s (adv s q.r)<=57):=by rw[Zp];exact hd
    rw[ZqC h6 hd2,ZY]
    have hb:(rfs (adv s q.r) 11).er≠0:=Zan (by omega)
    have e2:digR s (rfs (adv s q.r) 11) 0 (q.n-1)=rfs (adv s q.r) 11:=Zg7 hb
    rw[e2]
    generalize dig s (adv s q.r) 0 (q.n-1)=a
    generalize dig s (rfs (adv s q.r) 11) 0 (q.n-1)=b
    have hy:∀(y:Tq),y.r=rfs (adv s q.r) 11->prsQ s k y=y:=λy hy=>by
     cases k with
     | zero=>simp only[prsQ];rw[Zz (by rw[hy];exact hb)]
     | succ k=>simp only[prsQ];rw[if_neg (λc=>hb (by rw[<-hy];exact c.1)),Zz (by rw[hy];exact hb)]
    rw[hy _ rfl]
    refine⟨?_,λh=>?_,rfl,rfl,rfl,rfl,rfl,rfl,rfl,rfl⟩
    ·show tk s (rfs (adv s q.r) 11) 46=tk s (adv s q.r) 46
     rw[Zc5 hb]
     unfold tk Zbn
     rw[Zp,if_neg (by rw[QL];exact hq.2),ZY]
    ·have:=(Zcz (by omega) h).2
     rw[Zp,QL]at this
     exact absurd this hq.2
   ·rw[if_neg hq]
    exact⟨rfl,λ_=>⟨hP,hI⟩,rfl,rfl,rfl,rfl,rfl,rfl,rfl,rfl⟩
structure ZsQ(s:ZB)(q:Tq)(y:Tq)(z:Rd×List Int×List Int):Prop where
 e:tk s y.r 46=tk s z.1 46
 ok:(tk s z.1 46).er=0->y.ls=z.2.1∧y.vs=z.2.2
 n:y.n=q.n
 pn:y.pn=q.pn
 pr:y.pr=q.pr
 cd:y.cd=q.cd
 h:y.h=q.h
 hi:y.hi=q.hi
 ss:y.ss=q.ss
theorem Zkl(s:ZB):∀(k:Nat) (q:Tq),ZsQ s q (decsQ s k q) (ZbB s q.n k q.r q.ls q.vs)
 | 0,q=>⟨rfl,λ_=>⟨rfl,rfl⟩,rfl,rfl,rfl,rfl,rfl,rfl,rfl⟩
 | k+1,q=>by
  have hy:∀(e:Int) (y:Tq),e≠0->y.r=rfs (adv s q.r) e->decsQ s k y=y:=λe y he hy=>by
   have hb:y.r.er≠0:=by rw[hy];exact Zan he
   cases k with
   | zero=>simp only[decsQ];rw[Zz hb]
   | succ k=>simp only[decsQ];rw[if_neg (λc=>hb c.1),Zz hb]
  simp only[decsQ,ZbB,decQ]
  rw[Zp,ZY]
  cases hL:isL (tok s q.r) with
  | true=>
   have ht:97<=tok s q.r∧tok s q.r<=104:=by unfold isL at hL;exact QB hL
   rw[if_pos ⟨(Z5 (s:=s) (r:=q.r) (by omega)).1,by omega⟩,if_pos rfl,if_neg (by simp)]
   by_cases hf:fnd (tok s q.r) q.ls<q.ls.length
   ·rw[if_pos hf,if_pos hf,hy 12 _ (by omega) rfl]
    refine⟨rfl,λh=>?_,rfl,rfl,rfl,rfl,rfl,rfl,rfl⟩
    exact absurd (ZbD h) (Zan (by omega))
   ·rw[if_neg hf,if_neg hf]
    have hR:=Zkl s k {q with r:=digR s (nx (adv s q.r)) 0 (q.n-1),ls:=q.ls++[tok s q.r],vs:=q.vs++[dig s (nx (adv s q.r)) 0 (q.n-1)]}
    exact⟨hR.e,hR.ok,hR.n,hR.pn,hR.pr,hR.cd,hR.h,hR.hi,hR.ss⟩
  | false=>
   rw[if_neg (show ¬(false=true) from by simp)]
   by_cases hq:q.r.er=0∧tok s q.r≠46
   ·rw[if_pos hq,if_pos rfl,hy 11 _ (by omega) rfl]
    have hb:(rfs (adv s q.r) 11).er≠0:=Zan (by omega)
    refine⟨?_,λh=>?_,rfl,rfl,rfl,rfl,rfl,rfl,rfl⟩
    ·show tk s (rfs (adv s q.r) 11) 46=tk s (adv s q.r) 46
     rw[Zc5 hb]
     unfold tk Zbn
     rw[Zp,if_neg (by rw[QL];exact hq.2),ZY]
    ·have:=(Zcz (by omega) h).2
     rw[Zp,QL]at this
     exact absurd this hq.2
   ·rw[if_neg hq]
    exact⟨rfl,λ_=>⟨rfl,rfl⟩,rfl,rfl,rfl,rfl,rfl,rfl,rfl⟩
theorem ZoJ{q:Tq}(h:q.r.er≠0)(k:Nat):prsQ s k q=q:=by
 cases k with
 | zero=>simp only[prsQ];rw[Zz h]
 | succ k=>simp only[prsQ];rw[if_neg (λc=>h c.1),Zz h]
theorem Zm9{q:Tq}(h:q.r.er≠0)(k:Nat):decsQ s k q=q:=by
 cases k with
 | zero=>simp only[decsQ];rw[Zz h]
 | succ k=>simp only[decsQ];rw[if_neg (λc=>h c.1),Zz h]
theorem ZoK{n:Int}{r:Rd}(h:r.er≠0)(k:Nat):ZiB s n k r l=(r,l):=by
 cases k with
 | zero=>simp only[ZiB];rw[Zz h]
 | succ k=>simp only[ZiB];rw[Zd3 h,if_neg (by omega),Zz h]
theorem Zie{n:Int}{r:Rd}{vs:List Int}(h:r.er≠0)(k:Nat):ZbB s n k r ls vs=(r,ls,vs):=by
 cases k with
 | zero=>simp only[ZbB];rw[Zz h]
 | succ k=>simp only[ZbB];rw[Zd3 h,if_neg (by unfold isL;simp),Zz h]
structure ZsE(s:ZB):Prop where
 r:(headQ s startQ).r=(headP s).r
 ok:(headP s).r.er=0->Ag (headQ s startQ) (headP s)∧(headQ s startQ).pn=nP s∧Zo1 (headQ s startQ).pr (prP s).2∧In (prP s).2 (nP s).toNat∧1<=nP s∧nP s<=6
 cd:(headQ s startQ).cd=[]
 h:(headQ s startQ).h=0
 hi:(headQ s startQ).hi=0
 ss:(headQ s startQ).ss=[]
theorem Zhd(s:ZB):ZsE s:=by
 cases hd:isD s ⟨0,0⟩ 1 6 with
 | true=>
  have hn:nP s=dig s ⟨0,0⟩ 1 6:=by unfold nP;rw[if_pos hd]
  have hb:1<=nP s∧nP s<=6:=by
   rw[hn]
   unfold dig
   rw[if_pos hd]
   have:=QB hd
   omega
  have hp:=Zm8 s (s.size+1) {startQ with r:=digR s ⟨0,0⟩ 1 6,n:=nP s,pn:=nP s,pr:=λi j=>decide (i=j)} [] hb.1 hb.2 (by
   intro i j
   rw[decide_eq_true_eq]
   constructor
   ·rintro rfl;exact Way.refl _ _
   ·intro h
    have:((i:Nat):Int)=j:=Way.ind (l:=[]) (b:=(j:Int)) (λa=>a=j) rfl (λa c hc _=>by obtain⟨i,hi,_⟩:=hc;simp at hi) h
    omega) (λi hi=>by simp at hi) rfl
  have e1:(headQ s startQ)={decsQ s (s.size+1) {prsQ s (s.size+1) {startQ with r:=digR s ⟨0,0⟩ 1 6,n:=nP s,pn:=nP s,pr:=λi j=>decide (i=j)} with r:=tk s (prsQ s (s.size+1) {startQ with r:=digR s ⟨0,0⟩ 1 6,n:=nP s,pn:=nP s,pr:=λi j=>decide (i=j)}).r 46} with r:=tk s (decsQ s (s.size+1) {prsQ s (s.size+1) {startQ with r:=digR s ⟨0,0⟩ 1 6,n:=nP s,pn:=nP s,pr:=λi j=>decide (i=j)} with r:=tk s (prsQ s (s.size+1) {startQ with r:=digR s ⟨0,0⟩ 1 6,n:=nP s,pn:=nP s,pr:=λi j=>decide (i=j)}).r 46}).r 46}:=by
   rw[hn];rfl
  have hp:ZsP s (nP s) _ _ (prP s):=hp
  generalize prsQ s (s.size+1) {startQ with r:=digR s ⟨0,0⟩ 1 6,n:=nP s,pn:=nP s,pr:=λi j=>decide (i=j)}=y at *
  have hdc:=Zkl s (s.size+1) {y with r:=tk s y.r 46}
  have e3:ZbB s y.n (s.size+1) (tk s y.r 46) y.ls y.vs=dcP s:=by
   show _=ZbB s (nP s) (s.size+1) (tk s (prP s).1 46) [] []
   rw[hp.e,hp.ls,hp.vs,hp.n]
   rfl
  have hdc:ZsQ s _ _ (ZbB s y.n (s.size+1) (tk s y.r 46) y.ls y.vs):=hdc
  rw[e3]at hdc
  generalize decsQ s (s.size+1) {y with r:=tk s y.r 46}=u at *
  have hQ:headQ s startQ={u with r:=tk s u.r 46}:=e1
  refine⟨by rw[hQ];exact hdc.e,λh=>?_,by rw[hQ];exact hdc.cd.trans hp.cd,by rw[hQ];exact hdc.h.trans hp.h,by rw[hQ];exact hdc.hi.trans hp.hi,by rw[hQ];exact hdc.ss.trans hp.ss⟩
  rw[hQ]
  have h:(tk s (dcP s).1 46).er=0:=h
  obtain⟨k1,k2⟩:=hdc.ok h
  have hpe:(tk s (prP s).1 46).er=0:=by
   have h2:=ZbD h
   by_cases c:(tk s (prP s).1 46).er=0
   ·exact c
   ·exfalso
    have:dcP s=(tk s (prP s).1 46,[],[]):=Zie c _
    rw[this]at h2
    exact c h2
  obtain⟨k3,k4⟩:=hp.ok hpe
  refine⟨⟨hdc.e,hdc.n.trans hp.n,k1,k2⟩,hdc.pn.trans hp.pn,?_,k4,hb.1,hb.2⟩
  show Zo1 u.pr _
  rw[hdc.pr]
  exact k3
 | false=>
  have e0:digR s ⟨0,0⟩ 1 6=rfs (adv s ⟨0,0⟩) 11:=by unfold digR Zbn;rw[if_neg (by rw[hd];simp)]
  have hb:(rfs (adv s ⟨0,0⟩) 11).er≠0:=Zan (by omega)
  have eP:prP s=(rfs (adv s ⟨0,0⟩) 11,[]):=by
   unfold prP
   rw[e0]
   exact ZoK hb _
  have eD:dcP s=(rfs (adv s ⟨0,0⟩) 11,[],[]):=by
   unfold dcP
   rw[eP,Zc5 hb]
   exact Zie hb _
  have eH:(headP s).r=rfs (adv s ⟨0,0⟩) 11:=by
   show tk s (dcP s).1 46=_
   rw[eD,Zc5 hb]
  have eQ:headQ s startQ={startQ with r:=rfs (adv s ⟨0,0⟩) 11,n:=dig s ⟨0,0⟩ 1 6,pn:=dig s ⟨0,0⟩ 1 6,pr:=λi j=>decide (i=j)}:=by
   unfold headQ
   dsimp only
   rw[show digR s startQ.r 1 6=rfs (adv s ⟨0,0⟩) 11 from e0,ZoJ hb,Zc5 (by exact hb)]
   rw[Zm9 (by exact hb),Zc5 (by exact hb)]
   rfl
  refine⟨by rw[eQ,eH],λh=>absurd h (by rw[eH];exact hb),by rw[eQ];rfl,by rw[eQ];rfl,by rw[eQ];rfl,by rw[eQ];rfl⟩
def pot(s:ZB)(q:Tq):Nat:=q.cd.length+q.ss.length+8*rem s q.r+(if q.r.er=0 then 12 else 0)
def Zaa(s:ZB)(r:Rd):Nat:=8*rem s r+(if r.er=0 then 12 else 0)
theorem ZaG(s:ZB)(q:Tq):pot s q=q.cd.length+q.ss.length+Zaa s q.r:=by unfold pot Zaa;omega
theorem Zdi{r r':Rd}(h:rem s r'<=rem s r)(he:r'.er=0->r.er=0):Zaa s r'<=Zaa s r:=by
 unfold Zaa
 by_cases h1:r'.er=0
 ·rw[if_pos h1,if_pos (he h1)];omega
 ·rw[if_neg h1];split<;>omega
theorem Zh(s:ZB)(r:Rd):Zaa s (adv s r)<=Zaa s r:=Zdi (Zt s r) (λh=>by rw[Zk]at h;exact h)
theorem ZM(s:ZB)(r:Rd)(c:Int):Zaa s (tk s r c)<=Zaa s r:=Zdi (ZaD s r c) ZbD
theorem Z3(s:ZB)(r:Rd)(a b:Int):Zaa s (digR s r a b)<=Zaa s r:=Zdi (Zci s r a b) Zea
theorem ZcC(s:ZB)(r:Rd)(ls:List Int):Zaa s (varR s r ls)<=Zaa s r:=Zdi (ZeQ s r ls) λh=>(Zft h).1
theorem Zhe(s:ZB)(r:Rd):Zaa s (num s r).2<=Zaa s r:=Zdi (ZgF _ _ _) (Zjm _ _ _)
theorem Zs{r:Rd}(h:tok s r≠0):Zaa s (nx (adv s r))+8<=Zaa s r:=by
 have:=ZK h
 have he:=(Z5 h).1
 unfold Zaa
 rw[Zdt,Zk,if_pos he]
 omega
theorem Zkm{r:Rd}(h:r.er≠0):Zaa s r=0:=by unfold Zaa;rw[Zdc h,if_neg h]
theorem ZeT(s:ZB)(ex:Tq×Sq->Tq×Sq)(hx:∀x,pot s (ex x).1<=pot s x.1+2)(x:Tq×Sq):pot s (termQ s ex x).1<=pot s x.1+2:=by
 have ha:=Zh s x.1.r
 unfold termQ
 split
 ·rw[ZaG,ZaG]
  have:=Zhe s (adv s x.1.r)
  show (x.1.cd++_).length+x.1.ss.length+Zaa s (num s (adv s x.1.r)).2<=_
  rw[Qe]
  simp only[Qt,Qy]
  omega
 ·split
  ·rw[ZaG,ZaG]
   unfold Ziu
   have h1:=Z3 s (tk s (adv s x.1.r) 36) 0 (x.1.n-1)
   have h2:=ZM s (adv s x.1.r) 36
   show (x.1.cd++_).length+x.1.ss.length+Zaa s (digR s (tk s (adv s x.1.r) 36) 0 (x.1.n-1))<=_
   rw[Qe]
   simp only[Qt,Qy]
   omega
  ·split
   ·rename_i h1 h2 h3
    have h4:=Zs (s:=s) (r:=x.1.r) (by omega)
    have h5:=hx ({x.1 with r:=nx (adv s x.1.r)},x.2)
    have h6:pot s ({x.1 with r:=nx (adv s x.1.r)}:Tq)=x.1.cd.length+x.1.ss.length+Zaa s (nx (adv s x.1.r)):=ZaG _ _
    have h7:=ZM s (ex ({x.1 with r:=nx (adv s x.1.r)},x.2)).1.r 41
    have h8:=ZaG s (ex ({x.1 with r:=nx (adv s x.1.r)},x.2)).1
    rw[ZaG,ZaG]
    show (ex ({x.1 with r:=nx (adv s x.1.r)},x.2)).1.cd.length+(ex ({x.1 with r:=nx (adv s x.1.r)},x.2)).1.ss.length+Zaa s (tk s (ex ({x.1 with r:=nx (adv s x.1.r)},x.2)).1.r 41)<=_
    have h5:pot s (ex ({x.1 with r:=nx (adv s x.1.r)},x.2)).1<=pot s ({x.1 with r:=nx (adv s x.1.r)}:Tq)+2:=h5
    omega
   ·rw[ZaG,ZaG]
    unfold Ziv
    have h1:=ZcC s (adv s x.1.r) x.1.ls
    show (x.1.cd++_).length+x.1.ss.length+Zaa s (varR s (adv s x.1.r) x.1.ls)<=_
    rw[Qe]
    simp only[Qt,Qy]
    omega
theorem Zao(s:ZB)(q:Tq)(a b:Int):pot s (emitQ q a b)=pot s q+2:=by
 rw[ZaG,ZaG]
 show (q.cd++_).length+q.ss.length+Zaa s q.r=_
 rw[Qe]
 simp only[Qt,Qy]
 omega
theorem Zec(s:ZB)(q:Tq)(x:Sq):pot s (addQ q x)=pot s q+1:=by
 rw[ZaG,ZaG]
 show q.cd.length+(q.ss++[x]).length+Zaa s q.r=_
 rw[Qe]
 simp only[Qt,Qy]
 omega
theorem Zfx(s:ZB)(q:Tq)(z:Nat):pot s (aimQ q z)=pot s q:=by
 rw[ZaG,ZaG]
 show (q.cd.set _ _).length+q.ss.length+Zaa s q.r=_
 rw[Um]
theorem ZaL(s:ZB)(q:Tq)(r:Rd):pot s {q with r:=r}=q.cd.length+q.ss.length+Zaa s r:=ZaG _ _
theorem ZaU{q:Tq}{r:Rd}(h:Zaa s r<=Zaa s q.r):pot s {q with r:=r}<=pot s q:=by rw[ZaL,ZaG];omega
theorem Zkn(s:ZB)(tm:Tq×Sq->Tq×Sq)(hx:∀x,pot s (tm x).1<=pot s x.1+2):∀(k:Nat) (x:Tq×Sq),pot s (moreQ s tm k x).1<=pot s x.1
 | 0,x=>ZaU (Zh _ _)
 | k+1,x=>by
  simp only[moreQ]
  split
  ·exact ZaU (Zh _ _)
  ·rename_i h0
   have hp:=ZbG h0
   have h4:=Zs (s:=s) (r:=x.1.r) hp.1
   refine Qg (Zkn s tm hx k _) ?_
   show pot s (emitQ (tm ({x.1 with r:=nx (adv s x.1.r)},x.2)).1 (opOf (tok s x.1.r)) 0)<=_
   rw[Zao]
   have h6:pot s (tm ({x.1 with r:=nx (adv s x.1.r)},x.2)).1<=x.1.cd.length+x.1.ss.length+Zaa s (nx (adv s x.1.r))+2:=Qg (hx ({x.1 with r:=nx (adv s x.1.r)},x.2)) (Nat.le_of_eq (congrArg (·+2) (ZaL s x.1 _)))
   rw[ZaG s x.1]
   generalize pot s (tm ({x.1 with r:=nx (adv s x.1.r)},x.2)).1=pz at *
   omega
theorem ZdQ(s:ZB):∀(k:Nat) (x:Tq×Sq),pot s (exprQ s k x).1<=pot s x.1+2
 | 0,x=>by simp only[exprQ];omega
 | k+1,x=>by
  simp only[exprQ]
  exact Qg (Zkn s _ (ZeT s _ (ZdQ s k)) k _) (ZeT s _ (ZdQ s k) x)
theorem Zex(s:ZB)(x:Tq×Sq):pot s (exQ s x).1<=pot s x.1+2:=ZdQ s _ x
theorem Zko(s:ZB)(f:Tq->Tq)(hf:∀q,q.r.er=0->pot s (f q)<=pot s q):∀(k:Nat) (q:Tq),pot s (loopQ s f k q)<=pot s q
 | 0,q=>ZaU (Zh _ _)
 | k+1,q=>by
  simp only[loopQ]
  split
  ·rename_i h
   have h1:=Zko s f hf k (f {q with r:=adv s q.r})
   have h2:=hf {q with r:=adv s q.r} (by show (adv s q.r).er=0;rw[Zk];exact h.1)
   have h3:=ZaU (q:=q) (Zh s q.r)
   omega
  ·exact ZaU (Zh _ _)
theorem Zed(s:ZB)(f:Tq->Tq)(hf:∀q,q.r.er=0->pot s (f q)<=pot s q)(k:Nat)(q:Tq):pot s (blkQ s f k q)<=pot s q:=by
 have h1:=ZaU (q:=q) (ZM s q.r 123)
 have h2:=Zko s f hf k {q with r:=tk s q.r 123}
 have h3:=ZaU (q:=loopQ s f k {q with r:=tk s q.r 123}) (ZM s (loopQ s f k {q with r:=tk s q.r 123}).r 125)
 exact Qg h3 (Qg h2 h1)
theorem ZbP(s:ZB):∀(k:Nat) (ou:Int) (q:Tq),q.r.er=0->pot s (stmQ s k ou q)<=pot s q
 | 0,ou,q,he=>Qb _
 | k+1,ou,q,he=>by
  have e1:∀c,tok s q.r=c->c≠0->tk s (adv s q.r) c=nx (adv s q.r):=λc h hc=>by rw[<-h];exact Z8 (by rw[h];exact hc)
  have hq:=ZaG s q
  simp only[stmQ]
  by_cases h1:tok s q.r=62
  ·rw[if_pos h1]
   unfold ZlA
   dsimp only
   rw[e1 62 h1 (by omega),Zec,Zao]
   have h4:=Zs (s:=s) (r:=q.r) (by omega)
   have h5:=Zex s ({q with r:=digR s (nx (adv s q.r)) 0 (q.n-1)},{k:=2,pl:=((adv s q.r).a:Int),ou:=ou,ta:=dig s (nx (adv s q.r)) 0 (q.n-1),rd:=none6,tp:=none6})
   have h6:=ZaL s q (digR s (nx (adv s q.r)) 0 (q.n-1))
   have h7:=Z3 s (nx (adv s q.r)) 0 (q.n-1)
   generalize exQ s ({q with r:=digR s (nx (adv s q.r)) 0 (q.n-1)},{k:=2,pl:=((adv s q.r).a:Int),ou:=ou,ta:=dig s (nx (adv s q.r)) 0 (q.n-1),rd:=none6,tp:=none6})=y at *
   have h8:=ZaU (q:=y.1) (ZM s y.1.r 59)
   have h5:pot s y.1<=pot s ({q with r:=digR s (nx (adv s q.r)) 0 (q.n-1)}:Tq)+2:=h5
   rw[h6]at h5
   refine Qg (Ub (Ub h8 2) 1) ?_
   omega
  ·rw[if_neg h1]
   by_cases h2:tok s q.r=63
   ·rw[if_pos h2]
    unfold ZkC
    dsimp only
    rw[e1 63 h2 (by omega)]
    have h4:=Zs (s:=s) (r:=q.r) (by omega)
    have h5:=Zex s ({q with r:=nx (adv s q.r)},{k:=3,pl:=((adv s q.r).a:Int),ou:=ou,ta:=0,rd:=none6,tp:=none6})
    have h6:=ZaL s q (nx (adv s q.r))
    generalize exQ s ({q with r:=nx (adv s q.r)},{k:=3,pl:=((adv s q.r).a:Int),ou:=ou,ta:=0,rd:=none6,tp:=none6})=y at *
    have h5:pot s y.1<=pot s ({q with r:=nx (adv s q.r)}:Tq)+2:=h5
    rw[h6]at h5
    have h7:=Zed s (stmQ s k y.1.ss.length) (ZbP s k _) k (emitQ (addQ y.1 y.2) 9 0)
    rw[Zao,Zec]at h7
    generalize blkQ s (stmQ s k y.1.ss.length) k (emitQ (addQ y.1 y.2) 9 0)=u at *
    split
    ·rename_i h8
     have h9:=Zs (s:=s) (r:=u.r) (by omega)
     have h10:=Zed s (stmQ s k y.1.ss.length) (ZbP s k _) k (aimQ (emitQ {u with r:=nx (adv s u.r)} 8 0) (plQ y.1))
     rw[Zfx,Zao,ZaL s u (nx (adv s u.r))]at h10
     rw[Zfx]
     have h11:=ZaG s u
     refine Qg h10 ?_
     omega
    ·rw[Zfx]
     have h9:=ZaU (q:=u) (Zh s u.r)
     refine Qg h9 ?_
     omega
   ·rw[if_neg h2]
    by_cases h3:tok s q.r=64
    ·rw[if_pos h3]
     unfold ZkD
     dsimp only
     rw[e1 64 h3 (by omega)]
     have h4:=Zs (s:=s) (r:=q.r) (by omega)
     have h5:=Zex s ({q with r:=nx (adv s q.r)},{k:=4,pl:=((adv s q.r).a:Int),ou:=ou,ta:=0,rd:=none6,tp:=none6})
     have h6:=ZaL s q (nx (adv s q.r))
     generalize exQ s ({q with r:=nx (adv s q.r)},{k:=4,pl:=((adv s q.r).a:Int),ou:=ou,ta:=0,rd:=none6,tp:=none6})=y at *
     have h5:pot s y.1<=pot s ({q with r:=nx (adv s q.r)}:Tq)+2:=h5
     rw[h6]at h5
     have h7:=Zed s (stmQ s k y.1.ss.length) (ZbP s k _) k (emitQ (addQ y.1 y.2) 9 0)
     rw[Zao,Zec]at h7
     rw[Zfx,Zao]
     refine Qg (Ub h7 2) ?_
     omega
    ·rw[if_neg h3]
     unfold ZkB
     dsimp only
     rw[Za5,Zec,Zao]
     have hv:Zaa s (varR s q.r q.ls)+8<=Zaa s q.r:=by
      cases h:ZaW s q.r q.ls with
      | true=>
       have:varR s q.r q.ls=nx (adv s q.r):=by unfold varR Zbn;rw[if_pos h]
       rw[this]
       exact Zs (Ze1 h)
      | false=>
       have:varR s q.r q.ls=rfs (adv s q.r) (if isL (tok s q.r)=true then 12 else 11):=by unfold varR Zbn;rw[if_neg (by rw[h];simp)]
       rw[this,Zkm (Zan (by split<;>omega))]
       unfold Zaa
       rw[if_pos he]
       omega
     have h7:=ZM s (varR s q.r q.ls) 61
     have h5:=Zex s ({q with r:=tk s (varR s q.r q.ls) 61},{k:=1,pl:=((adv s q.r).a:Int),ou:=ou,ta:=lvOf {q with r:=adv s q.r} (varI s (adv s q.r) q.ls),rd:=none6,tp:=none6})
     have h6:=ZaL s q (tk s (varR s q.r q.ls) 61)
     generalize exQ s ({q with r:=tk s (varR s q.r q.ls) 61},{k:=1,pl:=((adv s q.r).a:Int),ou:=ou,ta:=lvOf {q with r:=adv s q.r} (varI s (adv s q.r) q.ls),rd:=none6,tp:=none6})=y at *
     have h8:=ZaU (q:=y.1) (ZM s y.1.r 59)
     have h5:pot s y.1<=pot s ({q with r:=tk s (varR s q.r q.ls) 61}:Tq)+2:=h5
     rw[h6]at h5
     refine Qg (Ub (Ub h8 2) 1) ?_
     omega
structure Gd(s:ZB)(q:Tq):Prop where
 le:q.r.a<=s.size
 n0:0<=q.n
 n6:q.n<=6
 vb:∀x,x∈q.vs->0<=x∧x<6
 ll:q.ls.length<=1000
 vl:q.vs.length=q.ls.length
 h0:-(q.cd.length:Int)<=q.h
 h1:q.h<=q.cd.length
 ev:q.cd.length%2=0
theorem ZsA(op:Int):(0<=givesF op∧givesF op<=1)∧(0<=takesF op∧takesF op<=2):=by
 constructor
 ·unfold givesF;split<;>omega
 ·unfold takesF
  split
  ·omega
  ·split<;>omega
theorem Gd.emit{q:Tq}(G:Gd s q)(op x:Int):Gd s (emitQ q op x):=by
 obtain⟨⟨a,b⟩,c,d⟩:=ZsA op
 have h0:=G.h0
 have h1:=G.h1
 have ev:=G.ev
 have hl:(emitQ q op x).cd.length=q.cd.length+2:=by show (q.cd++_).length=_;rw[Qe];rfl
 exact⟨G.le,G.n0,G.n6,G.vb,G.ll,G.vl,by rw[hl];show _<=q.h+givesF op-takesF op;omega,by rw[hl];show q.h+givesF op-takesF op<=_;omega,by rw[hl];omega⟩
theorem Gd.r{q:Tq}(G:Gd s q){r:Rd}(h:r.a<=s.size):Gd s {q with r:=r}:=⟨h,G.n0,G.n6,G.vb,G.ll,G.vl,G.h0,G.h1,G.ev⟩
theorem Gd.aim{q:Tq}(G:Gd s q)(z:Nat):Gd s (aimQ q z):=by
 have hl:(aimQ q z).cd.length=q.cd.length:=by show (q.cd.set _ _).length=_;rw[Um]
 exact⟨G.le,G.n0,G.n6,G.vb,G.ll,G.vl,by rw[hl];exact G.h0,by rw[hl];exact G.h1,by rw[hl];exact G.ev⟩
theorem Gd.add{q:Tq}(G:Gd s q)(x:Sq):Gd s (addQ q x):=⟨G.le,G.n0,G.n6,G.vb,G.ll,G.vl,G.h0,G.h1,G.ev⟩
theorem Zad{r:Rd}(ha:0<=a)(h:r.a<=s.size):(digR s r a b).a<=s.size:=ZiT h (λk=>ZiU ha k)
theorem ZcD{r:Rd}(h:r.a<=s.size):(varR s r ls).a<=s.size:=ZiT h Ze1
theorem Zak{r:Rd}(h:tok s r≠0):(nx (adv s r)).a<=s.size:=Zn1 h
theorem Zhf{ex:Tq×Sq->Tq×Sq}(hx:∀x,Gd s x.1->Gd s (ex x).1){x:Tq×Sq}(G:Gd s x.1):Gd s (termQ s ex x).1:=by
 unfold termQ
 split
 ·exact(G.r (ZgG _ _ _ (Ze G.le))).emit _ _
 ·split
  ·exact(G.r (r:=digR s (tk s (adv s x.1.r) 36) 0 (x.1.n-1)) (Zad (by omega) (Z0 (Ze G.le) (by omega)))).emit _ _
  ·split
   ·have h1:=hx ({x.1 with r:=nx (adv s x.1.r)},x.2) (G.r (Zak (by omega)))
    exact h1.r (Z0 h1.le (by omega))
   ·exact(G.r (r:=varR s (adv s x.1.r) x.1.ls) (ZcD (Ze G.le))).emit _ _
theorem Zna{tm:Tq×Sq->Tq×Sq}(hx:∀x,Gd s x.1->Gd s (tm x).1):∀(k:Nat) (x:Tq×Sq),Gd s x.1->Gd s (moreQ s tm k x).1
 | 0,x,G=>G.r (Ze G.le)
 | k+1,x,G=>by
  simp only[moreQ]
  split
  ·exact G.r (Ze G.le)
  ·rename_i h0
   exact Zna hx k _ ((hx ({x.1 with r:=nx (adv s x.1.r)},x.2) (G.r (Zak (ZbG h0).1))).emit _ _)
theorem Zee:∀(k:Nat) (x:Tq×Sq),Gd s x.1->Gd s (exprQ s k x).1
 | 0,x,G=>G
 | k+1,x,G=>by
  simp only[exprQ]
  exact Zna (λx G=>Zhf (Zee k) G) k _ (Zhf (Zee k) G)
theorem Zif{x:Tq×Sq}(G:Gd s x.1):Gd s (exQ s x).1:=Zee _ x G
theorem Zjp{f:Tq->Tq}(hf:∀q,Gd s q->Gd s (f q)):∀(k:Nat) (q:Tq),Gd s q->Gd s (loopQ s f k q)
 | 0,q,G=>G.r (Ze G.le)
 | k+1,q,G=>by
  simp only[loopQ]
  split
  ·exact Zjp hf k _ (hf _ (G.r (Ze G.le)))
  ·exact G.r (Ze G.le)
theorem Zgp{f:Tq->Tq}(hf:∀q,Gd s q->Gd s (f q))(k:Nat){q:Tq}(G:Gd s q):Gd s (blkQ s f k q):=by
 have h1:=Zjp hf k _ (G.r (r:=tk s q.r 123) (Z0 G.le (by omega)))
 exact h1.r (Z0 h1.le (by omega))
theorem Zc6:∀(k:Nat) (ou:Int) (q:Tq),Gd s q->Gd s (stmQ s k ou q)
 | 0,ou,q,G=>G
 | k+1,ou,q,G=>by
  have Ga:=G.r (Ze G.le)
  simp only[stmQ]
  split
  ·unfold ZlA
   have h1:=Zif (s:=s) (x:=({q with r:=digR s (tk s (adv s q.r) 62) 0 (q.n-1)},{k:=2,pl:=((adv s q.r).a:Int),ou:=ou,ta:=dig s (tk s (adv s q.r) 62) 0 (q.n-1),rd:=none6,tp:=none6})) (G.r (Zad (by omega) (Z0 (Ze G.le) (by omega))))
   exact((h1.r (Z0 h1.le (by omega))).emit _ _).add _
  ·split
   ·unfold ZkC
    have h1:=Zif (s:=s) (x:=({q with r:=tk s (adv s q.r) 63},{k:=3,pl:=((adv s q.r).a:Int),ou:=ou,ta:=0,rd:=none6,tp:=none6})) (G.r (Z0 (Ze G.le) (by omega)))
    generalize exQ s ({q with r:=tk s (adv s q.r) 63},{k:=3,pl:=((adv s q.r).a:Int),ou:=ou,ta:=0,rd:=none6,tp:=none6})=y at *
    have h2:=Zgp (Zc6 k y.1.ss.length) k ((h1.add y.2).emit 9 0)
    dsimp only
    generalize blkQ s (stmQ s k y.1.ss.length) k (emitQ (addQ y.1 y.2) 9 0)=u at *
    split
    ·rename_i h3
     exact(Zgp (Zc6 k y.1.ss.length) k (((h2.r (Zak (s:=s) (r:=u.r) (by omega))).emit 8 0).aim _)).aim _
    ·exact(h2.r (Ze h2.le)).aim _
   ·split
    ·unfold ZkD
     have h1:=Zif (s:=s) (x:=({q with r:=tk s (adv s q.r) 64},{k:=4,pl:=((adv s q.r).a:Int),ou:=ou,ta:=0,rd:=none6,tp:=none6})) (G.r (Z0 (Ze G.le) (by omega)))
     generalize exQ s ({q with r:=tk s (adv s q.r) 64},{k:=4,pl:=((adv s q.r).a:Int),ou:=ou,ta:=0,rd:=none6,tp:=none6})=y at *
     have h2:=Zgp (Zc6 k y.1.ss.length) k ((h1.add y.2).emit 9 0)
     exact(h2.emit _ _).aim _
    ·unfold ZkB
     have h1:=Zif (s:=s) (x:=({q with r:=tk s (varR s (adv s q.r) q.ls) 61},{k:=1,pl:=((adv s q.r).a:Int),ou:=ou,ta:=lvOf {q with r:=adv s q.r} (varI s (adv s q.r) q.ls),rd:=none6,tp:=none6})) (G.r (Z0 (ZcD (Ze G.le)) (by omega)))
     exact((h1.r (Z0 h1.le (by omega))).emit _ _).add _
theorem Zkp(s:ZB):∀(k:Nat) (x:Tq×Sq),x.1.cd.length<=(exprQ s k x).1.cd.length
 | 0,x=>Qb _
 | k+1,x=>by
  have ht:∀x:Tq×Sq,x.1.cd.length<=(termQ s (exprQ s k) x).1.cd.length:=by
   intro x
   unfold termQ
   split
   ·show _<=(x.1.cd++_).length;rw[Qe];omega
   ·split
    ·show _<=(x.1.cd++_).length;rw[Qe];omega
    ·split
     ·exact Zkp s k ({x.1 with r:=nx (adv s x.1.r)},x.2)
     ·show _<=(x.1.cd++_).length;rw[Qe];omega
  have hm:∀(j:Nat) (x:Tq×Sq),x.1.cd.length<=(moreQ s (termQ s (exprQ s k)) j x).1.cd.length:=by
   intro j
   induction j with
   | zero=>intro x;exact Qb _
   | succ j ih=>
    intro x
    simp only[moreQ]
    split
    ·exact Qb _
    ·refine Qg ?_ (ih _)
     have:=ht ({x.1 with r:=nx (adv s x.1.r)},x.2)
     show _<=((termQ s (exprQ s k) ({x.1 with r:=nx (adv s x.1.r)},x.2)).1.cd++_).length
     rw[Qe]
     exact Qg this (Nat.le_add_right _ _)
  simp only[exprQ]
  exact Qg (ht x) (hm k _)
theorem Zkq(s:ZB)(f:Tq->Tq)(hf:∀q,q.cd.length<=(f q).cd.length):∀(k:Nat) (q:Tq),q.cd.length<=(loopQ s f k q).cd.length
 | 0,q=>Qb _
 | k+1,q=>by
  simp only[loopQ]
  split
  ·exact Qg (hf {q with r:=adv s q.r}) (Zkq s f hf k _)
  ·exact Qb _
theorem Zef(s:ZB)(f:Tq->Tq)(hf:∀q,q.cd.length<=(f q).cd.length)(k:Nat)(q:Tq):q.cd.length<=(blkQ s f k q).cd.length:=Zkq s f hf k {q with r:=tk s q.r 123}
theorem Zeg(s:ZB):∀(k:Nat) (ou:Int) (q:Tq),q.cd.length<=(stmQ s k ou q).cd.length
 | 0,ou,q=>Qb _
 | k+1,ou,q=>by
  have ex:∀(r:Rd) (x:Sq),q.cd.length<=(exQ s ({q with r:=r},x)).1.cd.length:=λr x=>Zkp s _ ({q with r:=r},x)
  have em:∀(q:Tq) (a b:Int),q.cd.length<=(emitQ q a b).cd.length:=λq a b=>by show _<=(q.cd++_).length;rw[Qe];omega
  have ai:∀(q:Tq) (z:Nat),q.cd.length<=(aimQ q z).cd.length:=λq z=>by show _<=(q.cd.set _ _).length;rw[Um];exact Qb _
  simp only[stmQ]
  split
  ·exact Qg (ex _ _) (em _ _ _)
  ·split
   ·unfold ZkC
    dsimp only
    have h1:=ex (tk s (adv s q.r) 63) {k:=3,pl:=((adv s q.r).a:Int),ou:=ou,ta:=0,rd:=none6,tp:=none6}
    generalize exQ s ({q with r:=tk s (adv s q.r) 63},{k:=3,pl:=((adv s q.r).a:Int),ou:=ou,ta:=0,rd:=none6,tp:=none6})=y at *
    have h2:=Qg (em (addQ y.1 y.2) 9 0) (Zef s (stmQ s k y.1.ss.length) (Zeg s k _) k (emitQ (addQ y.1 y.2) 9 0))
    generalize blkQ s (stmQ s k y.1.ss.length) k (emitQ (addQ y.1 y.2) 9 0)=u at *
    split
    ·have h3:=Qg (Qg (em {u with r:=nx (adv s u.r)} 8 0) (ai _ (plQ y.1))) (Zef s (stmQ s k y.1.ss.length) (Zeg s k _) k _)
     exact Qg (Qg (Qg h1 h2) h3) (ai _ _)
    ·exact Qg (Qg h1 h2) (ai {u with r:=adv s u.r} _)
   ·split
    ·unfold ZkD
     dsimp only
     have h1:=ex (tk s (adv s q.r) 64) {k:=4,pl:=((adv s q.r).a:Int),ou:=ou,ta:=0,rd:=none6,tp:=none6}
     generalize exQ s ({q with r:=tk s (adv s q.r) 64},{k:=4,pl:=((adv s q.r).a:Int),ou:=ou,ta:=0,rd:=none6,tp:=none6})=y at *
     have h2:=Qg (em (addQ y.1 y.2) 9 0) (Zef s (stmQ s k y.1.ss.length) (Zeg s k _) k (emitQ (addQ y.1 y.2) 9 0))
     exact Qg (Qg h1 h2) (Qg (em _ 8 _) (ai _ _))
    ·exact Qg (ex _ _) (em _ _ _)
def potP(s:ZB)(p:Rs):Nat:=p.ex.length+p.sm.length+Zaa s p.r
theorem ZU(s:ZB)(p:Rs)(r:Rd):potP s {p with r:=r}=p.ex.length+p.sm.length+Zaa s r:=rfl
theorem ZbQ{p:Rs}{r:Rd}(h:Zaa s r<=Zaa s p.r):potP s {p with r:=r}<=potP s p:=by unfold potP;exact Nat.add_le_add_left h _
theorem ZdR(s:ZB)(p:Rs)(r:Rd)(x:Ex):potP s (nodP p r x).1=p.ex.length+p.sm.length+Zaa s r+1:=by
 show (p.ex++[x]).length+p.sm.length+Zaa s r=_
 rw[Qe]
 simp only[Qt,Qy]
 omega
theorem ZdS(s:ZB)(p:Rs)(r:Rd)(x:Sm):potP s (ZeC p r x).1=p.ex.length+p.sm.length+Zaa s r+1:=by
 show p.ex.length+(p.sm++[x]).length+Zaa s r=_
 rw[Qe]
 simp only[Qt,Qy]
 omega
theorem ZdT(s:ZB)(ex:Rs->Rs×Nat)(hx:∀p,potP s (ex p).1<=potP s p+1)(p:Rs):potP s (termP s ex p).1<=potP s p+1:=by
 have ha:=Zh s p.r
 have hq:potP s p=p.ex.length+p.sm.length+Zaa s p.r:=rfl
 unfold termP
 split
 ·rw[ZdR]
  have:=Zhe s (adv s p.r)
  omega
 ·split
  ·rename_i h1 h2
   rw[ZdR]
   have h4:=Zs (s:=s) (r:=p.r) (by omega)
   have h5:=Z3 s (nx (adv s p.r)) 0 (p.n-1)
   omega
  ·split
   ·rename_i h1 h2 h3
    have h4:=Zs (s:=s) (r:=p.r) (by omega)
    have h5:=hx {p with r:=nx (adv s p.r)}
    rw[ZU s p (nx (adv s p.r))]at h5
    generalize ex {p with r:=nx (adv s p.r)}=y at *
    have h7:=ZbQ (p:=y.1) (ZM s y.1.r 41)
    refine Qg h7 ?_
    omega
   ·rw[ZdR]
    have h1:=ZcC s p.r p.ls
    omega
theorem Zig(s:ZB)(tm:Rs->Rs×Nat)(hx:∀p,potP s (tm p).1<=potP s p+1):∀(k:Nat) (x:Rs×Nat),potP s (moreP s tm k x).1<=potP s x.1
 | 0,x=>ZbQ (Zh _ _)
 | k+1,x=>by
  simp only[moreP]
  split
  ·exact ZbQ (Zh _ _)
  ·rename_i h0
   have hp:=ZbG h0
   have h4:=Zs (s:=s) (r:=x.1.r) hp.1
   have h5:=hx {x.1 with r:=nx (adv s x.1.r)}
   rw[ZU s x.1 (nx (adv s x.1.r))]at h5
   have hq:potP s x.1=x.1.ex.length+x.1.sm.length+Zaa s x.1.r:=rfl
   generalize tm {x.1 with r:=nx (adv s x.1.r)}=y at *
   refine Qg (Zig s tm hx k _) ?_
   rw[ZdR]
   have h6:potP s y.1=y.1.ex.length+y.1.sm.length+Zaa s y.1.r:=rfl
   omega
theorem ZcE(s:ZB):∀(k:Nat) (p:Rs),potP s (exprP s k p).1<=potP s p+1
 | 0,p=>by simp only[exprP];omega
 | k+1,p=>by
  simp only[exprP]
  exact Qg (Zig s _ (ZdT s _ (ZcE s k)) k _) (ZdT s _ (ZcE s k) p)
theorem Zck(s:ZB)(p:Rs):potP s (exP s p).1<=potP s p+1:=ZcE s _ p
theorem Zjq(h:isS t=true):t≠0:=by
 intro e
 rw[e]at h
 exact absurd h (by decide)
theorem Zfy(s:ZB)(f:Rs->Rs×Nat)(hf:∀p,p.r.er=0->potP s (f p).1<=potP s p):∀(k:Nat) (p:Rs) (l:List Nat),potP s (loopP s f k p l).1<=potP s p
 | 0,p,l=>ZbQ (Zh _ _)
 | k+1,p,l=>by
  simp only[loopP]
  split
  ·rename_i h
   have h1:=Zfy s f hf k (f {p with r:=adv s p.r}).1 (l++[(f {p with r:=adv s p.r}).2])
   have h2:=hf {p with r:=adv s p.r} (by show (adv s p.r).er=0;rw[Zk];exact(Z5 (Zjq h)).1)
   have h3:=ZbQ (p:=p) (Zh s p.r)
   omega
  ·exact ZbQ (Zh _ _)
theorem Zcl(s:ZB)(f:Rs->Rs×Nat)(hf:∀p,p.r.er=0->potP s (f p).1<=potP s p)(k:Nat)(p:Rs):potP s (blkP s f k p).1<=potP s p:=by
 have h1:=ZbQ (p:=p) (ZM s p.r 123)
 have h2:=Zfy s f hf k {p with r:=tk s p.r 123} []
 unfold blkP
 generalize loopP s f k {p with r:=tk s p.r 123} []=y at *
 have h3:=ZbQ (p:=y.1) (ZM s y.1.r 125)
 exact Qg h3 (Qg h2 h1)
theorem Zbl(s:ZB):∀(k:Nat) (p:Rs),p.r.er=0->potP s (stmP s k p).1<=potP s p
 | 0,p,he=>Qb _
 | k+1,p,he=>by
  have e1:∀c,tok s p.r=c->c≠0->tk s (adv s p.r) c=nx (adv s p.r):=λc h hc=>by rw[<-h];exact Z8 (by rw[h];exact hc)
  have hq:potP s p=p.ex.length+p.sm.length+Zaa s p.r:=rfl
  simp only[stmP]
  by_cases h1:tok s p.r=62
  ·rw[if_pos h1]
   unfold ZnI
   dsimp only
   rw[e1 62 h1 (by omega),ZdS]
   have h4:=Zs (s:=s) (r:=p.r) (by omega)
   have h5:=Zck s {p with r:=digR s (nx (adv s p.r)) 0 (p.n-1)}
   rw[ZU s p (digR s (nx (adv s p.r)) 0 (p.n-1))]at h5
   have h7:=Z3 s (nx (adv s p.r)) 0 (p.n-1)
   generalize exP s {p with r:=digR s (nx (adv s p.r)) 0 (p.n-1)}=y at *
   have h8:=ZM s y.1.r 59
   have h9:potP s y.1=y.1.ex.length+y.1.sm.length+Zaa s y.1.r:=rfl
   omega
  ·rw[if_neg h1]
   by_cases h2:tok s p.r=63
   ·rw[if_pos h2]
    unfold ZlE
    dsimp only
    rw[e1 63 h2 (by omega)]
    have h4:=Zs (s:=s) (r:=p.r) (by omega)
    have h5:=Zck s {p with r:=nx (adv s p.r)}
    rw[ZU s p (nx (adv s p.r))]at h5
    generalize exP s {p with r:=nx (adv s p.r)}=y at *
    have h7:=Zcl s (stmP s k) (Zbl s k) k y.1
    generalize blkP s (stmP s k) k y.1=u at *
    have h9:potP s u.1=u.1.ex.length+u.1.sm.length+Zaa s u.1.r:=rfl
    split
    ·rename_i h8
     have h8:=Zs (s:=s) (r:=u.1.r) (by omega)
     have h10:=Zcl s (stmP s k) (Zbl s k) k {u.1 with r:=nx (adv s u.1.r)}
     rw[ZU s u.1 (nx (adv s u.1.r))]at h10
     generalize blkP s (stmP s k) k {u.1 with r:=nx (adv s u.1.r)}=v at *
     rw[ZdS]
     have h11:potP s v.1=v.1.ex.length+v.1.sm.length+Zaa s v.1.r:=rfl
     omega
    ·rw[ZdS]
     have h10:=Zh s u.1.r
     omega
   ·rw[if_neg h2]
    by_cases h3:tok s p.r=64
    ·rw[if_pos h3]
     unfold ZnE
     dsimp only
     rw[e1 64 h3 (by omega)]
     have h4:=Zs (s:=s) (r:=p.r) (by omega)
     have h5:=Zck s {p with r:=nx (adv s p.r)}
     rw[ZU s p (nx (adv s p.r))]at h5
     generalize exP s {p with r:=nx (adv s p.r)}=y at *
     have h7:=Zcl s (stmP s k) (Zbl s k) k y.1
     generalize blkP s (stmP s k) k y.1=u at *
     rw[ZdS]
     have h9:potP s u.1=u.1.ex.length+u.1.sm.length+Zaa s u.1.r:=rfl
     omega
    ·rw[if_neg h3]
     unfold ZnH
     dsimp only
     rw[Za5,ZdS]
     have hv:Zaa s (varR s p.r p.ls)+8<=Zaa s p.r:=by
      cases h:ZaW s p.r p.ls with
      | true=>
       have:varR s p.r p.ls=nx (adv s p.r):=by unfold varR Zbn;rw[if_pos h]
       rw[this]
       exact Zs (Ze1 h)
      | false=>
       have:varR s p.r p.ls=rfs (adv s p.r) (if isL (tok s p.r)=true then 12 else 11):=by unfold varR Zbn;rw[if_neg (by rw[h];simp)]
       rw[this,Zkm (Zan (by split<;>omega))]
       unfold Zaa
       rw[if_pos he]
       omega
     have h7:=ZM s (varR s p.r p.ls) 61
     have h5:=Zck s {p with r:=tk s (varR s p.r p.ls) 61}
     rw[ZU s p (tk s (varR s p.r p.ls) 61)]at h5
     generalize exP s {p with r:=tk s (varR s p.r p.ls) 61}=y at *
     have h8:=ZM s y.1.r 59
     have h9:potP s y.1=y.1.ex.length+y.1.sm.length+Zaa s y.1.r:=rfl
     omega
structure Gp(s:ZB)(p:Rs):Prop where
 le:p.r.a<=s.size
 n1:1<=p.n
 n6:p.n<=6
 ll:p.ls.length<=8
 lb:∀x∈p.ls,97<=x∧x<=104
theorem Gp.r{p:Rs}(G:Gp s p){r:Rd}(h:r.a<=s.size):Gp s {p with r:=r}:=⟨h,G.n1,G.n6,G.ll,G.lb⟩
theorem Gp.nod{p:Rs}(G:Gp s p){r:Rd}(h:r.a<=s.size)(x:Ex):Gp s (nodP p r x).1:=⟨h,G.n1,G.n6,G.ll,G.lb⟩
theorem Gp.sto{p:Rs}(G:Gp s p){r:Rd}(h:r.a<=s.size)(x:Sm):Gp s (ZeC p r x).1:=⟨h,G.n1,G.n6,G.ll,G.lb⟩
theorem Zhg{ex:Rs->Rs×Nat}(hx:∀p,Gp s p->Gp s (ex p).1){p:Rs}(G:Gp s p):Gp s (termP s ex p).1:=by
 unfold termP
 split
 ·exact G.nod (ZgG _ _ _ (Ze G.le)) _
 ·split
  ·exact G.nod (Zad (by omega) (Zak (by omega))) _
  ·split
   ·have h1:=hx {p with r:=nx (adv s p.r)} (G.r (Zak (by omega)))
    exact h1.r (Z0 h1.le (by omega))
   ·exact G.nod (ZcD G.le) _
theorem Znb{tm:Rs->Rs×Nat}(hx:∀p,Gp s p->Gp s (tm p).1):∀(k:Nat) (x:Rs×Nat),Gp s x.1->Gp s (moreP s tm k x).1
 | 0,x,G=>G.r (Ze G.le)
 | k+1,x,G=>by
  simp only[moreP]
  split
  ·exact G.r (Ze G.le)
  ·rename_i h0
   have h1:=hx {x.1 with r:=nx (adv s x.1.r)} (G.r (Zak (ZbG h0).1))
   exact Znb hx k _ (h1.nod h1.le _)
theorem Zeh:∀(k:Nat) (p:Rs),Gp s p->Gp s (exprP s k p).1
 | 0,p,G=>G
 | k+1,p,G=>by
  simp only[exprP]
  exact Znb (λp G=>Zhg (Zeh k) G) k _ (Zhg (Zeh k) G)
theorem Zei{p:Rs}(G:Gp s p):Gp s (exP s p).1:=Zeh _ p G
theorem Zfz{f:Rs->Rs×Nat}(hf:∀p,Gp s p->Gp s (f p).1):∀(k:Nat) (p:Rs) (l:List Nat),Gp s p->Gp s (loopP s f k p l).1
 | 0,p,l,G=>G.r (Ze G.le)
 | k+1,p,l,G=>by
  simp only[loopP]
  split
  ·exact Zfz hf k _ _ (hf _ (G.r (Ze G.le)))
  ·exact G.r (Ze G.le)
theorem ZfA{f:Rs->Rs×Nat}(hf:∀p,Gp s p->Gp s (f p).1)(k:Nat){p:Rs}(G:Gp s p):Gp s (blkP s f k p).1:=by
 have h1:=Zfz hf k _ [] (G.r (r:=tk s p.r 123) (Z0 G.le (by omega)))
 exact h1.r (Z0 h1.le (by omega))
theorem Zb8:∀(k:Nat) (p:Rs),Gp s p->Gp s (stmP s k p).1
 | 0,p,G=>G
 | k+1,p,G=>by
  have Ga:=G.r (Ze G.le)
  simp only[stmP]
  split
  ·unfold ZnI
   have h1:=Zei (s:=s) (G.r (r:=digR s (tk s (adv s p.r) 62) 0 (p.n-1)) (Zad (by omega) (Z0 (Ze G.le) (by omega))))
   exact h1.sto (Z0 h1.le (by omega)) _
  ·split
   ·unfold ZlE
    have h1:=Zei (s:=s) (G.r (r:=tk s (adv s p.r) 63) (Z0 (Ze G.le) (by omega)))
    dsimp only
    generalize exP s {p with r:=tk s (adv s p.r) 63}=y at *
    have h2:=ZfA (Zb8 k) k h1
    generalize blkP s (stmP s k) k y.1=u at *
    split
    ·have h3:=ZfA (Zb8 k) k (h2.r (r:=nx (adv s u.1.r)) (Zak (by omega)))
     exact h3.sto h3.le _
    ·exact h2.sto (Ze h2.le) _
   ·split
    ·unfold ZnE
     have h1:=Zei (s:=s) (G.r (r:=tk s (adv s p.r) 64) (Z0 (Ze G.le) (by omega)))
     have h2:=ZfA (Zb8 k) k h1
     exact h2.sto h2.le _
    ·unfold ZnH
     have h1:=Zei (s:=s) (G.r (r:=tk s (varR s (adv s p.r) p.ls) 61) (Z0 (ZcD (Ze G.le)) (by omega)))
     exact h1.sto (Z0 h1.le (by omega)) _
def mkQ(p:Rs):Tq:=⟨p.r,p.n,0,λ_ _=>false,p.ls,p.vs,[],0,0,[]⟩
theorem Zkr(p:Rs):Ag (mkQ p) p:=⟨rfl,rfl,rfl,rfl⟩
theorem Zih(s:ZB)(k:Nat)(p:Rs)(hk:rem s p.r<=k):rem s (termP s (exprP s k) p).1.r<=rem s p.r:=
 (Zcj s k (ZbI s k) (mkQ p,⟨0,0,0,0,none6,none6⟩) p (Zkr p) hk).le
theorem Zjr(s:ZB)(p:Rs):rem s (exP s p).1.r<=rem s p.r:=(Zco s (mkQ p,⟨0,0,0,0,none6,none6⟩) p (Zkr p)).le
theorem Znc(s:ZB)(k:Nat)(p:Rs)(hk:rem s p.r<k)(ht:tok s p.r≠0):rem s (stmP s k p).1.r<rem s p.r:=by
 have h1:=(Zbc s k 0 (mkQ p) p (Zkr p) hk).1.r
 have h2:=Zm7 s k 0 (mkQ p) hk ht
 rw[h1]at h2
 exact h2
theorem Zks(s:ZB)(K k:Nat)(p:Rs)(hk:rem s p.r<K+1):rem s (blkP s (stmP s (K+1)) k p).1.r<=rem s p.r:=
 (Zeb s K 0 (λq p=>Zbc s (K+1) 0 q p) k (mkQ p) p (Zkr p) hk).1.le
structure Zse(s:ZB)(q0:Tq)(p0:Rs)(y:Tq)(z:Rs×List Nat):Prop where
 e:y.r=if z.1.r.er=0∧z.1.r.a<s.size then rfs z.1.r 11 else z.1.r
 fq:FrQ q0 y
 fp:FrP p0 z.1
 ok:y.r.er=0->Zrg q0 p0 y z
theorem Zkt(s:ZB):∀(k:Nat) (q0:Tq) (p0:Rs) (q:Tq) (p:Rs) (l:List Nat),Ag q0 p0->ZdZ s q0 p0 q p->Zrg q0 p0 q (p,l)->rem s p.r<k->Zse s q0 p0 (bodyQ s k q) (loopP s (stmP s (s.size+2)) k p l)
 | 0,q0,p0,q,p,l,hA,hS,hL,hk=>by omega
 | k+1,q0,p0,q,p,l,hA,hS,hL,hk=>by
  have fin:∀{y:Tq} {r:Rd},y={q with r:=r}->r.er=p.r.er->Zrg q0 p0 y ({p with r:=r},l):=by
   intro y r hy hr h hE hM hc
   subst hy
   obtain⟨M,a,b⟩:=hL (by have h:r.er=0:=h;rw[hr]at h;exact h) hE hM hc
   exact⟨⟨M.ex,M.sm,M.oe,M.os⟩,a,b⟩
  simp only[bodyQ,loopP]
  rw[hS.r]
  cases h:isS (tok s p.r) with
  | true=>
   have hn:tok s p.r≠0:=by
    unfold isS isL at h
    simp only[QJ,decide_eq_true_eq,QL]at h
    omega
   have he:=Z5 hn
   rw[if_pos he,if_pos rfl]
   have hA1:=hA.go hS.fq hS.fp hS.r
   have hrd:=Zt s p.r
   have hz:=Z1 s (adv s p.r)
   obtain⟨h1,h2⟩:=Zbc s (s.size+2) (-1) {q with r:=adv s p.r} {p with r:=adv s p.r} ⟨rfl,hA1.n,hA1.ls,hA1.vs⟩ (by show rem s (adv s p.r)<_;omega)
   have hlt:=Zm7 s (s.size+2) (-1) {q with r:=adv s p.r} (by show rem s (adv s p.r)<_;omega) (by show tok s (adv s p.r)≠0;rw[Zp];exact hn)
   rw[h1.r]at hlt
   have hlt:rem s (stmP s (s.size+2) {p with r:=adv s p.r}).1.r<rem s (adv s p.r):=hlt
   have he0:=he.1
   refine Zkt s k q0 p0 _ _ _ hA (hS.trans ⟨h1.r,Qg h1.le hrd,λe=>he0,⟨h1.fq.n,h1.fq.pn,h1.fq.pr,h1.fq.ls,h1.fq.vs⟩,⟨h1.fp.n,h1.fp.ls,h1.fp.vs⟩⟩) ?_ (by omega)
   intro h hE hM hc
   generalize stmQ s (s.size+2) (-1) {q with r:=adv s p.r}=y at *
   generalize stmP s (s.size+2) {p with r:=adv s p.r}=z at *
   obtain⟨M,a,b⟩:=hL he0 hE hM hc
   have hcq:q.cd.length%2=0:=by
    have:(q.cd).length=(q0.cd++als p.ex p.sm l (q0.cd.length/2)).length:=congrArg List.length b
    rw[Qe]at this
    have:=ZaT p.ex p.sm l (q0.cd.length/2)
    omega
   obtain⟨M2,a2,b2⟩:=h2 h M.oe M.os hcq
   have M2:Mo p z.1:=⟨M2.ex,M2.sm,M2.oe,M2.os⟩
   have b2:y.cd=q.cd++one z.1.ex z.1.sm z.2 (q.cd.length/2):=b2
   have b:q.cd=q0.cd++als p.ex p.sm l (q0.cd.length/2):=b
   refine⟨M.trans M2,λn hn=>?_,?_⟩
   ·rw[QI,QA]at hn
    rcases hn with hn|hn
    ·exact M2.lt (a n hn)
    ·rw[hn];exact a2
   ·rw[b2]
    show _=q0.cd++ZbL (one z.1.ex z.1.sm) (l++[z.2]) (q0.cd.length/2)
    rw[ZeS _ _ _ _ (Zc0 _ _)]
    have e1:ZbL (one z.1.ex z.1.sm) l (q0.cd.length/2)=als p.ex p.sm l (q0.cd.length/2):=M2.all M.oe M.os a _
    rw[e1]
    have hl2:q.cd.length/2=q0.cd.length/2+(als p.ex p.sm l (q0.cd.length/2)).length/2:=by
     have h1:=ZaT p.ex p.sm l (q0.cd.length/2)
     rw[b,Qe]
     omega
    rw[hl2,b,QE]
  | false=>
   rw[if_neg (show ¬(false=true) from by simp)]
   have e1:(adv s p.r).er=p.r.er:=Zk s p.r
   by_cases hq:p.r.er=0∧(adv s p.r).a<s.size
   ·rw[if_pos hq]
    have hd:=ZdO (s:=s) (k:=s.size+1) (ou:=-1) (q:={q with r:=adv s p.r}) (by show isS (tok s (adv s p.r))=false;rw[Zp];exact h)
    have hr:(stmQ s (s.size+2) (-1) {q with r:=adv s p.r}).r=rfs (adv s p.r) 11:=by rw[hd.1];show rfs (adv s (adv s p.r)) 11=_;rw[ZY]
    have hb:(rfs (adv s p.r) 11).er≠0:=Zan (by omega)
    have hf:=hd.2
    generalize stmQ s (s.size+2) (-1) {q with r:=adv s p.r}=y at *
    have hy:bodyQ s k y=y:=by
     cases k with
     | zero=>simp only[bodyQ];rw[Zz (by rw[hr];exact hb)]
     | succ k=>simp only[bodyQ];rw[if_neg (λc=>hb (by rw[<-hr];exact c.1)),Zz (by rw[hr];exact hb)]
    rw[hy]
    have hfq:FrQ q y:=⟨hf.n,hf.pn,hf.pr,hf.ls,hf.vs⟩
    refine⟨?_,hS.fq.trans hfq,⟨hS.fp.n,hS.fp.ls,hS.fp.vs⟩,λe=>absurd (by rw[<-hr];exact e) hb⟩
    show y.r=if (adv s p.r).er=0∧(adv s p.r).a<s.size then _ else _
    rw[if_pos ⟨by rw[e1];exact hq.1,hq.2⟩]
    exact hr
   ·rw[if_neg hq]
    refine⟨?_,⟨hS.fq.n,hS.fq.pn,hS.fq.pr,hS.fq.ls,hS.fq.vs⟩,⟨hS.fp.n,hS.fp.ls,hS.fp.vs⟩,λ_=>fin rfl e1⟩
    show adv s p.r=if (adv s p.r).er=0∧(adv s p.r).a<s.size then _ else _
    rw[if_neg (by rw[e1];exact hq)]
structure ZsF(s:ZB):Prop where
 r:(readQ s).r=endP s
 ok:(endP s).er=0->(readQ s).n=nP s∧(readQ s).pn=nP s∧(readQ s).vs=(headP s).vs∧Zo1 (readQ s).pr (prP s).2∧In (prP s).2 (nP s).toNat∧1<=nP s∧nP s<=6∧
  Z7 (readP s).1.ex∧ZaQ (readP s).1.ex (readP s).1.sm∧(∀n,n∈(readP s).2->n<(readP s).1.sm.length)∧(readQ s).cd=als (readP s).1.ex (readP s).1.sm (readP s).2 0
 p:(readP s).1.n=nP s∧(readP s).1.ls=(headP s).ls∧(readP s).1.vs=(headP s).vs
theorem ZfB{f:Rs->Rs×Nat}{p:Rs}{l:List Nat}(h:p.r.er≠0)(k:Nat):loopP s f k p l=(p,l):=by
 cases k with
 | zero=>simp only[loopP];rw[Zz h]
 | succ k=>simp only[loopP];rw[Zd3 h,if_neg (by unfold isS isL;simp),Zz h]
theorem Zii{q:Tq}(h:q.r.er≠0)(k:Nat):bodyQ s k q=q:=by
 cases k with
 | zero=>simp only[bodyQ];rw[Zz h]
 | succ k=>simp only[bodyQ];rw[if_neg (λc=>h c.1),Zz h]
theorem Zax(s:ZB):ZsF s:=by
 have hH:=Zhd s
 by_cases he:(headP s).r.er=0
 ·obtain⟨hA,hpn,hPr,hIn,n1,n6⟩:=hH.ok he
  have hB:=Zkt s (s.size+1) (headQ s startQ) (headP s) (headQ s startQ) (headP s) [] hA (ZdZ.refl hA.r) (λ_ hE hM _=>⟨⟨⟨[],by simp⟩,⟨[],by simp⟩,hE,hM⟩,λn hn=>by simp at hn,by simp[als,ZbL]⟩) (by have:=Z1 s (headP s).r;omega)
  have hB:Zse s (headQ s startQ) (headP s) (readQ s) (readP s):=hB
  have hr:(readQ s).r=endP s:=hB.e
  refine⟨hr,λh=>?_,⟨hB.fp.n,hB.fp.ls,hB.fp.vs⟩⟩
  have h0:(readP s).1.r.er=0:=by
   unfold endP at h
   split at h
   ·exact absurd h (Zan (by omega))
   ·exact h
  obtain⟨M,a,b⟩:=hB.ok (by rw[hr];exact h) h0 (λe x hx=>by simp[headP]at hx) (λe x hx=>by simp[headP]at hx) (by rw[hH.cd];rfl)
  rw[hH.cd]at b
  refine⟨by rw[hB.fq.n];exact hA.n,by rw[hB.fq.pn];exact hpn,by rw[hB.fq.vs];exact hA.vs,by rw[hB.fq.pr];exact hPr,hIn,n1,n6,M.oe,M.os,a,b⟩
 ·have e1:readP s=(headP s,[]):=ZfB he _
  have e2:readQ s=headQ s startQ:=Zii (by rw[hH.r];exact he) _
  have e3:endP s=(headP s).r:=by
   unfold endP
   rw[e1,if_neg (λc=>he c.1)]
  refine⟨by rw[e2,e3];exact hH.r,λh=>absurd (by rw[<-e3];exact h) he,by rw[e1];exact⟨rfl,rfl,rfl⟩⟩
def cells(f:Nat->Nat->Bool)(n:Nat):List Int:=(List.range (n*n)).map λi=>if f (i/n) (i%n)=true then 49 else 48
theorem Zjs{f g:Nat->Nat->Bool}(h:∀i j,i<n->j<n->f i j=g i j):cells f n=cells g n:=by
 unfold cells
 apply List.map_congr_left
 intro i hi
 rw[Ut]at hi
 have hn:0<n:=by
  rcases Q0 n with h|h
  ·rw[h]at hi;simp at hi
  ·exact h
 rw[h _ _ (Nat.div_lt_of_lt_mul hi) (Nat.mod_lt _ hn)]
theorem ZcF(f:Nat->Nat->Bool)(n:Nat):(cells f n).length=n*n:=by simp[cells]
def tabP(s:ZB):ZB:=bs (cells (λi j=>hopF (prP s).2 ((nP s).toNat-1) i j) (nP s).toNat)
theorem ZrO{pr:Nat->Nat->Bool}(h:Zo1 pr l)(hI:In l n):cells pr n=cells (λi j=>hopF l (n-1) i j) n:=by
 refine Zjs λi j hi hj=>?_
 have:pr i j=true↔hopF l (n-1) i j=true:=by
  rw[h i j]
  exact⟨λw=>Zlo hI hi hj w,λw=>⟨_,w⟩⟩
 cases h1:pr i j<;>cases h2:hopF l (n-1) i j<;>simp_all
def Zbe(s:ZB):List Int:=als (readP s).1.ex (readP s).1.sm (readP s).2 0
def ZaI(s:ZB):ZB:=bs [83,nP s]++tabP s++bs [((headP s).vs.length:Int)%256]++bs (headP s).vs++bs [((Zbe s).length/2:Nat)%256]++bs (Zbe s)
def transF(s:ZB):ZB:=if 300<s.size∨(endP s).er≠0∨levE (tabP s)≠0∨200<(Zbe s).length/2 then bs [] else ZaI s
def transA(s:ZB):Int:=if 300<s.size then 0 else if (endP s).er≠0 then (endP s).a else 0
def transE(s:ZB):Int:=if 300<s.size then 1 else if (endP s).er≠0 then (endP s).er else if levE (tabP s)≠0 then levE (tabP s) else if 200<(Zbe s).length/2 then 13 else 0
def Lets(ls:List Int):Prop:=ls.length<=8∧∀x∈ls,97<=x∧x<=104
theorem Znd(s:ZB):1<=nP s∧nP s<=6:=by
 unfold nP dig
 split
 ·rename_i h
  have:=QB h
  omega
 ·omega
def ZlF(ls:List Int)(c:Int):Nat:=if c∈ls then 1 else 0
def Zrh(ls:List Int):Nat:=ZlF ls 97+ZlF ls 98+ZlF ls 99+ZlF ls 100+ZlF ls 101+ZlF ls 102+ZlF ls 103+ZlF ls 104
theorem ZcG(ls:List Int)(c:Int):ZlF ls c<=1:=by unfold ZlF;split<;>omega
theorem ZqD(ls:List Int):Zrh ls<=8:=by
 unfold Zrh
 have:=ZcG ls 97
 have:=ZcG ls 98
 have:=ZcG ls 99
 have:=ZcG ls 100
 have:=ZcG ls 101
 have:=ZcG ls 102
 have:=ZcG ls 103
 have:=ZcG ls 104
 omega
theorem ZbJ(h:¬t∈ls)(c:Int):ZlF (ls++[t]) c=ZlF ls c+(if c=t then 1 else 0):=by
 unfold ZlF
 by_cases e:c=t
 ·subst e
  rw[if_pos (by simp),if_neg h,if_pos rfl]
 ·rw[if_neg e]
  by_cases m:c∈ls
  ·rw[if_pos (by simp[m]),if_pos m]
  ·rw[if_neg (by simp[m,e]),if_neg m]
theorem ZoL(h:¬t∈ls)(h0:97<=t)(h1:t<=104):Zrh (ls++[t])=Zrh ls+1:=by
 unfold Zrh
 rw[ZbJ h,ZbJ h,ZbJ h,ZbJ h,ZbJ h,ZbJ h,ZbJ h,ZbJ h]
 have hc:t=97∨t=98∨t=99∨t=100∨t=101∨t=102∨t=103∨t=104:=by omega
 rcases hc with rfl|rfl|rfl|rfl|rfl|rfl|rfl|rfl<;>simp<;>omega
def Let1(ls:List Int):Prop:=ls.length=Zrh ls∧∀x∈ls,97<=x∧x<=104
theorem Let1.nil:Let1 []:=⟨rfl,λx hx=>by cases hx⟩
theorem Let1.lets(h:Let1 ls):Lets ls:=⟨by rw[h.1];exact ZqD ls,h.2⟩
theorem Let1.add(h:Let1 ls)(ht:¬fnd t ls<ls.length)(h0:97<=t)(h1:t<=104):Let1 (ls++[t]):=by
 have hm:¬t∈ls:=λhm=>by
  obtain⟨i,hi,e⟩:=List.mem_iff_getElem.1 hm
  have hle:=Zf8 t ls
  exact Zb1 (c:=t) (l:=ls) (j:=i) (by omega) (by rw[Qn hi,e])
 refine⟨by rw[Qe,ZoL hm h0 h1,h.1];rfl,λx hx=>?_⟩
 rcases QI.1 hx with c|c
 ·exact h.2 x c
 ·rw[QA.1 c];exact⟨h0,h1⟩
theorem Zpp(s:ZB)(n:Int):∀(k:Nat) (r:Rd) (l:List Int),r.a<=s.size->(ZiB s n k r l).1.a<=s.size
 | 0,r,l,h=>Ze h
 | k+1,r,l,h=>by
  simp only[ZiB]
  split
  ·exact Zpp s n k _ _ (Zad (by omega) (Zad (by omega) (Ze h)))
  ·exact Ze h
theorem Zpq(s:ZB)(n:Int):∀(k:Nat) (r:Rd) (ls vs:List Int),r.a<=s.size->(ZbB s n k r ls vs).1.a<=s.size
 | 0,r,ls,vs,h=>Ze h
 | k+1,r,ls,vs,h=>by
  simp only[ZbB]
  split
  ·rename_i hi
   split
   ·show (rfs (adv s r) 12).a<=s.size
    rw[ZkQ];exact Ze h
   ·exact Zpq s n k _ _ _ (Zad (by omega) (Zak (by have:=QB hi;omega)))
  ·exact Ze h
theorem Zne(s:ZB)(n:Int):∀(k:Nat) (r:Rd) (ls vs:List Int),Let1 ls->Let1 (ZbB s n k r ls vs).2.1
 | 0,r,ls,vs,h=>h
 | k+1,r,ls,vs,h=>by
  simp only[ZbB]
  split
  ·rename_i hi
   have:=QB hi
   split
   ·exact h
   ·rename_i ho
    exact Zne s n k _ _ _ (h.add ho this.1 this.2)
  ·exact h
theorem Zhh(s:ZB):Gp s (headP s):=by
 have h1:(prP s).1.a<=s.size:=Zpp s _ _ _ _ (Zad (by omega) (Q8 _))
 have h2:(dcP s).1.a<=s.size:=Zpq s _ _ _ _ _ (Z0 h1 (by omega))
 have h3:=(Zne s (nP s) (s.size+1) (tk s (prP s).1 46) [] [] Let1.nil).lets
 exact⟨Z0 h2 (by omega),(Znd s).1,(Znd s).2,h3.1,h3.2⟩
end Go.Proofs.YtcnbifdlkalimabGreat
