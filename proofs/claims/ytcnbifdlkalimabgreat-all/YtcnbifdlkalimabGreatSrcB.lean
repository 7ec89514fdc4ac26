/- Lemmas; their conditions stand in each. -/
import Derived.Test.YtcnbifdlkalimabGreatPlnA
namespace Go.Proofs.YtcnbifdlkalimabGreat
open Go.RowKit Go.Proofs.Tryz
variable{a b c t:Int}{l ls:List Int}{k n pl:Nat}{s:ZB}
structure Ex where
 op:Int
 v:Int
 l:Nat
 r:Nat
structure Sm where
 k:Int
 a:Nat
 v:Int
 e:Nat
 bo:List Nat
 el:List Nat
 two:Bool
structure Rs where
 r:Rd
 n:Int
 ls:List Int
 vs:List Int
 ex:List Ex
 sm:List Sm
def Cl(p:Rs)(r:Rd)(x:Ex):Rs×Nat:=({p with r:=r,ex:=p.ex++[x]},p.ex.length)
def Ba(s:ZB)(exf:Rs->Rs×Nat)(p:Rs):Rs×Nat:=
 if 48<=Ae s p.r∧Ae s p.r<=57 then Cl p (num s (Aa s p.r)).2 ⟨0,(num s (Aa s p.r)).1,0,0⟩
 else if Ae s p.r=36 then Cl p (An s (nx (Aa s p.r)) 0 (p.n-1)) ⟨10,AW s (nx (Aa s p.r)) 0 (p.n-1),0,0⟩
 else if Ae s p.r=40 then
  ({(exf {p with r:=nx (Aa s p.r)}).1 with r:=tk s (exf {p with r:=nx (Aa s p.r)}).1.r 41},(exf {p with r:=nx (Aa s p.r)}).2)
 else Cl p (AD s p.r p.ls) ⟨1,varI s p.r p.ls,0,0⟩
def BV(s:ZB)(tm:Rs->Rs×Nat):Nat->Rs×Nat->Rs×Nat
 | 0,x=>({x.1 with r:=Aa s x.1.r},x.2)
 | k+1,x=>if AK (Ae s x.1.r)=0 then ({x.1 with r:=Aa s x.1.r},x.2)
   else BV s tm k (Cl (tm {x.1 with r:=nx (Aa s x.1.r)}).1 (tm {x.1 with r:=nx (Aa s x.1.r)}).1.r ⟨AK (Ae s x.1.r),0,x.2,(tm {x.1 with r:=nx (Aa s x.1.r)}).2⟩)
def AR(s:ZB):Nat->Rs->Rs×Nat
 | 0,p=>(p,0)
 | k+1,p=>BV s (Ba s (AR s k)) k (Ba s (AR s k) p)
def CJ(s:ZB)(p:Rs):Rs×Nat:=AR s (s.size+1) p
def CU(t:Int):Bool:=Ct t||(t==62)||(t==63)||(t==64)
def AV(s:ZB)(f:Rs->Rs×Nat):Nat->Rs->List Nat->Rs×List Nat
 | 0,p,l=>({p with r:=Aa s p.r},l)
 | k+1,p,l=>if CU (Ae s p.r)=true then AV s f k (f {p with r:=Aa s p.r}).1 (l++[(f {p with r:=Aa s p.r}).2]) else ({p with r:=Aa s p.r},l)
def AO(s:ZB)(f:Rs->Rs×Nat)(k:Nat)(p:Rs):Rs×List Nat:=
 ({(AV s f k {p with r:=tk s p.r 123} []).1 with r:=tk s (AV s f k {p with r:=tk s p.r 123} []).1.r 125},(AV s f k {p with r:=tk s p.r 123} []).2)
def Dl(p:Rs)(r:Rd)(x:Sm):Rs×Nat:=({p with r:=r,sm:=p.sm++[x]},p.sm.length)
def Hi(s:ZB)(p:Rs)(a:Nat):Rs×Nat:=
 let y:=CJ s {p with r:=tk s (AD s p.r p.ls) 61}
 Dl y.1 (tk s y.1.r 59) ⟨61,a,varI s p.r p.ls,y.2,[],[],false⟩
def Hj(s:ZB)(p:Rs)(a:Nat):Rs×Nat:=
 let y:=CJ s {p with r:=An s (tk s p.r 62) 0 (p.n-1)}
 Dl y.1 (tk s y.1.r 59) ⟨62,a,AW s (tk s p.r 62) 0 (p.n-1),y.2,[],[],false⟩
def F0(s:ZB)(f:Rs->Rs×Nat)(k:Nat)(p:Rs)(a:Nat):Rs×Nat:=
 let y:=CJ s {p with r:=tk s p.r 63}
 let b:=AO s f k y.1
 if Ae s b.1.r=58 then
  let c:=AO s f k {b.1 with r:=nx (Aa s b.1.r)}
  Dl c.1 c.1.r ⟨63,a,0,y.2,b.2,c.2,true⟩
 else Dl b.1 (Aa s b.1.r) ⟨63,a,0,y.2,b.2,[],false⟩
def Hl(s:ZB)(f:Rs->Rs×Nat)(k:Nat)(p:Rs)(a:Nat):Rs×Nat:=
 let y:=CJ s {p with r:=tk s p.r 64}
 let b:=AO s f k y.1
 Dl b.1 b.1.r ⟨64,a,0,y.2,b.2,[],false⟩
def Al(s:ZB):Nat->Rs->Rs×Nat
 | 0,p=>(p,0)
 | k+1,p=>
  if Ae s p.r=62 then Hj s {p with r:=Aa s p.r} (Aa s p.r).a
  else if Ae s p.r=63 then F0 s (Al s k) k {p with r:=Aa s p.r} (Aa s p.r).a
  else if Ae s p.r=64 then Hl s (Al s k) k {p with r:=Aa s p.r} (Aa s p.r).a
  else Hi s {p with r:=Aa s p.r} (Aa s p.r).a
def EF(s:ZB)(n:Int):Nat->Rd->List Int->Rd×List Int
 | 0,r,l=>(Aa s r,l)
 | k+1,r,l=>if 48<=Ae s r∧Ae s r<=57 then
   EF s n k (An s (An s (Aa s r) 0 (n-1)) 0 (n-1)) (l++[AW s (Aa s r) 0 (n-1),AW s (An s (Aa s r) 0 (n-1)) 0 (n-1)])
  else (Aa s r,l)
def DC(s:ZB)(n:Int):Nat->Rd->List Int->List Int->Rd×List Int×List Int
 | 0,r,ls,vs=>(Aa s r,ls,vs)
 | k+1,r,ls,vs=>if Ct (Ae s r)=true then
   (if fnd (Ae s r) ls<ls.length then (Bi (Aa s r) 12,ls,vs)
   else DC s n k (An s (nx (Aa s r)) 0 (n-1)) (ls++[Ae s r]) (vs++[AW s (nx (Aa s r)) 0 (n-1)]))
  else (Aa s r,ls,vs)
def nP(s:ZB):Int:=if Eo s ⟨0,0⟩ 1 6=true then AW s ⟨0,0⟩ 1 6 else 1
def Es(s:ZB):Rd×List Int:=EF s (nP s) (s.size+1) (An s ⟨0,0⟩ 1 6) []
def F8(s:ZB):Rd×List Int×List Int:=DC s (nP s) (s.size+1) (tk s (Es s).1 46) [] []
def Aw(s:ZB):Rs:=⟨tk s (F8 s).1 46,nP s,(F8 s).2.1,(F8 s).2.2,[],[]⟩
def Af(s:ZB):Rs×List Nat:=AV s (Al s (s.size+2)) (s.size+1) (Aw s) []
def BF(s:ZB):Rd:=if (Af s).1.r.er=0∧(Af s).1.r.a<s.size then Bi (Af s).1.r 11 else (Af s).1.r
def AZ(l:List Int):Nat->Int->Int->Bool
 | 0,a,b=>a==b
 | k+1,a,b=>(a==b)||(List.range (l.length/2)).any λi=>(l.getD (2*i) 0==a)&&AZ l k (l.getD (2*i+1) 0) b
def Fc(ex:List Ex):Nat->Nat->List Int
 | 0,_=>[]
 | k+1,e=>match ex[e]? with
  | none=>[]
  | some x=>if x.op=0∨x.op=1∨x.op=10 then [x.op%256,x.v%256] else Fc ex k x.l++Fc ex k x.r++[x.op%256,0]
def AQ(ex:List Ex)(e:Nat):List Int:=Fc ex (e+1) e
def Cm(f:Nat->Nat->List Int):List Nat->Nat->List Int
 | [],_=>[]
 | n::l,place=>f n place++Cm f l (place+(f n place).length/2)
def Ed(ex:List Ex)(sm:List Sm):Nat->Nat->Nat->List Int
 | 0,_,_=>[]
 | k+1,n,place=>match sm[n]? with
  | none=>[]
  | some x=>
   let e:=AQ ex x.e
   if x.k=61 then e++[2,x.v%256]
   else if x.k=62 then e++[11,x.v%256]
   else
    let fr:=place+e.length/2+1
    let body:=Cm (Ed ex sm k) x.bo fr
    let th:=fr+body.length/2
    if x.k=64 then e++[9,((th+1:Nat):Int)%256]++body++[8,(place:Int)%256]
    else if x.two=false then e++[9,(th:Int)%256]++body
    else
     let other:=Cm (Ed ex sm k) x.el (th+1)
     e++[9,((th+1:Nat):Int)%256]++body++[8,((th+1+other.length/2:Nat):Int)%256]++other
set_option linter.all false
theorem Ew{r:Rd}(h:Ae s r≠0):tk s (Aa s r) (Ae s r)=nx (Aa s r):=by unfold tk BW;rw[Zs,Z3];simp
theorem NZ(s:ZB)(r:Rd)(ls:List Int):CW s (Aa s r) ls=CW s r ls:=by unfold CW;rw[Zs]
theorem Lm(s:ZB)(r:Rd)(ls:List Int):varI s (Aa s r) ls=varI s r ls:=by unfold varI;rw[NZ,Zs]
theorem MT(s:ZB)(r:Rd)(ok:Bool)(e:Int):BW s (Aa s r) ok e=BW s r ok e:=by unfold BW;rw[Z3]
theorem GN(s:ZB)(r:Rd)(ls:List Int):AD s (Aa s r) ls=AD s r ls:=by unfold AD;rw[MT,NZ,Zs]
theorem Ol{r:Rd}{ok:Bool}{e:Int}(h:r.er≠0):BW s r ok e=r:=by unfold BW;rw[ZD h,Ve h,Pk h];split<;>rfl
theorem GZ{r:Rd}(h:r.er≠0):tk s r c=r:=Ol h
theorem Ij{r:Rd}{ok:Bool}{e:Int}(d:e≠0)(h:(BW s r ok e).er=0):r.er=0∧ok=true:=by
 unfold BW at h;split at h
 ·rename_i k;rw[EZ,Zl]at h;exact⟨h,k⟩
 ·exact absurd h (Dr d)
theorem DJ{r:Rd}(h:(tk s r c).er=0):r.er=0:=(Ij (by omega) h).1
theorem J6{r:Rd}(h:(An s r a b).er=0):r.er=0:=(Ij (by omega) h).1
theorem LA{r:Rd}(h:(AD s r ls).er=0):r.er=0∧CW s r ls=true:=Ij (by split<;>omega) h
theorem IU(s:ZB)(r:Rd)(a b:Int):Ah s (An s r a b)<=Ah s r:=Oe (by omega)
theorem MU(s:ZB)(r:Rd)(ls:List Int):Ah s (AD s r ls)<=Ah s r:=Oe (by split<;>omega)
theorem ZR{r:Rd}(h:Ae s r≠0):Ah s (nx (Aa s r))<Ah s r:=Qq (KS h) (Zu _ _)
theorem Pc:∀(k:Nat) (r:Rd) (v:Int),(DD s k r v).2.er=0->r.er=0
 | 0,r,v,h=>h
 | k+1,r,v,h=>by
  simp only[DD]at h;split at h
  ·split at h
   ·exact absurd h (Dr (by omega))
   ·have:=Pc k _ _ h;rw[EZ]at this;exact this
  ·exact h
structure Eg(q q':Tq):Prop where
 n:q'.n=q.n
 pn:q'.pn=q.pn
 pr:q'.pr=q.pr
 ls:q'.ls=q.ls
 vs:q'.vs=q.vs
theorem Eg.refl(q:Tq):Eg q q:=⟨rfl,rfl,rfl,rfl,rfl⟩
theorem Eg.trans{a b c:Tq}(h:Eg a b)(k:Eg b c):Eg a c:=⟨k.n.trans h.n,k.pn.trans h.pn,k.pr.trans h.pr,k.ls.trans h.ls,k.vs.trans h.vs⟩
structure Fg(p p':Rs):Prop where
 n:p'.n=p.n
 ls:p'.ls=p.ls
 vs:p'.vs=p.vs
theorem Fg.refl(q:Rs):Fg q q:=⟨rfl,rfl,rfl⟩
theorem Fg.trans{a b c:Rs}(h:Fg a b)(k:Fg b c):Fg a c:=⟨k.n.trans h.n,k.ls.trans h.ls,k.vs.trans h.vs⟩
structure Ag(q:Tq)(p:Rs):Prop where
 r:q.r=p.r
 n:q.n=p.n
 ls:q.ls=p.ls
 vs:q.vs=p.vs
theorem Ag.go{q f:Tq}{p p':Rs}(h:Ag q p)(e:Eg q f)(d:Fg p p')(g:f.r=p'.r):Ag f p':=
 ⟨g,by rw[e.n,d.n,h.n],by rw[e.ls,d.ls,h.ls],by rw[e.vs,d.vs,h.vs]⟩
def BA(ex:List Ex):Prop:=∀(e:Nat) (x:Ex),ex[e]?=some x->(x.op=0∨x.op=1∨x.op=10)∨(x.l<e∧x.r<e)
theorem BA.add{ex:List Ex}(h:BA ex){x:Ex}(i:(x.op=0∨x.op=1∨x.op=10)∨(x.l<ex.length∧x.r<ex.length)):BA (ex++[x]):=by
 intro e y d;by_cases g:e<ex.length
 ·rw[QD g]at d;exact h e y d
 ·rw[QF (by omega)]at d;have f:e-ex.length=0:=by
   cases k:e-ex.length with
   | zero=>rfl
   | succ j=>rw[k]at d;simp at d
  rw[f]at d;simp at d;subst d;have:e=ex.length:=by omega
  rw[this];exact i
theorem JU{ex more:List Ex}(h:BA ex):∀(k e d:Nat),e<ex.length->e<k->e<d->Fc (ex++more) k e=Fc ex d e
 | 0,e,d,_,i,_=>by omega
 | k+1,e,0,_,_,i=>by omega
 | k+1,e,d+1,g,i,p=>by
  simp only[Fc];rw[QD g];obtain⟨x,j⟩:∃x,ex[e]?=some x:=⟨ex[e],Qn g⟩
  rw[j];dsimp only;split
  ·rfl
  ·rename_i f;rcases h e x j with c|⟨m,o⟩
   ·exact absurd c f
   ·rw[JU h k x.l d (by omega) (by omega) (by omega),JU h k x.r d (by omega) (by omega) (by omega)]
theorem Nb{ex more:List Ex}{e:Nat}(h:BA ex)(d:e<ex.length):AQ (ex++more) e=AQ ex e:=
 JU h _ _ _ d (by omega) (by omega)
theorem Tj{ex:List Ex}{e:Nat}(h:BA ex)(d:e<ex.length)(f:e<k):Fc ex k e=AQ ex e:=by have:=JU (more:=[]) h k e (e+1) d f (by omega);rw[QS]at this;exact this
theorem Om{ex:List Ex}{x:Ex}(d:x.op=0∨x.op=1∨x.op=10):AQ (ex++[x]) ex.length=[x.op%256,x.v%256]:=by unfold AQ;simp only[Fc];rw[QF (Qb _)];simp;intro c;omega
theorem UT{ex:List Ex}{x:Ex}(h:BA ex)(f:¬(x.op=0∨x.op=1∨x.op=10))(d:x.l<ex.length)(e:x.r<ex.length):AQ (ex++[x]) ex.length=AQ ex x.l++AQ ex x.r++[x.op%256,0]:=by unfold AQ;rw[Fc];rw[QF (Qb _)];simp only[Nat.sub_self,List.getElem?_cons_zero];rw[if_neg f,JU h _ _ (x.l+1) d (by omega) (by omega),JU h _ _ (x.r+1) e (by omega) (by omega)]
theorem Sg(ex:List Ex):∀k e,(Fc ex k e).length%2=0
 | 0,e=>rfl
 | k+1,e=>by
  simp only[Fc];split
  ·rfl
  ·split
   ·simp
   ·have:=Sg ex k;rename_i x _ _;have d:=this x.l;have f:=this x.r;simp only[Qe,Qt,Qy];omega
theorem JV(ex:List Ex)(e:Nat):(AQ ex e).length%2=0:=Sg _ _ _
structure Hm(s:ZB)(x:Tq×Sq)(p:Rs)(y:Tq×Sq)(z:Rs×Nat):Prop where
 r:y.1.r=z.1.r
 le:Ah s z.1.r<=Ah s p.r
 bad:z.1.r.er=0->p.r.er=0
 fq:Eg x.1 y.1
 ss:y.1.ss=x.1.ss
 fp:Fg p z.1
 sm:z.1.sm=p.sm
 ok:z.1.r.er=0->BA p.ex->∃more,z.1.ex=p.ex++more∧BA z.1.ex∧z.2<z.1.ex.length∧y.1.cd=x.1.cd++AQ z.1.ex z.2
theorem IV(s:ZB)(k:Nat)(u:∀(x:Tq×Sq) (p:Rs),Ag x.1 p->Ah s p.r<k->Hm s x p (AI s k x) (AR s k p))(x:Tq×Sq)(p:Rs)(e:Ag x.1 p)(v:Ah s p.r<=k) :
  Hm s x p (Bj s (AI s k) x) (Ba s (AR s k) p):=by
 have q:=e.r;unfold Bj Ba;rw[q];by_cases i:48<=Ae s p.r∧Ae s p.r<=57
 ·rw[if_pos i,if_pos i];refine⟨rfl,Qg (Of _ _ _) (Zu _ _),λh=>?_,⟨rfl,rfl,rfl,rfl,rfl⟩,rfl,⟨rfl,rfl,rfl⟩,rfl,λh f=>?_⟩
  ·have:=Pc _ _ _ h;rw[Zl]at this;exact this
  ·refine⟨[_],rfl,f.add (.inl (.inl rfl)),by simp[Cl],?_⟩;show x.1.cd++_=x.1.cd++AQ (p.ex++[_]) p.ex.length;rw[Om (.inl rfl)];rfl
 ·rw[if_neg i,if_neg i];by_cases g:Ae s p.r=36
  ·rw[if_pos g,if_pos g];have o:tk s (Aa s p.r) 36=nx (Aa s p.r):=by rw[<-g];exact Ew (by omega)
   have m:=ZR (s:=s) (r:=p.r) (by omega);unfold Jq Cl;dsimp only;rw[o,e.n];refine⟨rfl,Qg (IU _ _ _ _) (Uf m),λh=>?_,⟨e.n.symm,rfl,rfl,rfl,rfl⟩,rfl,⟨rfl,rfl,rfl⟩,rfl,λh f=>?_⟩
   ·have:=J6 h;rw[EZ,Zl]at this;exact this
   ·refine⟨[_],rfl,f.add (.inl (.inr (.inr rfl))),by simp,?_⟩;show x.1.cd++_=x.1.cd++AQ (p.ex++[_]) p.ex.length;rw[Om (.inr (.inr rfl))];rfl
  ·rw[if_neg g,if_neg g];by_cases j:Ae s p.r=40
   ·rw[if_pos j,if_pos j];have m:=ZR (s:=s) (r:=p.r) (by omega);have d:=u ({x.1 with r:=nx (Aa s p.r)},x.2) {p with r:=nx (Aa s p.r)} ⟨rfl,e.n,e.ls,e.vs⟩ (by show Ah s (nx (Aa s p.r))<k;omega);generalize AI s k ({x.1 with r:=nx (Aa s p.r)},x.2)=y at *;generalize AR s k {p with r:=nx (Aa s p.r)}=z at *;refine⟨by show tk s y.1.r 41=tk s z.1.r 41;rw[d.r],?_,λh=>?_,⟨d.fq.n,d.fq.pn,d.fq.pr,d.fq.ls,d.fq.vs⟩,d.ss,⟨d.fp.n,d.fp.ls,d.fp.vs⟩,d.sm,λh f=>?_⟩
    ·have a:=DS s z.1.r 41;have b:=d.le;have c:Ah s ({p with r:=nx (Aa s p.r)}:Rs).r=Ah s (nx (Aa s p.r)):=rfl;show Ah s (tk s z.1.r 41)<=_;omega
    ·have:=d.bad (DJ h);have:(nx (Aa s p.r)).er=0:=this;rw[EZ,Zl]at this;exact this
    ·exact d.ok (DJ h) f
   ·rw[if_neg j,if_neg j];unfold Jr Cl;dsimp only;rw[GN,Lm,e.ls];refine⟨rfl,MU _ _ _,λh=>(LA h).1,⟨rfl,rfl,rfl,e.ls.symm,rfl⟩,rfl,⟨rfl,rfl,rfl⟩,rfl,λh f=>?_⟩;refine⟨[_],rfl,f.add (.inl (.inr (.inl rfl))),by simp,?_⟩;show x.1.cd++_=x.1.cd++AQ (p.ex++[_]) p.ex.length;rw[Om (.inr (.inl rfl))];rfl
theorem Tk(s:ZB)(K:Nat)(v:Tq×Sq->Tq×Sq)(tp:Rs->Rs×Nat)(B:∀(x:Tq×Sq) (p:Rs),Ag x.1 p->Ah s p.r<=K->Hm s x p (v x) (tp p)) :
  ∀(k:Nat) (j:Tq×Sq) (i:Rs) (x:Tq×Sq) (z:Rs×Nat),Ag j.1 i->Ah s i.r<=K->Hm s j i x z->Hm s j i (BB s v k x) (BV s tp k z)
 | 0,j,i,x,z,w,A,d=>by
  refine⟨?_,?_,λh=>d.bad (by rw[<-Zl s];exact h),⟨d.fq.n,d.fq.pn,d.fq.pr,d.fq.ls,d.fq.vs⟩,d.ss,⟨d.fp.n,d.fp.ls,d.fp.vs⟩,d.sm,λh q=>?_⟩
  ·show Aa s x.1.r=Aa s z.1.r;rw[d.r]
  ·exact Qg (Zu _ _) d.le
  ·exact d.ok (by rw[<-Zl s];exact h) q
 | k+1,j,i,x,z,w,A,d=>by
  simp only[BB,BV];rw[d.r];by_cases o:AK (Ae s z.1.r)=0
  ·rw[if_pos o,if_pos o];exact⟨rfl,Qg (Zu _ _) d.le,λh=>d.bad (by rw[<-Zl s];exact h),⟨d.fq.n,d.fq.pn,d.fq.pr,d.fq.ls,d.fq.vs⟩,d.ss,⟨d.fp.n,d.fp.ls,d.fp.vs⟩,d.sm,λh q=>d.ok (by rw[<-Zl s];exact h) q⟩
  ·rw[if_neg o,if_neg o];have O:=Ib o;have R:=ZR (s:=s) (r:=z.1.r) O.1;have f:=w.go d.fq d.fp d.r;have N:=d.le;have e:=B ({x.1 with r:=nx (Aa s z.1.r)},x.2) {z.1 with r:=nx (Aa s z.1.r)} ⟨rfl,f.n,f.ls,f.vs⟩ (by show Ah s (nx (Aa s z.1.r))<=K;omega);refine Tk s K v tp B k j i _ _ w A ?_;generalize AK (Ae s z.1.r)=g at *;generalize v ({x.1 with r:=nx (Aa s z.1.r)},x.2)=y at *;generalize tp {z.1 with r:=nx (Aa s z.1.r)}=u at *;have C:=e.le;have c:Ah s ({z.1 with r:=nx (Aa s z.1.r)}:Rs).r=Ah s (nx (Aa s z.1.r)):=rfl;refine⟨e.r,by show Ah s u.1.r<=_;omega,λh=>?_,?_,e.ss.trans d.ss,?_,e.sm.trans d.sm,λh q=>?_⟩
   ·have:=e.bad h;have:(nx (Aa s z.1.r)).er=0:=this;rw[EZ,Zl]at this;exact d.bad this
   ·exact d.fq.trans ⟨e.fq.n,e.fq.pn,e.fq.pr,e.fq.ls,e.fq.vs⟩
   ·exact d.fp.trans ⟨e.fp.n,e.fp.ls,e.fp.vs⟩
   ·have I:z.1.r.er=0:=by have:=e.bad h;have:(nx (Aa s z.1.r)).er=0:=this;rw[EZ,Zl]at this;exact this
    obtain⟨Q,M,G,P,J⟩:=d.ok I q;obtain⟨F,m,H,D,L⟩:=e.ok h G;have m:u.1.ex=z.1.ex++F:=m;have E:z.2<u.1.ex.length:=by rw[m,Qe];omega
    refine⟨Q++F++[⟨g,0,z.2,u.2⟩],?_,H.add (.inr ⟨E,D⟩),by simp[Cl],?_⟩
    ·show u.1.ex++[_]=_;rw[m,M];simp
    ·show y.1.cd++_=j.1.cd++AQ (u.1.ex++[_]) u.1.ex.length;rw[UT H (by show ¬(g=0∨g=1∨g=10);omega) E D,L];show x.1.cd++AQ u.1.ex u.2++[g,0%256]=_;rw[J,show AQ u.1.ex z.2=AQ z.1.ex z.2 from by rw[m];exact Nb G P];rw[show g%256=g from by omega];simp
theorem Ie(s:ZB):∀(k:Nat) (x:Tq×Sq) (p:Rs),Ag x.1 p->Ah s p.r<k->Hm s x p (AI s k x) (AR s k p)
 | 0,x,p,d,e=>by omega
 | k+1,x,p,d,e=>by simp only[AI,AR];exact Tk s k _ _ (λx p d e=>IV s k (Ie s k) x p d e) k x p _ _ d (by omega) (IV s k (Ie s k) x p d (by omega))
theorem Gl(s:ZB)(x:Tq×Sq)(p:Rs)(d:Ag x.1 p):Hm s x p (Cb s x) (CJ s p):=
 Ie s _ x p d (by have:=Z5 s p.r;omega)
theorem MV(f:Nat->Nat->List Int)(n:Nat):∀(l:List Nat) (pl:Nat),(∀n pl,(f n pl).length%2=0)->Cm f (l++[n]) pl=Cm f l pl++f n (pl+(Cm f l pl).length/2)
 | [],pl,d=>by simp[Cm]
 | m::l,pl,d=>by simp only[Cm,Uj];rw[MV f n l _ d,QE];congr 2;rw[Qe];have e:=d m pl;congr 1;omega
theorem KW(f:Nat->Nat->List Int)(d:∀n pl,(f n pl).length%2=0):∀(l:List Nat) (pl:Nat),(Cm f l pl).length%2=0
 | [],pl=>rfl
 | m::l,pl=>by simp only[Cm,Qe];have e:=d m pl;have g:=KW f d l (pl+(f m pl).length/2);omega
theorem JO{f g:Nat->Nat->List Int}:∀(l:List Nat) (pl:Nat),(∀n,n∈l->∀pl,f n pl=g n pl)->Cm f l pl=Cm g l pl
 | [],pl,h=>rfl
 | m::l,pl,h=>by simp only[Cm];rw[h m (by simp) pl,JO l _ (λn d=>h n (by simp[d]))]
theorem Pd(ex:List Ex)(sm:List Sm):∀k n pl,(Ed ex sm k n pl).length%2=0
 | 0,n,pl=>rfl
 | k+1,n,pl=>by
  simp only[Ed];split
  ·rfl
  ·rename_i x _;have d:=JV ex x.e;have f:=KW _ (Pd ex sm k) x.bo (pl+(AQ ex x.e).length/2+1);have g:=KW _ (Pd ex sm k) x.el (pl+(AQ ex x.e).length/2+1+(Cm (Ed ex sm k) x.bo (pl+(AQ ex x.e).length/2+1)).length/2+1);split
   ·simp only[Qe,Qt,Qy];omega
   ·split
    ·simp only[Qe,Qt,Qy];omega
    ·split
     ·simp only[Qe,Qt,Qy];omega
     ·split
      ·simp only[Qe,Qt,Qy];omega
      ·simp only[Qe,Qt,Qy];omega
def BY(ex:List Ex)(sm:List Sm):Prop:=∀(n:Nat) (x:Sm),sm[n]?=some x->x.e<ex.length∧(∀m,m∈x.bo->m<n)∧(∀m,m∈x.el->m<n)
theorem BY.more{ex:List Ex}{sm:List Sm}(h:BY ex sm)(m:List Ex):BY (ex++m) sm:=λn x d=>⟨by have:=(h n x d).1;rw[Qe];omega,(h n x d).2⟩
theorem BY.add{ex:List Ex}{sm:List Sm}(h:BY ex sm){x:Sm}(i:x.e<ex.length)(g:∀m,m∈x.bo->m<sm.length)(o:∀m,m∈x.el->m<sm.length):BY ex (sm++[x]):=by
 intro n y d;by_cases p:n<sm.length
 ·rw[QD p]at d;exact h n y d
 ·rw[QF (by omega)]at d;have f:n-sm.length=0:=by
   cases k:n-sm.length with
   | zero=>rfl
   | succ j=>rw[k]at d;simp at d
  rw[f]at d;simp at d;subst d;have:n=sm.length:=by omega
  rw[this];exact⟨i,g,o⟩
theorem LO{ex me:List Ex}{sm ms:List Sm}(f:BA ex)(g:BY ex sm):∀(k n d pl:Nat),n<sm.length->n<k->n<d->Ed (ex++me) (sm++ms) k n pl=Ed ex sm d n pl
 | 0,n,d,pl,_,o,_=>by omega
 | k+1,n,0,pl,_,_,o=>by omega
 | k+1,n,d+1,pl,j,o,w=>by
  simp only[Ed];rw[QD j];obtain⟨x,q⟩:∃x,sm[n]?=some x:=⟨sm[n],Qn j⟩
  obtain⟨v,h,i⟩:=g n x q;rw[q];dsimp only;rw[Nb f v];have r:∀pl,Cm (Ed (ex++me) (sm++ms) k) x.bo pl=Cm (Ed ex sm d) x.bo pl:=λpl=>JO _ _ λm e p=>LO f g k m d p (by have:=h m e;omega) (by have:=h m e;omega) (by have:=h m e;omega);have u:∀pl,Cm (Ed (ex++me) (sm++ms) k) x.el pl=Cm (Ed ex sm d) x.el pl:=λpl=>JO _ _ λm e p=>LO f g k m d p (by have:=i m e;omega) (by have:=i m e;omega) (by have:=i m e;omega)
  rw[r,u]
def one(ex:List Ex)(sm:List Sm)(n pl:Nat):List Int:=Ed ex sm (n+1) n pl
def Bn(ex:List Ex)(sm:List Sm)(l:List Nat)(pl:Nat):List Int:=Cm (one ex sm) l pl
theorem Ln(ex:List Ex)(sm:List Sm)(n pl:Nat):(one ex sm n pl).length%2=0:=Pd _ _ _ _ _
theorem If(ex:List Ex)(sm:List Sm)(l:List Nat)(pl:Nat):(Bn ex sm l pl).length%2=0:=KW _ (Ln ex sm) _ _
theorem Zrd{ex me:List Ex}{sm ms:List Sm}(d:BA ex)(e:BY ex sm)(f:n<sm.length):one (ex++me) (sm++ms) n pl=one ex sm n pl:=
 LO d e _ _ _ _ f (by omega) (by omega)
theorem Zre{ex me:List Ex}{sm ms:List Sm}{l:List Nat}(d:BA ex)(e:BY ex sm)(f:∀n,n∈l->n<sm.length):Bn (ex++me) (sm++ms) l pl=Bn ex sm l pl:=
 JO _ _ λn h p=>Zrd d e (f n h)
theorem all_any{ex:List Ex}{sm:List Sm}{l:List Nat}(e:BA ex)(f:BY ex sm)(d:∀n,n∈l->n<sm.length∧n<k):Cm (Ed ex sm k) l pl=Bn ex sm l pl:=
 JO _ _ λn h p=>by have:=LO (me:=[]) (ms:=[]) e f k n (n+1) p (d n h).1 (d n h).2 (by omega);rw[QS,QS]at this;exact this
theorem LB{ex:List Ex}{sm:List Sm}{x:Sm}(q:BA ex)(r:BY ex sm)(w:x.e<ex.length)(u:∀m,m∈x.bo->m<sm.length)(i:∀m,m∈x.el->m<sm.length) :
  one ex (sm++[x]) sm.length pl =
   (let e:=AQ ex x.e
   if x.k=61 then e++[2,x.v%256]
   else if x.k=62 then e++[11,x.v%256]
   else
    let j:=pl+e.length/2+1
    let d:=Bn ex sm x.bo j
    let g:=j+d.length/2
    if x.k=64 then e++[9,((g+1:Nat):Int)%256]++d++[8,(pl:Int)%256]
    else if x.two=false then e++[9,(g:Int)%256]++d
    else
     let f:=Bn ex sm x.el (g+1)
     e++[9,((g+1:Nat):Int)%256]++d++[8,((g+1+f.length/2:Nat):Int)%256]++f):=by
 unfold one;rw[Ed];rw[QF (Qb _)];simp only[Nat.sub_self,List.getElem?_cons_zero];have o:∀(l:List Nat) (pl:Nat),(∀m,m∈l->m<sm.length)->Cm (Ed ex (sm++[x]) sm.length) l pl=Bn ex sm l pl:=λl pl i=>JO _ _ λn h p=>by have:=LO (me:=[]) (ms:=[x]) q r sm.length n (n+1) p (i n h) (i n h) (by omega);rw[QS]at this;exact this
 simp only[o x.bo _ u,o x.el _ i]
structure CX(s:ZB)(q:Tq)(p:Rs)(y:Tq)(z:Rs):Prop where
 r:y.r=z.r
 le:Ah s z.r<=Ah s p.r
 bad:z.r.er=0->p.r.er=0
 fq:Eg q y
 fp:Fg p z
theorem CX.trans{q:Tq}{p:Rs}{y:Tq}{z:Rs}{d:Tq}{f:Rs}(h:CX s q p y z)(k:CX s y z d f):CX s q p d f:=
 ⟨k.r,Qg k.le h.le,λe=>h.bad (k.bad e),h.fq.trans k.fq,h.fp.trans k.fp⟩
structure Mo(p z:Rs):Prop where
 ex:∃m,z.ex=p.ex++m
 sm:∃m,z.sm=p.sm++m
 oe:BA z.ex
 os:BY z.ex z.sm
theorem Mo.trans{p z u:Rs}(h:Mo p z)(k:Mo z u):Mo p u:=by obtain⟨i,d⟩:=h.ex;obtain⟨j,e⟩:=k.ex;obtain⟨m,f⟩:=h.sm;obtain⟨o,g⟩:=k.sm;exact⟨⟨i++j,by rw[e,d,QE]⟩,⟨m++o,by rw[g,f,QE]⟩,k.oe,k.os⟩
theorem Mo.lt{p z:Rs}(h:Mo p z)(d:n<p.sm.length):n<z.sm.length:=by obtain⟨m,e⟩:=h.sm;rw[e,Qe];omega
theorem Mo.lte{p z:Rs}(h:Mo p z)(d:n<p.ex.length):n<z.ex.length:=by obtain⟨m,e⟩:=h.ex;rw[e,Qe];omega
theorem Mo.all{p z:Rs}(h:Mo p z)(f:BA p.ex)(g:BY p.ex p.sm){l:List Nat}(i:∀n,n∈l->n<p.sm.length)(pl:Nat):Go.Proofs.YtcnbifdlkalimabGreat.Bn z.ex z.sm l pl=Go.Proofs.YtcnbifdlkalimabGreat.Bn p.ex p.sm l pl:=by obtain⟨j,d⟩:=h.ex;obtain⟨m,e⟩:=h.sm;rw[d,e];exact Zre f g i
theorem Mo.cod{p z:Rs}(h:Mo p z)(e:BA p.ex)(f:n<p.ex.length):Go.Proofs.YtcnbifdlkalimabGreat.AQ z.ex n=Go.Proofs.YtcnbifdlkalimabGreat.AQ p.ex n:=by obtain⟨g,d⟩:=h.ex;rw[d];exact Nb e f
def F5(q:Tq)(p:Rs)(y:Tq)(z:Rs×Nat):Prop:=
 z.1.r.er=0->BA p.ex->BY p.ex p.sm->q.cd.length%2=0->Mo p z.1∧z.2<z.1.sm.length∧y.cd=q.cd++one z.1.ex z.1.sm z.2 (q.cd.length/2)
def Kw(q:Tq)(p:Rs)(y:Tq)(z:Rs×List Nat):Prop:=
 z.1.r.er=0->BA p.ex->BY p.ex p.sm->q.cd.length%2=0->Mo p z.1∧(∀n,n∈z.2->n<z.1.sm.length)∧y.cd=q.cd++Bn z.1.ex z.1.sm z.2 (q.cd.length/2)
theorem Tl{ex:Tq×Sq->Tq×Sq}{x:Tq×Sq}(h:x.1.r.er≠0):(Bj s ex x).1.r=x.1.r:=by unfold Bj;rw[JZ h,if_neg (by omega),if_neg (by omega),if_neg (by omega)];show AD s (Aa s x.1.r) x.1.ls=x.1.r;rw[GN];exact Ol h
theorem Zpn{d:Tq×Sq->Tq×Sq}{x:Tq×Sq}(h:x.1.r.er≠0):∀k,(BB s d k x).1.r=x.1.r
 | 0=>ZD h
 | k+1=>by simp only[BB];rw[JZ h,if_pos (by rfl)];exact ZD h
theorem Zpo{x:Tq×Sq}(h:x.1.r.er≠0):∀k,(AI s k x).1.r=x.1.r
 | 0=>rfl
 | k+1=>by simp only[AI];rw[Zpn (by rw[Tl h];exact h),Tl h]
theorem Zsv{x:Tq×Sq}(h:x.1.r.er≠0):(Cb s x).1.r=x.1.r:=Zpo h _
theorem Zth(s:ZB)(x:Tq×Sq):Eg x.1 (Cb s x).1:=(Gl s x ⟨x.1.r,x.1.n,x.1.ls,x.1.vs,[],[]⟩ ⟨rfl,rfl,rfl,rfl⟩).fq
theorem Lp{ou:Int}{q:Tq}(h:CU (Ae s q.r)=false):(Am s (k+1) ou q).r=Bi (Aa s q.r) 11∧Eg q (Am s (k+1) ou q):=by
 unfold CU at h;simp only[Bool.or_eq_false_iff,Qf]at h;obtain⟨⟨⟨f,g⟩,i⟩,j⟩:=h;simp only[Am];rw[if_neg g,if_neg i,if_neg j];have e:AD s (Aa s q.r) q.ls=Bi (Aa s q.r) 11:=by unfold AD BW CW;rw[Zs,f,Z3];simp
 have d:(Bi (Aa s q.r) 11).er≠0:=Dr (by omega);unfold Fw;dsimp only;rw[e,GZ d];have hF:=Zth s ({q with r:=Bi (Aa s q.r) 11},{k:=1,pl:=(Aa s q.r).a,ou:=ou,ta:=BN {q with r:=Aa s q.r} (varI s (Aa s q.r) q.ls),rd:=none6,tp:=none6});have m:=Zsv (s:=s) (x:=({q with r:=Bi (Aa s q.r) 11},{k:=1,pl:=(Aa s q.r).a,ou:=ou,ta:=BN {q with r:=Aa s q.r} (varI s (Aa s q.r) q.ls),rd:=none6,tp:=none6})) d;refine⟨?_,⟨hF.n,hF.pn,hF.pr,hF.ls,hF.vs⟩⟩;show tk s (Cb s _).1.r 59=_;rw[m];exact GZ d
structure Ztl(s:ZB)(q0:Tq)(p0:Rs)(y:Tq)(z:Rs×List Nat):Prop where
 e:y.r=z.1.r∨(z.1.r.er=0∧CU (Ae s z.1.r)=false∧Ae s z.1.r≠125∧y.r=Bi (Aa s z.1.r) 11)
 le:Ah s z.1.r<=Ah s p0.r
 bad:z.1.r.er=0->p0.r.er=0
 fq:Eg q0 y
 fp:Fg p0 z.1
 ok:y.r=z.1.r->Kw q0 p0 y z
theorem On(s:ZB)(K:Nat)(ou:Int)(L:∀(q:Tq) (p:Rs),Ag q p->Ah s p.r<K+1->CX s q p (Am s (K+1) ou q) (Al s (K+1) p).1∧F5 q p (Am s (K+1) ou q) (Al s (K+1) p)) :
  ∀(k:Nat) (f:Tq) (m:Rs) (q:Tq) (p:Rs) (l:List Nat),Ag f m->Ah s m.r<K+1->CX s f m q p->Kw f m q (p,l)->Ztl s f m (Be s (Am s (K+1) ou) k q) (AV s (Al s (K+1)) k p l)
 | 0,f,m,q,p,l,D,J,d,A=>by refine⟨.inl (by show Aa s q.r=Aa s p.r;rw[d.r]),Qg (Zu _ _) d.le,λh=>d.bad (by rw[<-Zl s];exact h),⟨d.fq.n,d.fq.pn,d.fq.pr,d.fq.ls,d.fq.vs⟩,⟨d.fp.n,d.fp.ls,d.fp.vs⟩,λ_ h u v w=>?_⟩;obtain⟨M,a,b⟩:=A (by rw[<-Zl s];exact h) u v w;exact⟨⟨M.ex,M.sm,M.oe,M.os⟩,a,b⟩
 | k+1,f,m,q,p,l,D,J,d,A=>by
  simp only[Be,AV];rw[d.r];cases h:CU (Ae s p.r) with
  | true=>
   have i:Ae s p.r≠0∧Ae s p.r≠125:=by unfold CU Ct at h;simp only[QJ,decide_eq_true_eq,QL]at h;omega
   have F:=(Z8 i.1).1;rw[if_pos ⟨F,i.2⟩,if_pos rfl];have hA1:=D.go d.fq d.fp d.r;have Q:=d.le;have I:=Zu s p.r;obtain⟨g,P⟩:=L {q with r:=Aa s p.r} {p with r:=Aa s p.r} ⟨rfl,hA1.n,hA1.ls,hA1.vs⟩ (by show Ah s (Aa s p.r)<_;omega);refine On s K ou L k f m _ _ _ D J (d.trans ⟨g.r,Qg g.le I,λe=>by have:=g.bad e;exact F,⟨g.fq.n,g.fq.pn,g.fq.pr,g.fq.ls,g.fq.vs⟩,⟨g.fp.n,g.fp.ls,g.fp.vs⟩⟩) ?_;intro h u v w;generalize Am s (K+1) ou {q with r:=Aa s p.r}=y at *;generalize Al s (K+1) {p with r:=Aa s p.r}=z at *;obtain⟨M,a,b⟩:=A F u v w;have E:q.cd.length%2=0:=by have:(q.cd).length=(f.cd++Bn p.ex p.sm l (f.cd.length/2)).length:=congrArg List.length b;rw[Qe]at this;have:=If p.ex p.sm l (f.cd.length/2);omega
   obtain⟨j,N,C⟩:=P h M.oe M.os E;have j:Mo p z.1:=⟨j.ex,j.sm,j.oe,j.os⟩
   have C:y.cd=q.cd++one z.1.ex z.1.sm z.2 (q.cd.length/2):=C;have b:q.cd=f.cd++Bn p.ex p.sm l (f.cd.length/2):=b;refine⟨M.trans j,λn i=>?_,?_⟩
   ·rw[QI,QA]at i;rcases i with i|i
    ·exact j.lt (a n i)
    ·rw[i];exact N
   ·rw[C];show _=f.cd++Cm (one z.1.ex z.1.sm) (l++[z.2]) (f.cd.length/2);rw[MV _ _ _ _ (Ln _ _)];have O:Cm (one z.1.ex z.1.sm) l (f.cd.length/2)=Bn p.ex p.sm l (f.cd.length/2):=j.all M.oe M.os a _;rw[O];have H:q.cd.length/2=f.cd.length/2+(Bn p.ex p.sm l (f.cd.length/2)).length/2:=by have g:=If p.ex p.sm l (f.cd.length/2);rw[b,Qe];omega
    rw[H,b,QE]
  | false=>
   rw[if_neg (show ¬(false=true) from by simp)];by_cases o:p.r.er=0∧Ae s p.r≠125
   ·rw[if_pos o];have hd:=Lp (s:=s) (k:=K) (ou:=ou) (q:={q with r:=Aa s p.r}) (by show CU (Ae s (Aa s p.r))=false;rw[Zs];exact h);have x:(Am s (K+1) ou {q with r:=Aa s p.r}).r=Bi (Aa s p.r) 11:=by rw[hd.1];show Bi (Aa s (Aa s p.r)) 11=_;rw[Z3]
    have B:(Bi (Aa s p.r) 11).er≠0:=Dr (by omega);generalize Am s (K+1) ou {q with r:=Aa s p.r}=y at *;have R:Be s (Am s (K+1) ou) k y=y:=by
     cases k with
     | zero=>simp only[Be];rw[ZD (by rw[x];exact B)]
     | succ k=>simp only[Be];rw[if_neg (λc=>B (by rw[<-x];exact c.1)),ZD (by rw[x];exact B)]
    rw[R];have G:Eg q y:=⟨hd.2.n,hd.2.pn,hd.2.pr,hd.2.ls,hd.2.vs⟩
    refine⟨.inr ⟨by show (Aa s p.r).er=0;rw[Zl];exact o.1,by show CU (Ae s (Aa s p.r))=false;rw[Zs];exact h,by show Ae s (Aa s p.r)≠125;rw[Zs];exact o.2,by show y.r=Bi (Aa s (Aa s p.r)) 11;rw[Z3];exact x⟩,Qg (Zu _ _) d.le,λh=>d.bad o.1,d.fq.trans G,⟨d.fp.n,d.fp.ls,d.fp.vs⟩,λe=>?_⟩;exfalso;have e:y.r=Aa s p.r:=e;rw[x]at e;have:=congrArg Rd.er e;rw[Zl,o.1]at this;exact B this
   ·rw[if_neg o];refine⟨.inl rfl,Qg (Zu _ _) d.le,λh=>d.bad (by rw[<-Zl s];exact h),⟨d.fq.n,d.fq.pn,d.fq.pr,d.fq.ls,d.fq.vs⟩,⟨d.fp.n,d.fp.ls,d.fp.vs⟩,λ_ h u v w=>?_⟩;obtain⟨M,a,b⟩:=A (by rw[<-Zl s];exact h) u v w;exact⟨⟨M.ex,M.sm,M.oe,M.os⟩,a,b⟩
theorem CX.refl{q:Tq}{p:Rs}(h:q.r=p.r):CX s q p q p:=⟨h,Qb _,λe=>e,Eg.refl _,Fg.refl _⟩
theorem J7(s:ZB)(K:Nat)(ou:Int)(E:∀(q:Tq) (p:Rs),Ag q p->Ah s p.r<K+1->CX s q p (Am s (K+1) ou q) (Al s (K+1) p).1∧F5 q p (Am s (K+1) ou q) (Al s (K+1) p))(k:Nat)(q:Tq)(p:Rs)(f:Ag q p)(F:Ah s p.r<K+1) :
  CX s q p (Bt s (Am s (K+1) ou) k q) (AO s (Al s (K+1)) k p).1∧Kw q p (Bt s (Am s (K+1) ou) k q) (AO s (Al s (K+1)) k p):=by
 have C:=f.r;unfold Bt AO;rw[C];have G:=DS s p.r 123;have d:=On s K ou E k {q with r:=tk s p.r 123} {p with r:=tk s p.r 123} {q with r:=tk s p.r 123} {p with r:=tk s p.r 123} [] ⟨rfl,f.n,f.ls,f.vs⟩ (by show Ah s (tk s p.r 123)<_;omega) (CX.refl rfl) (λ_ i j _=>⟨⟨⟨[],by simp⟩,⟨[],by simp⟩,i,j⟩,λn B=>by simp at B,by simp[Bn,Cm]⟩);generalize Be s (Am s (K+1) ou) k {q with r:=tk s p.r 123}=y at *;generalize AV s (Al s (K+1)) k {p with r:=tk s p.r 123} []=z at *;have x:tk s y.r 125=tk s z.1.r 125:=by
  rcases d.e with e|⟨u,v,g,o⟩
  ·rw[e]
  ·rw[o,GZ (Dr (by omega))];unfold tk BW;rw[if_neg (by rw[QL];exact g)]
 have m:(tk s z.1.r 125).er=0->y.r=z.1.r:=by
  intro h;rcases d.e with e|⟨u,v,g,o⟩
  ·exact e
  ·have:=(Ij (by omega) h).2;rw[QL]at this;exact absurd this g
 have A:=d.le;have D:=DS s z.1.r 125;have c:Ah s ({p with r:=tk s p.r 123}:Rs).r=Ah s (tk s p.r 123):=rfl;refine⟨⟨x,by show Ah s (tk s z.1.r 125)<=_;omega,λh=>DJ (d.bad (DJ h)),⟨d.fq.n,d.fq.pn,d.fq.pr,d.fq.ls,d.fq.vs⟩,⟨d.fp.n,d.fp.ls,d.fp.vs⟩⟩,λh i j w=>?_⟩;obtain⟨M,a,b⟩:=d.ok (m h) (DJ h) i j w;exact⟨⟨M.ex,M.sm,M.oe,M.os⟩,a,b⟩
theorem Nc(A B:List Int)(a b v:Int)(i:Nat)(d:i=A.length+1):(A++[a,b]++B).set i v=A++[a,v]++B:=by subst d;rw[QE,List.set_append_right _ _ (by omega),show A.length+1-A.length=1 from by omega,QE];rfl
theorem Ud(s:ZB)(q:Tq)(p:Rs)(x:Sq)(a:Nat)(e:Ag q p):CX s q p (Fw s q x) (Hi s p a).1∧F5 q p (Fw s q x) (Hi s p a):=by
 unfold Fw Hi;dsimp only;rw[e.r,e.ls];have A:=MU s p.r p.ls;have B:=DS s (AD s p.r p.ls) 61;have d:=Gl s ({q with r:=tk s (AD s p.r p.ls) 61,ls:=p.ls},{x with k:=1,ta:=BN {q with ls:=p.ls} (varI s p.r p.ls)}) {p with r:=tk s (AD s p.r p.ls) 61} ⟨rfl,e.n,rfl,e.vs⟩;rw[show BN {q with ls:=p.ls} (varI s p.r p.ls)=BN q (varI s p.r p.ls) from rfl]at d;generalize Cb s ({q with r:=tk s (AD s p.r p.ls) 61,ls:=p.ls},{x with k:=1,ta:=BN q (varI s p.r p.ls)})=y at *;generalize CJ s {p with r:=tk s (AD s p.r p.ls) 61}=z at *;have C:=DS s z.1.r 59;have D:=d.le;have c:Ah s ({p with r:=tk s (AD s p.r p.ls) 61}:Rs).r=Ah s (tk s (AD s p.r p.ls) 61):=rfl;refine⟨⟨by show tk s y.1.r 59=tk s z.1.r 59;rw[d.r],by show Ah s (tk s z.1.r 59)<=_;omega,λh=>(LA (DJ (d.bad (DJ h)))).1,⟨d.fq.n,d.fq.pn,d.fq.pr,by show y.1.ls=_;rw[d.fq.ls];exact e.ls.symm,d.fq.vs⟩,⟨d.fp.n,d.fp.ls,d.fp.vs⟩⟩,λh v w E=>?_⟩;obtain⟨m,g,o,j,u⟩:=d.ok (DJ h) v;have i:z.1.sm=p.sm:=d.sm;have f:BY z.1.ex z.1.sm:=by rw[i,g];exact w.more m
 refine⟨⟨⟨m,g⟩,⟨[_],by show z.1.sm++[_]=p.sm++_;rw[i]⟩,o,f.add j (by simp) (by simp)⟩,by simp[Dl],?_⟩;show y.1.cd++_=q.cd++one z.1.ex (z.1.sm++[_]) z.1.sm.length _;rw[LB o f j (by simp) (by simp),u];simp
theorem Uz(s:ZB)(q:Tq)(p:Rs)(x:Sq)(a:Nat)(e:Ag q p):CX s q p (FW s q x) (Hj s p a).1∧F5 q p (FW s q x) (Hj s p a):=by
 unfold FW Hj;dsimp only;rw[e.r,e.n];have A:=IU s (tk s p.r 62) 0 (p.n-1);have B:=DS s p.r 62;have d:=Gl s ({q with r:=An s (tk s p.r 62) 0 (p.n-1),n:=p.n},{x with k:=2,ta:=AW s (tk s p.r 62) 0 (p.n-1)}) {p with r:=An s (tk s p.r 62) 0 (p.n-1)} ⟨rfl,rfl,e.ls,e.vs⟩;generalize Cb s ({q with r:=An s (tk s p.r 62) 0 (p.n-1),n:=p.n},{x with k:=2,ta:=AW s (tk s p.r 62) 0 (p.n-1)})=y at *;generalize CJ s {p with r:=An s (tk s p.r 62) 0 (p.n-1)}=z at *;have C:=DS s z.1.r 59;have D:=d.le;have c:Ah s ({p with r:=An s (tk s p.r 62) 0 (p.n-1)}:Rs).r=Ah s (An s (tk s p.r 62) 0 (p.n-1)):=rfl;refine⟨⟨by show tk s y.1.r 59=tk s z.1.r 59;rw[d.r],by show Ah s (tk s z.1.r 59)<=_;omega,λh=>DJ (J6 (d.bad (DJ h))),⟨by show y.1.n=_;rw[d.fq.n];exact e.n.symm,d.fq.pn,d.fq.pr,d.fq.ls,d.fq.vs⟩,⟨d.fp.n,d.fp.ls,d.fp.vs⟩⟩,λh v w E=>?_⟩;obtain⟨m,g,o,j,u⟩:=d.ok (DJ h) v;have i:z.1.sm=p.sm:=d.sm;have f:BY z.1.ex z.1.sm:=by rw[i,g];exact w.more m
 refine⟨⟨⟨m,g⟩,⟨[_],by show z.1.sm++[_]=p.sm++_;rw[i]⟩,o,f.add j (by simp) (by simp)⟩,by simp[Dl],?_⟩;show y.1.cd++_=q.cd++one z.1.ex (z.1.sm++[_]) z.1.sm.length _;rw[LB o f j (by simp) (by simp),u];simp
theorem Oo(s:ZB)(K:Nat)(O:∀(E:Int) (q:Tq) (p:Rs),Ag q p->Ah s p.r<K+1->CX s q p (Am s (K+1) E q) (Al s (K+1) p).1∧F5 q p (Am s (K+1) E q) (Al s (K+1) p))(q:Tq)(p:Rs)(x:Sq)(f:Int)(g:Ag q p)(T:Ah s (tk s p.r f)<K+1)(y:Tq×Sq)(z:Rs×Nat)
  (L:Cb s ({q with r:=tk s p.r f},x)=y) (N:CJ s {p with r:=tk s p.r f}=z) :
  CX s q p (Bt s (Am s (K+1) y.1.ss.length) (K+1) (Ad (Ax y.1 y.2) 9 0)) (AO s (Al s (K+1)) (K+1) z.1).1∧
  ((AO s (Al s (K+1)) (K+1) z.1).1.r.er=0->BA p.ex->BY p.ex p.sm->q.cd.length%2=0->Mo p (AO s (Al s (K+1)) (K+1) z.1).1∧(∀n,n∈(AO s (Al s (K+1)) (K+1) z.1).2->n<(AO s (Al s (K+1)) (K+1) z.1).1.sm.length)∧z.2<(AO s (Al s (K+1)) (K+1) z.1).1.ex.length∧
   (plQ y.1=q.cd.length/2+(AQ (AO s (Al s (K+1)) (K+1) z.1).1.ex z.2).length/2)∧
   (Bt s (Am s (K+1) y.1.ss.length) (K+1) (Ad (Ax y.1 y.2) 9 0)).cd=q.cd++AQ (AO s (Al s (K+1)) (K+1) z.1).1.ex z.2++[9,0]++Bn (AO s (Al s (K+1)) (K+1) z.1).1.ex (AO s (Al s (K+1)) (K+1) z.1).1.sm (AO s (Al s (K+1)) (K+1) z.1).2 (q.cd.length/2+(AQ (AO s (Al s (K+1)) (K+1) z.1).1.ex z.2).length/2+1)):=by
 have d:=Gl s ({q with r:=tk s p.r f},x) {p with r:=tk s p.r f} ⟨rfl,g.n,g.ls,g.vs⟩;rw[L,N]at d;have c:Ah s ({p with r:=tk s p.r f}:Rs).r=Ah s (tk s p.r f):=rfl;have R:=d.le;have V:=DS s p.r f;have hA1:Ag (Ad (Ax y.1 y.2) 9 0) z.1:=⟨d.r,by show y.1.n=_;rw[d.fq.n,d.fp.n];exact g.n,by show y.1.ls=_;rw[d.fq.ls,d.fp.ls];exact g.ls,by show y.1.vs=_;rw[d.fq.vs,d.fp.vs];exact g.vs⟩
 obtain⟨e,w⟩:=J7 s K y.1.ss.length (O _) (K+1) (Ad (Ax y.1 y.2) 9 0) z.1 hA1 (by omega);generalize Bt s (Am s (K+1) y.1.ss.length) (K+1) (Ad (Ax y.1 y.2) 9 0)=u at *;generalize AO s (Al s (K+1)) (K+1) z.1=v at *;have S:=e.le;refine⟨⟨e.r,by omega,λh=>DJ (d.bad (e.bad h)),⟨by rw[e.fq.n];exact d.fq.n,by rw[e.fq.pn];exact d.fq.pn,by rw[e.fq.pr];exact d.fq.pr,by rw[e.fq.ls];exact d.fq.ls,by rw[e.fq.vs];exact d.fq.vs⟩,⟨by rw[e.fp.n];exact d.fp.n,by rw[e.fp.ls];exact d.fp.ls,by rw[e.fp.vs];exact d.fp.vs⟩⟩,λh I J U=>?_⟩;obtain⟨m,o,A,D,j⟩:=d.ok (e.bad h) I;have C:z.1.sm=p.sm:=d.sm;have o:z.1.ex=p.ex++m:=o;have i:BY z.1.ex z.1.sm:=by rw[C,o];exact J.more m
 have j:y.1.cd=q.cd++AQ z.1.ex z.2:=j;have Q:=JV z.1.ex z.2;have B:(Ad (Ax y.1 y.2) 9 0).cd=q.cd++AQ z.1.ex z.2++[9,0]:=by show y.1.cd++[9,0%256]=_;rw[j];rfl
 have P:(Ad (Ax y.1 y.2) 9 0).cd.length=q.cd.length+(AQ z.1.ex z.2).length+2:=by rw[B];simp only[Qe,Qt,Qy]
 obtain⟨M,F,G⟩:=w h A i (by omega);have H:AQ v.1.ex z.2=AQ z.1.ex z.2:=M.cod A D;rw[H];refine⟨Mo.trans ⟨⟨m,o⟩,⟨[],by rw[C];simp⟩,A,i⟩ M,F,M.lte D,?_,?_⟩
 ·unfold plQ;rw[j,Qe];omega
 ·rw[G,show (Ad (Ax y.1 y.2) 9 0).cd.length/2=q.cd.length/2+(AQ z.1.ex z.2).length/2+1 from by omega,B]
theorem Zrf(s:ZB)(K:Nat)(I:∀(m:Int) (q:Tq) (p:Rs),Ag q p->Ah s p.r<K+1->CX s q p (Am s (K+1) m q) (Al s (K+1) p).1∧F5 q p (Am s (K+1) m q) (Al s (K+1) p))(q:Tq)(p:Rs)(x:Sq)(a:Nat)(i:Ag q p)(C:Ah s (tk s p.r 64)<K+1) :
  CX s q p (Fy s (Am s (K+1)) (K+1) q x) (Hl s (Al s (K+1)) (K+1) p a).1∧F5 q p (Fy s (Am s (K+1)) (K+1) q x) (Hl s (Al s (K+1)) (K+1) p a):=by
 have F:=Oo s K I q p {x with k:=4} 64 i C _ _ rfl rfl;unfold Fy Hl;dsimp only;rw[i.r];generalize Cb s ({q with r:=tk s p.r 64},{x with k:=4})=y at *;generalize CJ s {p with r:=tk s p.r 64}=z at *;generalize Bt s (Am s (K+1) y.1.ss.length) (K+1) (Ad (Ax y.1 y.2) 9 0)=u at *;generalize AO s (Al s (K+1)) (K+1) z.1=v at *;obtain⟨d,e⟩:=F;refine⟨⟨d.r,d.le,d.bad,⟨d.fq.n,d.fq.pn,d.fq.pr,d.fq.ls,d.fq.vs⟩,⟨d.fp.n,d.fp.ls,d.fp.vs⟩⟩,λh A D G=>?_⟩;obtain⟨M,f,j,L,g⟩:=e h A D G;obtain⟨J,o⟩:=M.sm;refine⟨⟨M.ex,⟨J++[_],by show v.1.sm++[_]=_;rw[o,List.append_assoc]⟩,M.oe,M.os.add j f (by simp)⟩,by simp[Dl],?_⟩;show (Bd (Ad u 8 (plQ q)) (plQ y.1)).cd=q.cd++one v.1.ex (v.1.sm++[_]) v.1.sm.length _;rw[LB M.oe M.os j f (by simp)];dsimp only;rw[if_neg (by omega),if_neg (by omega),if_pos rfl];have N:=JV v.1.ex z.2;have w:=If v.1.ex v.1.sm v.2 (q.cd.length/2+(AQ v.1.ex z.2).length/2+1);generalize Bn v.1.ex v.1.sm v.2 (q.cd.length/2+(AQ v.1.ex z.2).length/2+1)=B at *;generalize AQ v.1.ex z.2=E at *;show (u.cd++[8,(plQ q:Int)%256]).set (2*plQ y.1+1) ((((u.cd++[8,(plQ q:Int)%256]).length/2:Nat):Int)%256)=_;have H:(u.cd++[8,(plQ q:Int)%256]).length/2=q.cd.length/2+E.length/2+1+B.length/2+1:=by rw[g];simp only[Qe,Qt,Qy];omega
 rw[H,g,QE (q.cd++E++[9,0]) B,Nc _ _ _ _ _ _ (by rw[L,Qe];omega)];unfold plQ;simp
theorem Zrg(s:ZB)(K:Nat)(Y:∀(ou:Int) (q:Tq) (p:Rs),Ag q p->Ah s p.r<K+1->CX s q p (Am s (K+1) ou q) (Al s (K+1) p).1∧F5 q p (Am s (K+1) ou q) (Al s (K+1) p))(q:Tq)(p:Rs)(x:Sq)(a:Nat)(j:Ag q p)(hK:Ah s (tk s p.r 63)<K+1) :
  CX s q p (Fx s (Am s (K+1)) (K+1) q x) (F0 s (Al s (K+1)) (K+1) p a).1∧F5 q p (Fx s (Am s (K+1)) (K+1) q x) (F0 s (Al s (K+1)) (K+1) p a):=by
 have hP:=Oo s K Y q p {x with k:=3} 63 j hK _ _ rfl rfl;unfold Fx F0;dsimp only;rw[j.r];generalize Cb s ({q with r:=tk s p.r 63},{x with k:=3})=y at *;have I:∃z,CJ s {p with r:=tk s p.r 63}=z:=⟨_,rfl⟩
 obtain⟨z,I⟩:=I;have X:=(Gl s ({q with r:=tk s p.r 63},x) {p with r:=tk s p.r 63} ⟨rfl,j.n,j.ls,j.vs⟩).le;rw[I]at X;rw[I]at hP ⊢;generalize hu:Bt s (Am s (K+1) y.1.ss.length) (K+1) (Ad (Ax y.1 y.2) 9 0)=u at *;generalize hv:AO s (Al s (K+1)) (K+1) z.1=v at *;obtain⟨d,C⟩:=hP;rw[d.r];by_cases H:Ae s v.1.r=58
 ·rw[if_pos H,if_pos H];have af:=ZR (s:=s) (r:=v.1.r) (by omega);have ae:=d.le;have ag:=DS s p.r 63;have i:=j.go d.fq d.fp d.r;have aj:Ah s v.1.r<K+1:=by have c:Ah s ({p with r:=tk s p.r 63}:Rs).r=Ah s (tk s p.r 63):=rfl;have:=(J7 s K y.1.ss.length (Y _) (K+1) ⟨z.1.r,z.1.n,0,λ_ _=>false,z.1.ls,z.1.vs,[],0,0,[]⟩ z.1 ⟨rfl,rfl,rfl,rfl⟩ (by omega)).1.le;rw[hv]at this;omega
  have hO:=J7 s K y.1.ss.length (Y _) (K+1) (Bd (Ad {u with r:=nx (Aa s v.1.r)} 8 0) (plQ y.1)) {v.1 with r:=nx (Aa s v.1.r)} ⟨rfl,i.n,i.ls,i.vs⟩ (by show Ah s (nx (Aa s v.1.r))<_;omega);have A:v.1.r.er=0:=(Z8 (s:=s) (r:=v.1.r) (by omega)).1;have D:(Bd (Ad {u with r:=nx (Aa s v.1.r)} 8 0) (plQ y.1)).cd=(u.cd++[8,0]).set (2*plQ y.1+1) ((((u.cd++[8,0]).length/2:Nat):Int)%256):=rfl;have U:Eg u (Bd (Ad {u with r:=nx (Aa s v.1.r)} 8 0) (plQ y.1)):=⟨rfl,rfl,rfl,rfl,rfl⟩
  generalize Bd (Ad {u with r:=nx (Aa s v.1.r)} 8 0) (plQ y.1)=u1 at *;generalize Bt s (Am s (K+1) y.1.ss.length) (K+1) u1=u2 at *;generalize AO s (Al s (K+1)) (K+1) {v.1 with r:=nx (Aa s v.1.r)}=c at *;obtain⟨f,S⟩:=hO;have aa:=f.le;have ab:Ah s ({v.1 with r:=nx (Aa s v.1.r)}:Rs).r=Ah s (nx (Aa s v.1.r)):=rfl;refine⟨⟨f.r,by show Ah s c.1.r<=_;omega,λh=>d.bad A,?_,?_⟩,λh Q R T=>?_⟩
  ·have g:=d.fq.trans (U.trans f.fq);exact⟨g.n,g.pn,g.pr,g.ls,g.vs⟩
  ·have g:Fg v.1 c.1:=⟨f.fp.n,f.fp.ls,f.fp.vs⟩
   have P:=d.fp.trans g;exact⟨P.n,P.ls,P.vs⟩
  obtain⟨M,o,G,p1,w⟩:=C A Q R T;have ev:=JV v.1.ex z.2;have N:=If v.1.ex v.1.sm v.2 (q.cd.length/2+(AQ v.1.ex z.2).length/2+1);have ai:u.cd.length=q.cd.length+(AQ v.1.ex z.2).length+2+(Bn v.1.ex v.1.sm v.2 (q.cd.length/2+(AQ v.1.ex z.2).length/2+1)).length:=by rw[w];simp only[Qe,Qt,Qy]
  have ah:u1.cd.length=u.cd.length+2:=by rw[D,Um,Qe];rfl
  obtain⟨e,a2,J⟩:=S h M.oe M.os (by omega);have e:Mo v.1 c.1:=⟨e.ex,e.sm,e.oe,e.os⟩
  obtain⟨Z,L⟩:=(M.trans e).sm;have lc:z.2<c.1.ex.length:=e.lte G;have ac:∀m,m∈v.2->m<c.1.sm.length:=λm hm=>e.lt (o m hm);refine⟨⟨(M.trans e).ex,⟨Z++[_],by show c.1.sm++[_]=_;rw[L,List.append_assoc]⟩,e.oe,e.os.add lc ac a2⟩,by simp[Dl],?_⟩;show (Bd u2 (plQ u)).cd=q.cd++one c.1.ex (c.1.sm++[_]) c.1.sm.length _
  rw[LB e.oe e.os lc ac a2];dsimp only;rw[if_neg (by omega),if_neg (by omega),if_neg (by omega),if_neg (by simp)];rw[e.cod M.oe G,e.all M.oe M.os o];have ad:=If c.1.ex c.1.sm c.2 (q.cd.length/2+(AQ v.1.ex z.2).length/2+1+(Bn v.1.ex v.1.sm v.2 (q.cd.length/2+(AQ v.1.ex z.2).length/2+1)).length/2+1);have W:u1.cd.length/2=q.cd.length/2+(AQ v.1.ex z.2).length/2+1+(Bn v.1.ex v.1.sm v.2 (q.cd.length/2+(AQ v.1.ex z.2).length/2+1)).length/2+1:=by omega
  rw[W]at J;generalize Bn c.1.ex c.1.sm c.2 (q.cd.length/2+(AQ v.1.ex z.2).length/2+1+(Bn v.1.ex v.1.sm v.2 (q.cd.length/2+(AQ v.1.ex z.2).length/2+1)).length/2+1)=O at *;generalize Bn v.1.ex v.1.sm v.2 (q.cd.length/2+(AQ v.1.ex z.2).length/2+1)=B at *;generalize AQ v.1.ex z.2=E at *;have F:u1.cd=q.cd++E++[9,((q.cd.length/2+E.length/2+1+B.length/2+1:Nat):Int)%256]++B++[8,0]:=by rw[D,show (u.cd++([8,0]:List Int)).length/2=q.cd.length/2+E.length/2+1+B.length/2+1 from by rw[Qe];simp only[Qt,Qy];omega,w,QE (q.cd++E++[9,0]) B,Nc _ _ _ _ _ _ (by rw[p1,Qe];omega)];simp
  show u2.cd.set (2*plQ u+1) (((u2.cd.length/2:Nat):Int)%256)=_;have V:u2.cd.length/2=q.cd.length/2+E.length/2+1+B.length/2+1+O.length/2:=by rw[J,Qe];omega
  rw[V,J,F,Nc _ _ _ _ _ _ (by unfold plQ;simp only[Qe,Qt,Qy];omega)];simp
 ·rw[if_neg H,if_neg H];refine⟨⟨rfl,Qg (Zu _ _) d.le,λh=>d.bad (by rw[<-Zl s];exact h),⟨d.fq.n,d.fq.pn,d.fq.pr,d.fq.ls,d.fq.vs⟩,⟨d.fp.n,d.fp.ls,d.fp.vs⟩⟩,λh Q R T=>?_⟩;obtain⟨M,o,G,p1,w⟩:=C (by rw[<-Zl s];exact h) Q R T;obtain⟨Z,L⟩:=M.sm;refine⟨⟨M.ex,⟨Z++[_],by show v.1.sm++[_]=_;rw[L,List.append_assoc]⟩,M.oe,M.os.add G o (by simp)⟩,by simp[Dl],?_⟩;show (Bd {u with r:=Aa s v.1.r} (plQ y.1)).cd=q.cd++one v.1.ex (v.1.sm++[_]) v.1.sm.length _;rw[LB M.oe M.os G o (by simp)];dsimp only;rw[if_neg (by omega),if_neg (by omega),if_neg (by omega),if_pos rfl];have ev:=JV v.1.ex z.2;have N:=If v.1.ex v.1.sm v.2 (q.cd.length/2+(AQ v.1.ex z.2).length/2+1);generalize Bn v.1.ex v.1.sm v.2 (q.cd.length/2+(AQ v.1.ex z.2).length/2+1)=B at *;generalize AQ v.1.ex z.2=E at *;show u.cd.set (2*plQ y.1+1) (((u.cd.length/2:Nat):Int)%256)=_;have hl:u.cd.length/2=q.cd.length/2+E.length/2+1+B.length/2:=by rw[w];simp only[Qe,Qt,Qy];omega
  rw[hl,w,Nc _ _ _ _ _ _ (by rw[p1,Qe];omega)];simp
theorem FM(s:ZB):∀(k:Nat) (m:Int) (q:Tq) (p:Rs),Ag q p->Ah s p.r<k->CX s q p (Am s k m q) (Al s k p).1∧F5 q p (Am s k m q) (Al s k p)
 | 0,m,q,p,i,B=>by omega
 | k+1,m,q,p,i,B=>by
  have hA1:Ag {q with r:=Aa s p.r} {p with r:=Aa s p.r}:=⟨rfl,i.n,i.ls,i.vs⟩
  have v:=Zu s p.r;have d:∀(y:Tq) (z:Rs×Nat),(CX s {q with r:=Aa s p.r} {p with r:=Aa s p.r} y z.1∧F5 {q with r:=Aa s p.r} {p with r:=Aa s p.r} y z)->CX s q p y z.1∧F5 q p y z:=λy z h=>⟨⟨h.1.r,Qg h.1.le v,λe=>by have:=h.1.bad e;rw[<-Zl s];exact this,⟨h.1.fq.n,h.1.fq.pn,h.1.fq.pr,h.1.fq.ls,h.1.fq.vs⟩,⟨h.1.fp.n,h.1.fp.ls,h.1.fp.vs⟩⟩,λe w x A=>by obtain⟨M,a,b⟩:=h.2 e w x A;exact⟨⟨M.ex,M.sm,M.oe,M.os⟩,a,b⟩⟩
  simp only[Am,Al];rw[i.r];by_cases j:Ae s p.r=62
  ·rw[if_pos j,if_pos j];exact d _ _ (Uz s _ _ _ _ hA1)
  ·rw[if_neg j,if_neg j];by_cases f:Ae s p.r=63
   ·rw[if_pos f,if_pos f];have u:=ZR (s:=s) (r:=p.r) (by omega);have o:tk s (Aa s p.r) 63=nx (Aa s p.r):=by rw[<-f];exact Ew (by omega)
    obtain⟨K,rfl⟩:∃K,k=K+1:=⟨k-1,by omega⟩
    exact d _ _ (Zrg s K (FM s (K+1)) _ _ _ _ hA1 (by show Ah s (tk s (Aa s p.r) 63)<_;rw[o];omega))
   ·rw[if_neg f,if_neg f];by_cases g:Ae s p.r=64
    ·rw[if_pos g,if_pos g];have u:=ZR (s:=s) (r:=p.r) (by omega);have o:tk s (Aa s p.r) 64=nx (Aa s p.r):=by rw[<-g];exact Ew (by omega)
     obtain⟨K,rfl⟩:∃K,k=K+1:=⟨k-1,by omega⟩
     exact d _ _ (Zrf s K (FM s (K+1)) _ _ _ _ hA1 (by show Ah s (tk s (Aa s p.r) 64)<_;rw[o];omega))
    ·rw[if_neg g,if_neg g];exact d _ _ (Ud s _ _ _ _ hA1)
theorem Nm(l:List Int):∀(k:Nat) (a b:Int),AZ l k a b=true->AZ l (k+1) a b=true
 | 0,a,b,h=>by simp only[AZ]at h ⊢;simp[h]
 | k+1,a,b,h=>by
  rw[AZ]at h ⊢;rw[QJ]at h ⊢;rcases h with h|h
  ·exact .inl h
  ·rw[List.any_eq_true]at h ⊢;obtain⟨i,d,h⟩:=h;rw[Qr]at h;exact .inr ⟨i,d,by rw[Qr];exact⟨h.1,Nm l k _ _ h.2⟩⟩
theorem Tm{d:Nat}(h:AZ l k a b=true)(g:k<=d):AZ l d a b=true:=by
 induction d with
 | zero=>
  have:k=0:=by omega
  rw[this]at h;exact h
 | succ j f=>
  by_cases e:k=j+1
  ·rw[e]at h;exact h
  ·exact Nm l j a b (f (by omega))
theorem Lq(l:List Int)(k:Nat)(a:Int):AZ l k a a=true:=by cases k<;>simp[AZ]
def Pr(l:List Int)(a b:Int):Prop:=∃i:Nat,2*i+1<l.length∧l.getD (2*i) 0=a∧l.getD (2*i+1) 0=b
theorem JW:AZ l (k+1) a b=true↔a=b∨∃c,Pr l a c∧AZ l k c b=true:=by
 rw[AZ,QJ,QL,List.any_eq_true];constructor
 ·rintro(h|⟨i,d,h⟩)
  ·exact .inl h
  ·rw[Qr,QL]at h;rw[Ut]at d;exact .inr ⟨_,⟨i,by omega,h.1,rfl⟩,h.2⟩
 ·rintro(h|⟨c,⟨i,d,e,f⟩,g⟩)
  ·exact .inl h
  ·exact .inr ⟨i,by rw[Ut];omega,by rw[Qr,QL];exact⟨e,by rw[f];exact g⟩⟩
def CE(l:List Int)(a b:Int):Prop:=∃k,AZ l k a b=true
theorem CE.refl(l:List Int)(a:Int):CE l a a:=⟨0,Lq l 0 a⟩
theorem CE.head(h:Pr l a b)(k:CE l b c):CE l a c:=by obtain⟨j,k⟩:=k;exact⟨j+1,JW.2 (.inr ⟨b,h,k⟩)⟩
theorem CE.ind(P:Int->Prop)(d:P b)(e:∀a c,Pr l a c->P c->P a)(h:CE l a b):P a:=by
 obtain⟨k,h⟩:=h;induction k generalizing a with
 | zero=>simp[AZ]at h;rw[h];exact d
 | succ k g=>
  rcases JW.1 h with h|⟨c,f,h⟩
  ·rw[h];exact d
  ·exact e a c f (g h)
theorem CE.trans(h:CE l a b)(k:CE l b c):CE l a c:=CE.ind (λx=>CE l x c) k (λa c d h=>h.head d) h
def In(l:List Int)(n:Nat):Prop:=∀i:Nat,i<l.length->0<=l.getD i 0∧l.getD i 0<n
def Fd(l:List Int)(b:Int)(k:Nat):Nat->Nat
 | 0=>0
 | n+1=>Fd l b k n+if AZ l k n b=true then 1 else 0
theorem UA(l:List Int)(b:Int)(k:Nat):∀n,Fd l b k n<=n
 | 0=>Qb _
 | n+1=>by have:=UA l b k n;simp only[Fd];split<;>omega
theorem N5(l:List Int)(b:Int)(k:Nat):∀n,Fd l b k n<=Fd l b (k+1) n
 | 0=>Qb _
 | n+1=>by
  have:=N5 l b k n;simp only[Fd];by_cases h:AZ l k n b=true
  ·rw[if_pos h,if_pos (Nm l k _ _ h)];omega
  ·rw[if_neg h];omega
theorem Sh(l:List Int)(b:Int)(k:Nat):∀n,Fd l b k n=Fd l b (k+1) n->∀a:Nat,a<n->AZ l (k+1) a b=true->AZ l k a b=true
 | 0,_,a,g,_=>by omega
 | n+1,h,a,g,f=>by
  have m:=N5 l b k n;simp only[Fd]at h;by_cases e:a=n
  ·subst e;by_cases d:AZ l k a b=true
   ·exact d
   ·rw[if_neg d,if_pos f]at h;omega
  ·refine Sh l b k n ?_ a (by omega) f;by_cases d:AZ l k n b=true
   ·rw[if_pos d,if_pos (Nm l k _ _ d)]at h;omega
   ·rw[if_neg d]at h;split at h<;>omega
theorem UB(m:In l n){b:Nat}(h:∀a:Nat,a<n->AZ l (k+1) a b=true->AZ l k a b=true):∀(j:Nat) (a:Nat),a<n->AZ l (k+j) a b=true->AZ l k a b=true
 | 0,a,o,f=>f
 | j+1,a,o,f=>by
  rcases JW.1 (show AZ l (k+j+1) a b=true from f) with e|⟨c,p,r⟩
  ·rw[e];exact Lq l k _
  ·obtain⟨i,u,v,q⟩:=id p;have g:=m (2*i+1) u;rw[q]at g;obtain⟨d,rfl⟩:∃d:Nat,c=d:=⟨c.toNat,by omega⟩
   have:=UB m h j d (by omega) r;exact h a o (JW.2 (.inr ⟨_,p,this⟩))
theorem W6(o:In l n){a b:Nat}(q:a<n)(r:b<n)(h:CE l a b):AZ l (n-1) a b=true:=by
 -- either the count still grows at each step up to k,or it stands still from some step on
 have f:∀k,(k+1<=Fd l b k n)∨(∃j,j<k∧∀a:Nat,a<n->AZ l (j+1) a b=true->AZ l j a b=true):=by
  intro k;induction k with
  | zero=>
   refine .inl ?_;have:∀m,b<m->1<=Fd l b 0 m:=by
    intro m;induction m with
    | zero=>intro h;omega
    | succ m d=>
     intro h;simp only[Fd];by_cases e:b=m
     ·subst e;rw[if_pos (Lq l 0 _)];omega
     ·have:=d (by omega);omega
   exact this n r
  | succ k d=>
   rcases d with d|⟨j,u,d⟩
   ·by_cases e:Fd l b k n=Fd l b (k+1) n
    ·exact .inr ⟨k,by omega,Sh l b k n e⟩
    ·have:=N5 l b k n;exact .inl (by omega)
   ·exact .inr ⟨j,by omega,d⟩
 obtain⟨K,p⟩:=h;rcases f n with g|⟨j,u,g⟩
 ·have:=UA l b n n;omega
 ·have i:=UB o g K a q (Tm p (by omega));exact Tm i (by omega)
theorem Nn(o:l.length%2=0){x y:Int}:Pr (l++[x,y]) a b↔Pr l a b∨(a=x∧b=y):=by
 have g:∀i,i<l.length->(l++[x,y]).getD i 0=l.getD i 0:=λi h=>by rw[Qs,Qs,QD h]
 have j:(l++[x,y]).getD l.length 0=x:=by rw[Qs,QF (Qb _)];simp
 have m:(l++[x,y]).getD (l.length+1) 0=y:=by rw[Qs,QF (by omega)];simp
 constructor
 ·rintro⟨i,h,d,f⟩;rw[Qe]at h;have h:2*i+1<l.length+2:=h;by_cases c:2*i+1<l.length
  ·rw[g _ (by omega)]at d;rw[g _ c]at f;exact .inl ⟨i,c,d,f⟩
  ·have e:2*i=l.length:=by omega
   rw[e]at d f;rw[j]at d;rw[m]at f;exact .inr ⟨d.symm,f.symm⟩
 ·rintro(⟨i,h,d,f⟩|⟨d,f⟩)
  ·exact⟨i,by rw[Qe];omega,by rw[g _ (by omega)];exact d,by rw[g _ h];exact f⟩
  ·have e:2*(l.length/2)=l.length:=by omega
   exact⟨l.length/2,by rw[Qe];show _<l.length+2;omega,by rw[e,j,d],by rw[e,m,f]⟩
theorem Zrh(g:l.length%2=0){x y:Int}:CE (l++[x,y]) a b↔CE l a b∨(CE l a x∧CE l y b):=by
 constructor
 ·intro h;refine CE.ind (λa=>CE l a b∨(CE l a x∧CE l y b)) (.inl (CE.refl l b)) ?_ h;intro a c f e;rcases(Nn g).1 f with d|⟨d,i⟩
  ·rcases e with h|⟨h,k⟩
   ·exact .inl (h.head d)
   ·exact .inr ⟨h.head d,k⟩
  ·rw[d];rw[i]at e;rcases e with h|⟨h,k⟩
   ·exact .inr ⟨CE.refl l x,h⟩
   ·exact .inr ⟨CE.refl l x,k⟩
 ·have up:∀{a b:Int},CE l a b->CE (l++[x,y]) a b:=λh=>CE.ind (λa=>CE (l++[x,y]) a _) (CE.refl _ _) (λa c f h=>h.head ((Nn g).2 (.inl f))) h;rintro(h|⟨h,k⟩)
  ·exact up h
  ·exact(up h).trans ((up k).head ((Nn g).2 (.inr ⟨rfl,rfl⟩)))
theorem Ke(s:ZB)(x:Tq×Sq):Ah s (Cb s x).1.r<=Ah s x.1.r:=by have h:=Gl s x ⟨x.1.r,x.1.n,x.1.ls,x.1.vs,[],[]⟩ ⟨rfl,rfl,rfl,rfl⟩;rw[h.r];exact h.le
theorem LC(s:ZB)(K k:Nat)(ou:Int)(q:Tq)(d:Ah s q.r<K+1):Ah s (Bt s (Am s (K+1) ou) k q).r<=Ah s q.r:=by have h:=(J7 s K ou (FM s (K+1) ou) k q ⟨q.r,q.n,q.ls,q.vs,[],[]⟩ ⟨rfl,rfl,rfl,rfl⟩ d).1;rw[h.r];exact h.le
theorem PG(s:ZB)(k:Nat)(ou:Int)(q:Tq)(z:Ah s q.r<k)(v:Ae s q.r≠0):Ah s (Am s k ou q).r<Ah s q.r:=by
 obtain⟨k,rfl⟩:∃j,k=j+1:=⟨k-1,by omega⟩
 have p:=ZR v;have g:∀c,Ae s q.r=c->tk s (Aa s q.r) c=nx (Aa s q.r):=λc h=>by rw[<-h];exact Ew v
 simp only[Am];by_cases i:Ae s q.r=62
 ·rw[if_pos i];unfold FW;dsimp only;rw[g 62 i];refine Nat.lt_of_le_of_lt (Qg (DS _ _ _) (Qg (Ke _ _) (IU _ _ _ _))) p
 ·rw[if_neg i];by_cases m:Ae s q.r=63
  ·rw[if_pos m];obtain⟨K,rfl⟩:∃K,k=K+1:=⟨k-1,by omega⟩
   unfold Fx;dsimp only;rw[g 63 m];have f:=Ke s ({q with r:=nx (Aa s q.r)},{k:=3,pl:=((Aa s q.r).a:Int),ou:=ou,ta:=0,rd:=none6,tp:=none6});generalize Cb s ({q with r:=nx (Aa s q.r)},{k:=3,pl:=((Aa s q.r).a:Int),ou:=ou,ta:=0,rd:=none6,tp:=none6})=y at *;have f:Ah s y.1.r<=Ah s (nx (Aa s q.r)):=f;have d:=LC s K (K+1) y.1.ss.length (Ad (Ax y.1 y.2) 9 0) (by show Ah s y.1.r<_;omega);generalize Bt s (Am s (K+1) y.1.ss.length) (K+1) (Ad (Ax y.1 y.2) 9 0)=u at *;have d:Ah s u.r<=Ah s y.1.r:=d;split
   ·have x:=Qg (Ob s (Aa s u.r)) (Zu s u.r);have e:=LC s K (K+1) y.1.ss.length (Bd (Ad {u with r:=nx (Aa s u.r)} 8 0) (plQ y.1)) (by show Ah s (nx (Aa s u.r))<_;omega);have e:Ah s (Bt s (Am s (K+1) y.1.ss.length) (K+1) (Bd (Ad {u with r:=nx (Aa s u.r)} 8 0) (plQ y.1))).r<=Ah s (nx (Aa s u.r)):=e;show Ah s (Bt s (Am s (K+1) y.1.ss.length) (K+1) (Bd (Ad {u with r:=nx (Aa s u.r)} 8 0) (plQ y.1))).r<_;omega
   ·have:=Zu s u.r;show Ah s (Aa s u.r)<_;omega
  ·rw[if_neg m];by_cases o:Ae s q.r=64
   ·rw[if_pos o];obtain⟨K,rfl⟩:∃K,k=K+1:=⟨k-1,by omega⟩
    unfold Fy;dsimp only;rw[g 64 o];have f:=Ke s ({q with r:=nx (Aa s q.r)},{k:=4,pl:=((Aa s q.r).a:Int),ou:=ou,ta:=0,rd:=none6,tp:=none6});generalize Cb s ({q with r:=nx (Aa s q.r)},{k:=4,pl:=((Aa s q.r).a:Int),ou:=ou,ta:=0,rd:=none6,tp:=none6})=y at *;have f:Ah s y.1.r<=Ah s (nx (Aa s q.r)):=f;have d:=LC s K (K+1) y.1.ss.length (Ad (Ax y.1 y.2) 9 0) (by show Ah s y.1.r<_;omega);have d:Ah s (Bt s (Am s (K+1) y.1.ss.length) (K+1) (Ad (Ax y.1 y.2) 9 0)).r<=Ah s y.1.r:=d;show Ah s (Bt s (Am s (K+1) y.1.ss.length) (K+1) (Ad (Ax y.1 y.2) 9 0)).r<_;omega
   ·rw[if_neg o];unfold Fw;dsimp only;rw[GN];have w:Ah s (AD s q.r q.ls)<Ah s q.r:=by
     cases h:CW s q.r q.ls with
     | true=>exact NF h v
     | false=>unfold AD BW;rw[h,if_neg (by simp),LH (by split<;>omega)];omega
    refine Nat.lt_of_le_of_lt (Qg (DS _ _ _) (Qg (Ke _ _) (DS _ _ _))) w
theorem Zri{r:Rd}{n:Int}(d:n<=6)(h:¬(48<=Ae s r∧Ae s r<=57)):An s r 0 (n-1)=Bi (Aa s r) 11:=by unfold An BW;rw[if_neg];unfold Eo;rw[decide_eq_true_eq];omega
theorem Gm{r:Rd}{n:Int}(d:1<=n):0<=AW s r 0 (n-1)∧AW s r 0 (n-1)<n:=by
 unfold AW;split
 ·rename_i h;have:=QB h;omega
 ·omega
def HO(pr:Nat->Nat->Bool)(l:List Int):Prop:=∀i j:Nat,pr i j=true↔CE l i j
theorem HO.add{d:Nat->Nat->Bool}(h:HO d l)(e:l.length%2=0)(a b:Nat):HO (λi j=>d i j||(d i a&&d b j)) (l++[(a:Int),(b:Int)]):=by intro i j;show (d i j||(d i a&&d b j))=true↔_;rw[Zrh e,QJ,Qr,h i j,h i a,h b j]
theorem In.add(h:In l n)(f:0<=a∧a<n)(g:0<=b∧b<n):In (l++[a,b]) n:=by
 intro i d;rw[Qe]at d;have d:i<l.length+2:=d;by_cases c:i<l.length
 ·rw[Qs,QD c,<-Qs];exact h i c
 ·rw[Qs,QF (by omega)];by_cases e:i=l.length
  ·rw[e];simpa using f
  ·rw[show i-l.length=1 from by omega];simpa using g
structure VM(s:ZB)(n:Int)(q:Tq)(y:Tq)(z:Rd×List Int):Prop where
 e:tk s y.r 46=tk s z.1 46
 ok:(tk s z.1 46).er=0->HO y.pr z.2∧In z.2 n.toNat
 n:y.n=q.n
 pn:y.pn=q.pn
 ls:y.ls=q.ls
 vs:y.vs=q.vs
 cd:y.cd=q.cd
 h:y.h=q.h
 hi:y.hi=q.hi
 ss:y.ss=q.ss
theorem UC(s:ZB):∀(k:Nat) (q:Tq) (l:List Int),1<=q.n->q.n<=6->HO q.pr l->In l q.n.toNat->l.length%2=0->VM s q.n q (BR s k q) (EF s q.n k q.r l)
 | 0,q,l,g,p,m,j,v=>⟨rfl,λ_=>⟨m,j⟩,rfl,rfl,rfl,rfl,rfl,rfl,rfl,rfl⟩
 | k+1,q,l,g,p,m,j,v=>by
  simp only[BR,EF];by_cases hd:48<=Ae s q.r∧Ae s q.r<=57
  ·rw[if_pos hd,if_pos ⟨(Z8 (s:=s) (r:=q.r) (by omega)).1,by omega⟩];obtain⟨a,A⟩:∃a:Nat,AW s (Aa s q.r) 0 (q.n-1)=a:=⟨(AW s (Aa s q.r) 0 (q.n-1)).toNat,by have:=Gm (s:=s) (r:=Aa s q.r) g;omega⟩
   obtain⟨b,f⟩:∃b:Nat,AW s (An s (Aa s q.r) 0 (q.n-1)) 0 (q.n-1)=b:=⟨(AW s (An s (Aa s q.r) 0 (q.n-1)) 0 (q.n-1)).toNat,by have:=Gm (s:=s) (r:=An s (Aa s q.r) 0 (q.n-1)) g;omega⟩
   have w:=Gm (s:=s) (r:=Aa s q.r) g;have x:=Gm (s:=s) (r:=An s (Aa s q.r) 0 (q.n-1)) g;rw[A]at w ⊢;rw[f]at x ⊢;have d:=UC s k (Cc {q with r:=An s (An s (Aa s q.r) 0 (q.n-1)) 0 (q.n-1)} a b) (l++[(a:Int),(b:Int)]) g p (m.add v a b) (j.add (by show _∧_<((q.n.toNat:Nat):Int);omega) (by show _∧_<((q.n.toNat:Nat):Int);omega)) (by rw[Qe];show (l.length+2)%2=0;omega);exact⟨d.e,d.ok,d.n,d.pn,d.ls,d.vs,d.cd,d.h,d.hi,d.ss⟩
  ·rw[if_neg hd];by_cases o:q.r.er=0∧Ae s q.r≠46
   ·rw[if_pos o];have u:¬(48<=Ae s (Aa s q.r)∧Ae s (Aa s q.r)<=57):=by rw[Zs];exact hd
    rw[Zri p u,Z3];have f:(Bi (Aa s q.r) 11).er≠0:=Dr (by omega);have z:An s (Bi (Aa s q.r) 11) 0 (q.n-1)=Bi (Aa s q.r) 11:=Ol f;rw[z];generalize AW s (Aa s q.r) 0 (q.n-1)=a;generalize AW s (Bi (Aa s q.r) 11) 0 (q.n-1)=b;have i:∀(y:Tq),y.r=Bi (Aa s q.r) 11->BR s k y=y:=λy i=>by
     cases k with
     | zero=>simp only[BR];rw[ZD (by rw[i];exact f)]
     | succ k=>simp only[BR];rw[if_neg (λc=>f (by rw[<-i];exact c.1)),ZD (by rw[i];exact f)]
    rw[i _ rfl];refine⟨?_,λh=>?_,rfl,rfl,rfl,rfl,rfl,rfl,rfl,rfl⟩
    ·show tk s (Bi (Aa s q.r) 11) 46=tk s (Aa s q.r) 46;rw[GZ f];unfold tk BW;rw[Zs,if_neg (by rw[QL];exact o.2),Z3]
    ·have:=(Ij (by omega) h).2;rw[Zs,QL]at this;exact absurd this o.2
   ·rw[if_neg o];exact⟨rfl,λ_=>⟨m,j⟩,rfl,rfl,rfl,rfl,rfl,rfl,rfl,rfl⟩
structure VN(s:ZB)(q:Tq)(y:Tq)(z:Rd×List Int×List Int):Prop where
 e:tk s y.r 46=tk s z.1 46
 ok:(tk s z.1 46).er=0->y.ls=z.2.1∧y.vs=z.2.2
 n:y.n=q.n
 pn:y.pn=q.pn
 pr:y.pr=q.pr
 cd:y.cd=q.cd
 h:y.h=q.h
 hi:y.hi=q.hi
 ss:y.ss=q.ss
theorem Tn(s:ZB):∀(k:Nat) (q:Tq),VN s q (BE s k q) (DC s q.n k q.r q.ls q.vs)
 | 0,q=>⟨rfl,λ_=>⟨rfl,rfl⟩,rfl,rfl,rfl,rfl,rfl,rfl,rfl⟩
 | k+1,q=>by
  have j:∀(e:Int) (y:Tq),e≠0->y.r=Bi (Aa s q.r) e->BE s k y=y:=λe y o j=>by
   have f:y.r.er≠0:=by rw[j];exact Dr o
   cases k with
   | zero=>simp only[BE];rw[ZD f]
   | succ k=>simp only[BE];rw[if_neg (λc=>f c.1),ZD f]
  simp only[BE,DC,BI];rw[Zs,Z3];cases m:Ct (Ae s q.r) with
  | true=>
   have p:97<=Ae s q.r∧Ae s q.r<=104:=by unfold Ct at m;exact QB m
   rw[if_pos ⟨(Z8 (s:=s) (r:=q.r) (by omega)).1,by omega⟩,if_pos rfl,if_neg (by simp)];by_cases g:fnd (Ae s q.r) q.ls<q.ls.length
   ·rw[if_pos g,if_pos g,j 12 _ (by omega) rfl];refine⟨rfl,λh=>?_,rfl,rfl,rfl,rfl,rfl,rfl,rfl⟩;exact absurd (DJ h) (Dr (by omega))
   ·rw[if_neg g,if_neg g];have d:=Tn s k {q with r:=An s (nx (Aa s q.r)) 0 (q.n-1),ls:=q.ls++[Ae s q.r],vs:=q.vs++[AW s (nx (Aa s q.r)) 0 (q.n-1)]};exact⟨d.e,d.ok,d.n,d.pn,d.pr,d.cd,d.h,d.hi,d.ss⟩
  | false=>
   rw[if_neg (show ¬(false=true) from by simp)];by_cases i:q.r.er=0∧Ae s q.r≠46
   ·rw[if_pos i,if_pos rfl,j 11 _ (by omega) rfl];have f:(Bi (Aa s q.r) 11).er≠0:=Dr (by omega);refine⟨?_,λh=>?_,rfl,rfl,rfl,rfl,rfl,rfl,rfl⟩
    ·show tk s (Bi (Aa s q.r) 11) 46=tk s (Aa s q.r) 46;rw[GZ f];unfold tk BW;rw[Zs,if_neg (by rw[QL];exact i.2),Z3]
    ·have:=(Ij (by omega) h).2;rw[Zs,QL]at this;exact absurd this i.2
   ·rw[if_neg i];exact⟨rfl,λ_=>⟨rfl,rfl⟩,rfl,rfl,rfl,rfl,rfl,rfl,rfl⟩
theorem Zpp{q:Tq}(h:q.r.er≠0)(k:Nat):BR s k q=q:=by
 cases k with
 | zero=>simp only[BR];rw[ZD h]
 | succ k=>simp only[BR];rw[if_neg (λc=>h c.1),ZD h]
theorem Yp{q:Tq}(h:q.r.er≠0)(k:Nat):BE s k q=q:=by
 cases k with
 | zero=>simp only[BE];rw[ZD h]
 | succ k=>simp only[BE];rw[if_neg (λc=>h c.1),ZD h]
theorem Zpq{n:Int}{r:Rd}(h:r.er≠0)(k:Nat):EF s n k r l=(r,l):=by
 cases k with
 | zero=>simp only[EF];rw[ZD h]
 | succ k=>simp only[EF];rw[JZ h,if_neg (by omega),ZD h]
theorem Si{n:Int}{r:Rd}{vs:List Int}(h:r.er≠0)(k:Nat):DC s n k r ls vs=(r,ls,vs):=by
 cases k with
 | zero=>simp only[DC];rw[ZD h]
 | succ k=>simp only[DC];rw[JZ h,if_neg (by unfold Ct;simp),ZD h]
structure Ztm(s:ZB):Prop where
 r:(Br s Ak).r=(Aw s).r
 ok:(Aw s).r.er=0->Ag (Br s Ak) (Aw s)∧(Br s Ak).pn=nP s∧HO (Br s Ak).pr (Es s).2∧In (Es s).2 (nP s).toNat∧1<=nP s∧nP s<=6
 cd:(Br s Ak).cd=[]
 h:(Br s Ak).h=0
 hi:(Br s Ak).hi=0
 ss:(Br s Ak).ss=[]
theorem To(s:ZB):Ztm s:=by
 cases hd:Eo s ⟨0,0⟩ 1 6 with
 | true=>
  have z:nP s=AW s ⟨0,0⟩ 1 6:=by unfold nP;rw[if_pos hd]
  have f:1<=nP s∧nP s<=6:=by rw[z];unfold AW;rw[if_pos hd];have:=QB hd;omega
  have g:=UC s (s.size+1) {Ak with r:=An s ⟨0,0⟩ 1 6,n:=nP s,pn:=nP s,pr:=λi j=>decide (i=j)} [] f.1 f.2 (by
   intro i j;rw[decide_eq_true_eq];constructor
   ·rintro rfl;exact CE.refl _ _
   ·intro h;have:((i:Nat):Int)=j:=CE.ind (l:=[]) (b:=(j:Int)) (λa=>a=j) rfl (λa c E _=>by obtain⟨i,p,_⟩:=E;simp at p) h;omega) (λi p=>by simp at p) rfl
  have A:(Br s Ak)={BE s (s.size+1) {BR s (s.size+1) {Ak with r:=An s ⟨0,0⟩ 1 6,n:=nP s,pn:=nP s,pr:=λi j=>decide (i=j)} with r:=tk s (BR s (s.size+1) {Ak with r:=An s ⟨0,0⟩ 1 6,n:=nP s,pn:=nP s,pr:=λi j=>decide (i=j)}).r 46} with r:=tk s (BE s (s.size+1) {BR s (s.size+1) {Ak with r:=An s ⟨0,0⟩ 1 6,n:=nP s,pn:=nP s,pr:=λi j=>decide (i=j)} with r:=tk s (BR s (s.size+1) {Ak with r:=An s ⟨0,0⟩ 1 6,n:=nP s,pn:=nP s,pr:=λi j=>decide (i=j)}).r 46}).r 46}:=by rw[z];rfl
  have g:VM s (nP s) _ _ (Es s):=g;generalize BR s (s.size+1) {Ak with r:=An s ⟨0,0⟩ 1 6,n:=nP s,pn:=nP s,pr:=λi j=>decide (i=j)}=y at *;have d:=Tn s (s.size+1) {y with r:=tk s y.r 46};have B:DC s y.n (s.size+1) (tk s y.r 46) y.ls y.vs=F8 s:=by show _=DC s (nP s) (s.size+1) (tk s (Es s).1 46) [] [];rw[g.e,g.ls,g.vs,g.n];rfl
  have d:VN s _ _ (DC s y.n (s.size+1) (tk s y.r 46) y.ls y.vs):=d;rw[B]at d;generalize BE s (s.size+1) {y with r:=tk s y.r 46}=u at *;have m:Br s Ak={u with r:=tk s u.r 46}:=A;refine⟨by rw[m];exact d.e,λh=>?_,by rw[m];exact d.cd.trans g.cd,by rw[m];exact d.h.trans g.h,by rw[m];exact d.hi.trans g.hi,by rw[m];exact d.ss.trans g.ss⟩;rw[m];have h:(tk s (F8 s).1 46).er=0:=h;obtain⟨F,G⟩:=d.ok h;have q:(tk s (Es s).1 46).er=0:=by
   have x:=DJ h;by_cases c:(tk s (Es s).1 46).er=0
   ·exact c
   ·exfalso;have:F8 s=(tk s (Es s).1 46,[],[]):=Si c _;rw[this]at x;exact c x
  obtain⟨H,I⟩:=g.ok q;refine⟨⟨d.e,d.n.trans g.n,F,G⟩,d.pn.trans g.pn,?_,I,f.1,f.2⟩;show HO u.pr _;rw[d.pr];exact H
 | false=>
  have v:An s ⟨0,0⟩ 1 6=Bi (Aa s ⟨0,0⟩) 11:=by unfold An BW;rw[if_neg (by rw[hd];simp)]
  have f:(Bi (Aa s ⟨0,0⟩) 11).er≠0:=Dr (by omega);have D:Es s=(Bi (Aa s ⟨0,0⟩) 11,[]):=by unfold Es;rw[v];exact Zpq f _
  have C:F8 s=(Bi (Aa s ⟨0,0⟩) 11,[],[]):=by unfold F8;rw[D,GZ f];exact Si f _
  have w:(Aw s).r=Bi (Aa s ⟨0,0⟩) 11:=by show tk s (F8 s).1 46=_;rw[C,GZ f]
  have o:Br s Ak={Ak with r:=Bi (Aa s ⟨0,0⟩) 11,n:=AW s ⟨0,0⟩ 1 6,pn:=AW s ⟨0,0⟩ 1 6,pr:=λi j=>decide (i=j)}:=by unfold Br;dsimp only;rw[show An s Ak.r 1 6=Bi (Aa s ⟨0,0⟩) 11 from v,Zpp f,GZ (by exact f)];rw[Yp (by exact f),GZ (by exact f)];rfl
  refine⟨by rw[o,w],λh=>absurd h (by rw[w];exact f),by rw[o];rfl,by rw[o];rfl,by rw[o];rfl,by rw[o];rfl⟩
def AA(s:ZB)(q:Tq):Nat:=q.cd.length+q.ss.length+8*Ah s q.r+(if q.r.er=0 then 12 else 0)
def Bm(s:ZB)(r:Rd):Nat:=8*Ah s r+(if r.er=0 then 12 else 0)
theorem CH(s:ZB)(q:Tq):AA s q=q.cd.length+q.ss.length+Bm s q.r:=by unfold AA Bm;omega
theorem Je{r r':Rd}(h:Ah s r'<=Ah s r)(e:r'.er=0->r.er=0):Bm s r'<=Bm s r:=by
 unfold Bm;by_cases d:r'.er=0
 ·rw[if_pos d,if_pos (e d)];omega
 ·rw[if_neg d];split<;>omega
theorem Zh(s:ZB)(r:Rd):Bm s (Aa s r)<=Bm s r:=Je (Zu s r) (λh=>by rw[Zl]at h;exact h)
theorem ZT(s:ZB)(r:Rd)(c:Int):Bm s (tk s r c)<=Bm s r:=Je (DS s r c) DJ
theorem Z7(s:ZB)(r:Rd)(a b:Int):Bm s (An s r a b)<=Bm s r:=Je (IU s r a b) J6
theorem KX(s:ZB)(r:Rd)(ls:List Int):Bm s (AD s r ls)<=Bm s r:=Je (MU s r ls) λh=>(LA h).1
theorem Oq(s:ZB)(r:Rd):Bm s (num s r).2<=Bm s r:=Je (Of _ _ _) (Pc _ _ _)
theorem Zt{r:Rd}(h:Ae s r≠0):Bm s (nx (Aa s r))+8<=Bm s r:=by have:=ZR h;have d:=(Z8 h).1;unfold Bm;rw[EZ,Zl,if_pos d];omega
theorem Tp{r:Rd}(h:r.er≠0):Bm s r=0:=by unfold Bm;rw[IY h,if_neg h]
theorem MW(s:ZB)(ex:Tq×Sq->Tq×Sq)(g:∀x,AA s (ex x).1<=AA s x.1+2)(x:Tq×Sq):AA s (Bj s ex x).1<=AA s x.1+2:=by
 have p:=Zh s x.1.r;unfold Bj;split
 ·rw[CH,CH];have:=Oq s (Aa s x.1.r);show (x.1.cd++_).length+x.1.ss.length+Bm s (num s (Aa s x.1.r)).2<=_;rw[Qe];simp only[Qt,Qy];omega
 ·split
  ·rw[CH,CH];unfold Jq;have d:=Z7 s (tk s (Aa s x.1.r) 36) 0 (x.1.n-1);have f:=ZT s (Aa s x.1.r) 36;show (x.1.cd++_).length+x.1.ss.length+Bm s (An s (tk s (Aa s x.1.r) 36) 0 (x.1.n-1))<=_;rw[Qe];simp only[Qt,Qy];omega
  ·split
   ·rename_i d f h;have i:=Zt (s:=s) (r:=x.1.r) (by omega);have e:=g ({x.1 with r:=nx (Aa s x.1.r)},x.2);have j:AA s ({x.1 with r:=nx (Aa s x.1.r)}:Tq)=x.1.cd.length+x.1.ss.length+Bm s (nx (Aa s x.1.r)):=CH _ _;have m:=ZT s (ex ({x.1 with r:=nx (Aa s x.1.r)},x.2)).1.r 41;have o:=CH s (ex ({x.1 with r:=nx (Aa s x.1.r)},x.2)).1;rw[CH,CH];show (ex ({x.1 with r:=nx (Aa s x.1.r)},x.2)).1.cd.length+(ex ({x.1 with r:=nx (Aa s x.1.r)},x.2)).1.ss.length+Bm s (tk s (ex ({x.1 with r:=nx (Aa s x.1.r)},x.2)).1.r 41)<=_;have e:AA s (ex ({x.1 with r:=nx (Aa s x.1.r)},x.2)).1<=AA s ({x.1 with r:=nx (Aa s x.1.r)}:Tq)+2:=e;omega
   ·rw[CH,CH];unfold Jr;have d:=KX s (Aa s x.1.r) x.1.ls;show (x.1.cd++_).length+x.1.ss.length+Bm s (AD s (Aa s x.1.r) x.1.ls)<=_;rw[Qe];simp only[Qt,Qy];omega
theorem EX(s:ZB)(q:Tq)(a b:Int):AA s (Ad q a b)=AA s q+2:=by rw[CH,CH];show (q.cd++_).length+q.ss.length+Bm s q.r=_;rw[Qe];simp only[Qt,Qy];omega
theorem J8(s:ZB)(q:Tq)(x:Sq):AA s (Ax q x)=AA s q+1:=by rw[CH,CH];show q.cd.length+(q.ss++[x]).length+Bm s q.r=_;rw[Qe];simp only[Qt,Qy];omega
theorem LD(s:ZB)(q:Tq)(z:Nat):AA s (Bd q z)=AA s q:=by rw[CH,CH];show (q.cd.set _ _).length+q.ss.length+Bm s q.r=_;rw[Um]
theorem FJ(s:ZB)(q:Tq)(r:Rd):AA s {q with r:=r}=q.cd.length+q.ss.length+Bm s r:=CH _ _
theorem D7{q:Tq}{r:Rd}(h:Bm s r<=Bm s q.r):AA s {q with r:=r}<=AA s q:=by rw[FJ,CH];omega
theorem Tr(s:ZB)(d:Tq×Sq->Tq×Sq)(e:∀x,AA s (d x).1<=AA s x.1+2):∀(k:Nat) (x:Tq×Sq),AA s (BB s d k x).1<=AA s x.1
 | 0,x=>D7 (Zh _ _)
 | k+1,x=>by
  simp only[BB];split
  ·exact D7 (Zh _ _)
  ·rename_i f;have g:=Ib f;have h:=Zt (s:=s) (r:=x.1.r) g.1;refine Qg (Tr s d e k _) ?_;show AA s (Ad (d ({x.1 with r:=nx (Aa s x.1.r)},x.2)).1 (AK (Ae s x.1.r)) 0)<=_;rw[EX];have i:AA s (d ({x.1 with r:=nx (Aa s x.1.r)},x.2)).1<=x.1.cd.length+x.1.ss.length+Bm s (nx (Aa s x.1.r))+2:=Qg (e ({x.1 with r:=nx (Aa s x.1.r)},x.2)) (Nat.le_of_eq (congrArg (·+2) (FJ s x.1 _)));rw[CH s x.1];generalize AA s (d ({x.1 with r:=nx (Aa s x.1.r)},x.2)).1=j at *;omega
theorem K8(s:ZB):∀(k:Nat) (x:Tq×Sq),AA s (AI s k x).1<=AA s x.1+2
 | 0,x=>by simp only[AI];omega
 | k+1,x=>by simp only[AI];exact Qg (Tr s _ (MW s _ (K8 s k)) k _) (MW s _ (K8 s k) x)
theorem It(s:ZB)(x:Tq×Sq):AA s (Cb s x).1<=AA s x.1+2:=K8 s _ x
theorem SL(s:ZB)(f:Tq->Tq)(d:∀q,q.r.er=0->AA s (f q)<=AA s q):∀(k:Nat) (q:Tq),AA s (Be s f k q)<=AA s q
 | 0,q=>D7 (Zh _ _)
 | k+1,q=>by
  simp only[Be];split
  ·rename_i h;have e:=SL s f d k (f {q with r:=Aa s q.r});have g:=d {q with r:=Aa s q.r} (by show (Aa s q.r).er=0;rw[Zl];exact h.1);have i:=D7 (q:=q) (Zh s q.r);omega
  ·exact D7 (Zh _ _)
theorem J9(s:ZB)(f:Tq->Tq)(h:∀q,q.r.er=0->AA s (f q)<=AA s q)(k:Nat)(q:Tq):AA s (Bt s f k q)<=AA s q:=by have d:=D7 (q:=q) (ZT s q.r 123);have e:=SL s f h k {q with r:=tk s q.r 123};have g:=D7 (q:=Be s f k {q with r:=tk s q.r 123}) (ZT s (Be s f k {q with r:=tk s q.r 123}).r 125);exact Qg g (Qg e d)
theorem GV(s:ZB):∀(k:Nat) (ou:Int) (q:Tq),q.r.er=0->AA s (Am s k ou q)<=AA s q
 | 0,ou,q,x=>Qb _
 | k+1,ou,q,x=>by
  have j:∀c,Ae s q.r=c->c≠0->tk s (Aa s q.r) c=nx (Aa s q.r):=λc h A=>by rw[<-h];exact Ew (by rw[h];exact A)
  have B:=CH s q;simp only[Am];by_cases m:Ae s q.r=62
  ·rw[if_pos m];unfold FW;dsimp only;rw[j 62 m (by omega),J8,EX];have v:=Zt (s:=s) (r:=q.r) (by omega);have d:=It s ({q with r:=An s (nx (Aa s q.r)) 0 (q.n-1)},{k:=2,pl:=((Aa s q.r).a:Int),ou:=ou,ta:=AW s (nx (Aa s q.r)) 0 (q.n-1),rd:=none6,tp:=none6});have e:=FJ s q (An s (nx (Aa s q.r)) 0 (q.n-1));have f:=Z7 s (nx (Aa s q.r)) 0 (q.n-1);generalize Cb s ({q with r:=An s (nx (Aa s q.r)) 0 (q.n-1)},{k:=2,pl:=((Aa s q.r).a:Int),ou:=ou,ta:=AW s (nx (Aa s q.r)) 0 (q.n-1),rd:=none6,tp:=none6})=y at *;have i:=D7 (q:=y.1) (ZT s y.1.r 59);have d:AA s y.1<=AA s ({q with r:=An s (nx (Aa s q.r)) 0 (q.n-1)}:Tq)+2:=d;rw[e]at d;refine Qg (Ub (Ub i 2) 1) ?_;omega
  ·rw[if_neg m];by_cases o:Ae s q.r=63
   ·rw[if_pos o];unfold Fx;dsimp only;rw[j 63 o (by omega)];have v:=Zt (s:=s) (r:=q.r) (by omega);have d:=It s ({q with r:=nx (Aa s q.r)},{k:=3,pl:=((Aa s q.r).a:Int),ou:=ou,ta:=0,rd:=none6,tp:=none6});have e:=FJ s q (nx (Aa s q.r));generalize Cb s ({q with r:=nx (Aa s q.r)},{k:=3,pl:=((Aa s q.r).a:Int),ou:=ou,ta:=0,rd:=none6,tp:=none6})=y at *;have d:AA s y.1<=AA s ({q with r:=nx (Aa s q.r)}:Tq)+2:=d;rw[e]at d;have f:=J9 s (Am s k y.1.ss.length) (GV s k _) k (Ad (Ax y.1 y.2) 9 0);rw[EX,J8]at f;generalize Bt s (Am s k y.1.ss.length) k (Ad (Ax y.1 y.2) 9 0)=u at *;split
    ·rename_i i;have w:=Zt (s:=s) (r:=u.r) (by omega);have g:=J9 s (Am s k y.1.ss.length) (GV s k _) k (Bd (Ad {u with r:=nx (Aa s u.r)} 8 0) (plQ y.1));rw[LD,EX,FJ s u (nx (Aa s u.r))]at g;rw[LD];have z:=CH s u;refine Qg g ?_;omega
    ·rw[LD];have w:=D7 (q:=u) (Zh s u.r);refine Qg w ?_;omega
   ·rw[if_neg o];by_cases p:Ae s q.r=64
    ·rw[if_pos p];unfold Fy;dsimp only;rw[j 64 p (by omega)];have v:=Zt (s:=s) (r:=q.r) (by omega);have d:=It s ({q with r:=nx (Aa s q.r)},{k:=4,pl:=((Aa s q.r).a:Int),ou:=ou,ta:=0,rd:=none6,tp:=none6});have e:=FJ s q (nx (Aa s q.r));generalize Cb s ({q with r:=nx (Aa s q.r)},{k:=4,pl:=((Aa s q.r).a:Int),ou:=ou,ta:=0,rd:=none6,tp:=none6})=y at *;have d:AA s y.1<=AA s ({q with r:=nx (Aa s q.r)}:Tq)+2:=d;rw[e]at d;have f:=J9 s (Am s k y.1.ss.length) (GV s k _) k (Ad (Ax y.1 y.2) 9 0);rw[EX,J8]at f;rw[LD,EX];refine Qg (Ub f 2) ?_;omega
    ·rw[if_neg p];unfold Fw;dsimp only;rw[GN,J8,EX];have C:Bm s (AD s q.r q.ls)+8<=Bm s q.r:=by
      cases h:CW s q.r q.ls with
      | true=>
       have:AD s q.r q.ls=nx (Aa s q.r):=by unfold AD BW;rw[if_pos h]
       rw[this];exact Zt (Oc h)
      | false=>
       have:AD s q.r q.ls=Bi (Aa s q.r) (if Ct (Ae s q.r)=true then 12 else 11):=by unfold AD BW;rw[if_neg (by rw[h];simp)]
       rw[this,Tp (Dr (by split<;>omega))];unfold Bm;rw[if_pos x];omega
     have f:=ZT s (AD s q.r q.ls) 61;have d:=It s ({q with r:=tk s (AD s q.r q.ls) 61},{k:=1,pl:=((Aa s q.r).a:Int),ou:=ou,ta:=BN {q with r:=Aa s q.r} (varI s (Aa s q.r) q.ls),rd:=none6,tp:=none6});have e:=FJ s q (tk s (AD s q.r q.ls) 61);generalize Cb s ({q with r:=tk s (AD s q.r q.ls) 61},{k:=1,pl:=((Aa s q.r).a:Int),ou:=ou,ta:=BN {q with r:=Aa s q.r} (varI s (Aa s q.r) q.ls),rd:=none6,tp:=none6})=y at *;have i:=D7 (q:=y.1) (ZT s y.1.r 59);have d:AA s y.1<=AA s ({q with r:=tk s (AD s q.r q.ls) 61}:Tq)+2:=d;rw[e]at d;refine Qg (Ub (Ub i 2) 1) ?_;omega
structure Gd(s:ZB)(q:Tq):Prop where
 le:q.r.a<=s.size
 n0:0<=q.n
 n6:q.n<=6
 vb:∀x,x∈q.vs->0<=x∧x<6
 ll:q.ls.length<=1000
 vl:q.vs.length=q.ls.length
 h0:-(q.cd.length:Int)<=q.h
 h1:q.h<=q.cd.length
 ev:q.cd.length%2=0
theorem Zti(op:Int):(0<=Ar op∧Ar op<=1)∧(0<=Aj op∧Aj op<=2):=by
 constructor
 ·unfold Ar;split<;>omega
 ·unfold Aj;split
  ·omega
  ·split<;>omega
theorem Gd.emit{q:Tq}(G:Gd s q)(op x:Int):Gd s (Ad q op x):=by
 obtain⟨⟨a,b⟩,c,d⟩:=Zti op;have g:=G.h0;have i:=G.h1;have f:=G.ev;have e:(Ad q op x).cd.length=q.cd.length+2:=by show (q.cd++_).length=_;rw[Qe];rfl
 exact⟨G.le,G.n0,G.n6,G.vb,G.ll,G.vl,by rw[e];show _<=q.h+Ar op-Aj op;omega,by rw[e];show q.h+Ar op-Aj op<=_;omega,by rw[e];omega⟩
theorem Gd.r{q:Tq}(G:Gd s q){r:Rd}(h:r.a<=s.size):Gd s {q with r:=r}:=⟨h,G.n0,G.n6,G.vb,G.ll,G.vl,G.h0,G.h1,G.ev⟩
theorem Gd.aim{q:Tq}(G:Gd s q)(z:Nat):Gd s (Bd q z):=by
 have d:(Bd q z).cd.length=q.cd.length:=by show (q.cd.set _ _).length=_;rw[Um]
 exact⟨G.le,G.n0,G.n6,G.vb,G.ll,G.vl,by rw[d];exact G.h0,by rw[d];exact G.h1,by rw[d];exact G.ev⟩
theorem Gd.add{q:Tq}(G:Gd s q)(x:Sq):Gd s (Ax q x):=⟨G.le,G.n0,G.n6,G.vb,G.ll,G.vl,G.h0,G.h1,G.ev⟩
theorem DX{r:Rd}(d:0<=a)(h:r.a<=s.size):(An s r a b).a<=s.size:=Pm h (λk=>Pn d k)
theorem Ik{r:Rd}(h:r.a<=s.size):(AD s r ls).a<=s.size:=Pm h Oc
theorem Dk{r:Rd}(h:Ae s r≠0):(nx (Aa s r)).a<=s.size:=Nu h
theorem Nd{ex:Tq×Sq->Tq×Sq}(e:∀x,Gd s x.1->Gd s (ex x).1){x:Tq×Sq}(G:Gd s x.1):Gd s (Bj s ex x).1:=by
 unfold Bj;split
 ·exact(G.r (M0 _ _ _ (Ze G.le))).emit _ _
 ·split
  ·exact(G.r (r:=An s (tk s (Aa s x.1.r) 36) 0 (x.1.n-1)) (DX (by omega) (Z4 (Ze G.le) (by omega)))).emit _ _
  ·split
   ·have d:=e ({x.1 with r:=nx (Aa s x.1.r)},x.2) (G.r (Dk (by omega)));exact d.r (Z4 d.le (by omega))
   ·exact(G.r (r:=AD s (Aa s x.1.r) x.1.ls) (Ik (Ze G.le))).emit _ _
theorem UD{e:Tq×Sq->Tq×Sq}(d:∀x,Gd s x.1->Gd s (e x).1):∀(k:Nat) (x:Tq×Sq),Gd s x.1->Gd s (BB s e k x).1
 | 0,x,G=>G.r (Ze G.le)
 | k+1,x,G=>by
  simp only[BB];split
  ·exact G.r (Ze G.le)
  ·rename_i f;exact UD d k _ ((d ({x.1 with r:=nx (Aa s x.1.r)},x.2) (G.r (Dk (Ib f).1))).emit _ _)
theorem Ka:∀(k:Nat) (x:Tq×Sq),Gd s x.1->Gd s (AI s k x).1
 | 0,x,G=>G
 | k+1,x,G=>by simp only[AI];exact UD (λx G=>Nd (Ka k) G) k _ (Nd (Ka k) G)
theorem Iy{x:Tq×Sq}(G:Gd s x.1):Gd s (Cb s x).1:=Ka _ x G
theorem Pe{f:Tq->Tq}(d:∀q,Gd s q->Gd s (f q)):∀(k:Nat) (q:Tq),Gd s q->Gd s (Be s f k q)
 | 0,q,G=>G.r (Ze G.le)
 | k+1,q,G=>by
  simp only[Be];split
  ·exact Pe d k _ (d _ (G.r (Ze G.le)))
  ·exact G.r (Ze G.le)
theorem Kf{f:Tq->Tq}(e:∀q,Gd s q->Gd s (f q))(k:Nat){q:Tq}(G:Gd s q):Gd s (Bt s f k q):=by have d:=Pe e k _ (G.r (r:=tk s q.r 123) (Z4 G.le (by omega)));exact d.r (Z4 d.le (by omega))
theorem Ha:∀(k:Nat) (ou:Int) (q:Tq),Gd s q->Gd s (Am s k ou q)
 | 0,ou,q,G=>G
 | k+1,ou,q,G=>by
  have f:=G.r (Ze G.le);simp only[Am];split
  ·unfold FW;have d:=Iy (s:=s) (x:=({q with r:=An s (tk s (Aa s q.r) 62) 0 (q.n-1)},{k:=2,pl:=((Aa s q.r).a:Int),ou:=ou,ta:=AW s (tk s (Aa s q.r) 62) 0 (q.n-1),rd:=none6,tp:=none6})) (G.r (DX (by omega) (Z4 (Ze G.le) (by omega))));exact((d.r (Z4 d.le (by omega))).emit _ _).add _
  ·split
   ·unfold Fx;have d:=Iy (s:=s) (x:=({q with r:=tk s (Aa s q.r) 63},{k:=3,pl:=((Aa s q.r).a:Int),ou:=ou,ta:=0,rd:=none6,tp:=none6})) (G.r (Z4 (Ze G.le) (by omega)));generalize Cb s ({q with r:=tk s (Aa s q.r) 63},{k:=3,pl:=((Aa s q.r).a:Int),ou:=ou,ta:=0,rd:=none6,tp:=none6})=y at *;have e:=Kf (Ha k y.1.ss.length) k ((d.add y.2).emit 9 0);dsimp only;generalize Bt s (Am s k y.1.ss.length) k (Ad (Ax y.1 y.2) 9 0)=u at *;split
    ·rename_i g;exact(Kf (Ha k y.1.ss.length) k (((e.r (Dk (s:=s) (r:=u.r) (by omega))).emit 8 0).aim _)).aim _
    ·exact(e.r (Ze e.le)).aim _
   ·split
    ·unfold Fy;have d:=Iy (s:=s) (x:=({q with r:=tk s (Aa s q.r) 64},{k:=4,pl:=((Aa s q.r).a:Int),ou:=ou,ta:=0,rd:=none6,tp:=none6})) (G.r (Z4 (Ze G.le) (by omega)));generalize Cb s ({q with r:=tk s (Aa s q.r) 64},{k:=4,pl:=((Aa s q.r).a:Int),ou:=ou,ta:=0,rd:=none6,tp:=none6})=y at *;have e:=Kf (Ha k y.1.ss.length) k ((d.add y.2).emit 9 0);exact(e.emit _ _).aim _
    ·unfold Fw;have d:=Iy (s:=s) (x:=({q with r:=tk s (AD s (Aa s q.r) q.ls) 61},{k:=1,pl:=((Aa s q.r).a:Int),ou:=ou,ta:=BN {q with r:=Aa s q.r} (varI s (Aa s q.r) q.ls),rd:=none6,tp:=none6})) (G.r (Z4 (Ik (Ze G.le)) (by omega)));exact((d.r (Z4 d.le (by omega))).emit _ _).add _
theorem SM(s:ZB):∀(k:Nat) (x:Tq×Sq),x.1.cd.length<=(AI s k x).1.cd.length
 | 0,x=>Qb _
 | k+1,x=>by
  have d:∀x:Tq×Sq,x.1.cd.length<=(Bj s (AI s k) x).1.cd.length:=by
   intro x;unfold Bj;split
   ·show _<=(x.1.cd++_).length;rw[Qe];omega
   ·split
    ·show _<=(x.1.cd++_).length;rw[Qe];omega
    ·split
     ·exact SM s k ({x.1 with r:=nx (Aa s x.1.r)},x.2)
     ·show _<=(x.1.cd++_).length;rw[Qe];omega
  have e:∀(j:Nat) (x:Tq×Sq),x.1.cd.length<=(BB s (Bj s (AI s k)) j x).1.cd.length:=by
   intro j;induction j with
   | zero=>intro x;exact Qb _
   | succ j f=>
    intro x;simp only[BB];split
    ·exact Qb _
    ·refine Qg ?_ (f _);have:=d ({x.1 with r:=nx (Aa s x.1.r)},x.2);show _<=((Bj s (AI s k) ({x.1 with r:=nx (Aa s x.1.r)},x.2)).1.cd++_).length;rw[Qe];exact Qg this (Nat.le_add_right _ _)
  simp only[AI];exact Qg (d x) (e k _)
theorem SN(s:ZB)(f:Tq->Tq)(d:∀q,q.cd.length<=(f q).cd.length):∀(k:Nat) (q:Tq),q.cd.length<=(Be s f k q).cd.length
 | 0,q=>Qb _
 | k+1,q=>by
  simp only[Be];split
  ·exact Qg (d {q with r:=Aa s q.r}) (SN s f d k _)
  ·exact Qb _
theorem Kb(s:ZB)(f:Tq->Tq)(d:∀q,q.cd.length<=(f q).cd.length)(k:Nat)(q:Tq):q.cd.length<=(Bt s f k q).cd.length:=SN s f d k {q with r:=tk s q.r 123}
theorem Kc(s:ZB):∀(k:Nat) (ou:Int) (q:Tq),q.cd.length<=(Am s k ou q).cd.length
 | 0,ou,q=>Qb _
 | k+1,ou,q=>by
  have f:∀(r:Rd) (x:Sq),q.cd.length<=(Cb s ({q with r:=r},x)).1.cd.length:=λr x=>SM s _ ({q with r:=r},x);have d:∀(q:Tq) (a b:Int),q.cd.length<=(Ad q a b).cd.length:=λq a b=>by show _<=(q.cd++_).length;rw[Qe];omega
  have e:∀(q:Tq) (z:Nat),q.cd.length<=(Bd q z).cd.length:=λq z=>by show _<=(q.cd.set _ _).length;rw[Um];exact Qb _
  simp only[Am];split
  ·exact Qg (f _ _) (d _ _ _)
  ·split
   ·unfold Fx;dsimp only;have g:=f (tk s (Aa s q.r) 63) {k:=3,pl:=((Aa s q.r).a:Int),ou:=ou,ta:=0,rd:=none6,tp:=none6};generalize Cb s ({q with r:=tk s (Aa s q.r) 63},{k:=3,pl:=((Aa s q.r).a:Int),ou:=ou,ta:=0,rd:=none6,tp:=none6})=y at *;have h:=Qg (d (Ax y.1 y.2) 9 0) (Kb s (Am s k y.1.ss.length) (Kc s k _) k (Ad (Ax y.1 y.2) 9 0));generalize Bt s (Am s k y.1.ss.length) k (Ad (Ax y.1 y.2) 9 0)=u at *;split
    ·have i:=Qg (Qg (d {u with r:=nx (Aa s u.r)} 8 0) (e _ (plQ y.1))) (Kb s (Am s k y.1.ss.length) (Kc s k _) k _);exact Qg (Qg (Qg g h) i) (e _ _)
    ·exact Qg (Qg g h) (e {u with r:=Aa s u.r} _)
   ·split
    ·unfold Fy;dsimp only;have g:=f (tk s (Aa s q.r) 64) {k:=4,pl:=((Aa s q.r).a:Int),ou:=ou,ta:=0,rd:=none6,tp:=none6};generalize Cb s ({q with r:=tk s (Aa s q.r) 64},{k:=4,pl:=((Aa s q.r).a:Int),ou:=ou,ta:=0,rd:=none6,tp:=none6})=y at *;have h:=Qg (d (Ax y.1 y.2) 9 0) (Kb s (Am s k y.1.ss.length) (Kc s k _) k (Ad (Ax y.1 y.2) 9 0));exact Qg (Qg g h) (Qg (d _ 8 _) (e _ _))
    ·exact Qg (f _ _) (d _ _ _)
def Au(s:ZB)(p:Rs):Nat:=p.ex.length+p.sm.length+Bm s p.r
theorem Z0(s:ZB)(p:Rs)(r:Rd):Au s {p with r:=r}=p.ex.length+p.sm.length+Bm s r:=rfl
theorem GW{p:Rs}{r:Rd}(h:Bm s r<=Bm s p.r):Au s {p with r:=r}<=Au s p:=by unfold Au;exact Nat.add_le_add_left h _
theorem K9(s:ZB)(p:Rs)(r:Rd)(x:Ex):Au s (Cl p r x).1=p.ex.length+p.sm.length+Bm s r+1:=by show (p.ex++[x]).length+p.sm.length+Bm s r=_;rw[Qe];simp only[Qt,Qy];omega
theorem La(s:ZB)(p:Rs)(r:Rd)(x:Sm):Au s (Dl p r x).1=p.ex.length+p.sm.length+Bm s r+1:=by show p.ex.length+(p.sm++[x]).length+Bm s r=_;rw[Qe];simp only[Qt,Qy];omega
theorem MC(s:ZB)(ex:Rs->Rs×Nat)(i:∀p,Au s (ex p).1<=Au s p+1)(p:Rs):Au s (Ba s ex p).1<=Au s p+1:=by
 have m:=Zh s p.r;have o:Au s p=p.ex.length+p.sm.length+Bm s p.r:=rfl;unfold Ba;split
 ·rw[K9];have:=Oq s (Aa s p.r);omega
 ·split
  ·rename_i d f;rw[K9];have g:=Zt (s:=s) (r:=p.r) (by omega);have e:=Z7 s (nx (Aa s p.r)) 0 (p.n-1);omega
  ·split
   ·rename_i d f j;have g:=Zt (s:=s) (r:=p.r) (by omega);have e:=i {p with r:=nx (Aa s p.r)};rw[Z0 s p (nx (Aa s p.r))]at e;generalize ex {p with r:=nx (Aa s p.r)}=y at *;have h:=GW (p:=y.1) (ZT s y.1.r 41);refine Qg h ?_;omega
   ·rw[K9];have d:=KX s p.r p.ls;omega
theorem Sj(s:ZB)(d:Rs->Rs×Nat)(e:∀p,Au s (d p).1<=Au s p+1):∀(k:Nat) (x:Rs×Nat),Au s (BV s d k x).1<=Au s x.1
 | 0,x=>GW (Zh _ _)
 | k+1,x=>by
  simp only[BV];split
  ·exact GW (Zh _ _)
  ·rename_i f;have h:=Ib f;have i:=Zt (s:=s) (r:=x.1.r) h.1;have g:=e {x.1 with r:=nx (Aa s x.1.r)};rw[Z0 s x.1 (nx (Aa s x.1.r))]at g;have m:Au s x.1=x.1.ex.length+x.1.sm.length+Bm s x.1.r:=rfl;generalize d {x.1 with r:=nx (Aa s x.1.r)}=y at *;refine Qg (Sj s d e k _) ?_;rw[K9];have j:Au s y.1=y.1.ex.length+y.1.sm.length+Bm s y.1.r:=rfl;omega
theorem KY(s:ZB):∀(k:Nat) (p:Rs),Au s (AR s k p).1<=Au s p+1
 | 0,p=>by simp only[AR];omega
 | k+1,p=>by simp only[AR];exact Qg (Sj s _ (MC s _ (KY s k)) k _) (MC s _ (KY s k) p)
theorem HA(s:ZB)(p:Rs):Au s (CJ s p).1<=Au s p+1:=KY s _ p
theorem Pf(h:CU t=true):t≠0:=by intro e;rw[e]at h;exact absurd h (by decide)
theorem N6(s:ZB)(f:Rs->Rs×Nat)(d:∀p,p.r.er=0->Au s (f p).1<=Au s p):∀(k:Nat) (p:Rs) (l:List Nat),Au s (AV s f k p l).1<=Au s p
 | 0,p,l=>GW (Zh _ _)
 | k+1,p,l=>by
  simp only[AV];split
  ·rename_i h;have e:=N6 s f d k (f {p with r:=Aa s p.r}).1 (l++[(f {p with r:=Aa s p.r}).2]);have g:=d {p with r:=Aa s p.r} (by show (Aa s p.r).er=0;rw[Zl];exact(Z8 (Pf h)).1);have i:=GW (p:=p) (Zh s p.r);omega
  ·exact GW (Zh _ _)
theorem IW(s:ZB)(f:Rs->Rs×Nat)(h:∀p,p.r.er=0->Au s (f p).1<=Au s p)(k:Nat)(p:Rs):Au s (AO s f k p).1<=Au s p:=by have d:=GW (p:=p) (ZT s p.r 123);have e:=N6 s f h k {p with r:=tk s p.r 123} [];unfold AO;generalize AV s f k {p with r:=tk s p.r 123} []=y at *;have g:=GW (p:=y.1) (ZT s y.1.r 125);exact Qg g (Qg e d)
theorem Hy(s:ZB):∀(k:Nat) (p:Rs),p.r.er=0->Au s (Al s k p).1<=Au s p
 | 0,p,x=>Qb _
 | k+1,p,x=>by
  have f:∀c,Ae s p.r=c->c≠0->tk s (Aa s p.r) c=nx (Aa s p.r):=λc h A=>by rw[<-h];exact Ew (by rw[h];exact A)
  have B:Au s p=p.ex.length+p.sm.length+Bm s p.r:=rfl;simp only[Al];by_cases g:Ae s p.r=62
  ·rw[if_pos g];unfold Hj;dsimp only;rw[f 62 g (by omega),La];have w:=Zt (s:=s) (r:=p.r) (by omega);have d:=HA s {p with r:=An s (nx (Aa s p.r)) 0 (p.n-1)};rw[Z0 s p (An s (nx (Aa s p.r)) 0 (p.n-1))]at d;have m:=Z7 s (nx (Aa s p.r)) 0 (p.n-1);generalize CJ s {p with r:=An s (nx (Aa s p.r)) 0 (p.n-1)}=y at *;have o:=ZT s y.1.r 59;have q:Au s y.1=y.1.ex.length+y.1.sm.length+Bm s y.1.r:=rfl;omega
  ·rw[if_neg g];by_cases i:Ae s p.r=63
   ·rw[if_pos i];unfold F0;dsimp only;rw[f 63 i (by omega)];have w:=Zt (s:=s) (r:=p.r) (by omega);have d:=HA s {p with r:=nx (Aa s p.r)};rw[Z0 s p (nx (Aa s p.r))]at d;generalize CJ s {p with r:=nx (Aa s p.r)}=y at *;have m:=IW s (Al s k) (Hy s k) k y.1;generalize AO s (Al s k) k y.1=u at *;have q:Au s u.1=u.1.ex.length+u.1.sm.length+Bm s u.1.r:=rfl;split
    ·rename_i o;have o:=Zt (s:=s) (r:=u.1.r) (by omega);have e:=IW s (Al s k) (Hy s k) k {u.1 with r:=nx (Aa s u.1.r)};rw[Z0 s u.1 (nx (Aa s u.1.r))]at e;generalize AO s (Al s k) k {u.1 with r:=nx (Aa s u.1.r)}=v at *;rw[La];have z:Au s v.1=v.1.ex.length+v.1.sm.length+Bm s v.1.r:=rfl;omega
    ·rw[La];have e:=Zh s u.1.r;omega
   ·rw[if_neg i];by_cases j:Ae s p.r=64
    ·rw[if_pos j];unfold Hl;dsimp only;rw[f 64 j (by omega)];have w:=Zt (s:=s) (r:=p.r) (by omega);have d:=HA s {p with r:=nx (Aa s p.r)};rw[Z0 s p (nx (Aa s p.r))]at d;generalize CJ s {p with r:=nx (Aa s p.r)}=y at *;have m:=IW s (Al s k) (Hy s k) k y.1;generalize AO s (Al s k) k y.1=u at *;rw[La];have q:Au s u.1=u.1.ex.length+u.1.sm.length+Bm s u.1.r:=rfl;omega
    ·rw[if_neg j];unfold Hi;dsimp only;rw[GN,La];have C:Bm s (AD s p.r p.ls)+8<=Bm s p.r:=by
      cases h:CW s p.r p.ls with
      | true=>
       have:AD s p.r p.ls=nx (Aa s p.r):=by unfold AD BW;rw[if_pos h]
       rw[this];exact Zt (Oc h)
      | false=>
       have:AD s p.r p.ls=Bi (Aa s p.r) (if Ct (Ae s p.r)=true then 12 else 11):=by unfold AD BW;rw[if_neg (by rw[h];simp)]
       rw[this,Tp (Dr (by split<;>omega))];unfold Bm;rw[if_pos x];omega
     have m:=ZT s (AD s p.r p.ls) 61;have d:=HA s {p with r:=tk s (AD s p.r p.ls) 61};rw[Z0 s p (tk s (AD s p.r p.ls) 61)]at d;generalize CJ s {p with r:=tk s (AD s p.r p.ls) 61}=y at *;have o:=ZT s y.1.r 59;have q:Au s y.1=y.1.ex.length+y.1.sm.length+Bm s y.1.r:=rfl;omega
structure Gp(s:ZB)(p:Rs):Prop where
 le:p.r.a<=s.size
 n1:1<=p.n
 n6:p.n<=6
 ll:p.ls.length<=8
 lb:∀x∈p.ls,97<=x∧x<=104
theorem Gp.r{p:Rs}(G:Gp s p){r:Rd}(h:r.a<=s.size):Gp s {p with r:=r}:=⟨h,G.n1,G.n6,G.ll,G.lb⟩
theorem Gp.nod{p:Rs}(G:Gp s p){r:Rd}(h:r.a<=s.size)(x:Ex):Gp s (Cl p r x).1:=⟨h,G.n1,G.n6,G.ll,G.lb⟩
theorem Gp.sto{p:Rs}(G:Gp s p){r:Rd}(h:r.a<=s.size)(x:Sm):Gp s (Dl p r x).1:=⟨h,G.n1,G.n6,G.ll,G.lb⟩
theorem Nf{ex:Rs->Rs×Nat}(e:∀p,Gp s p->Gp s (ex p).1){p:Rs}(G:Gp s p):Gp s (Ba s ex p).1:=by
 unfold Ba;split
 ·exact G.nod (M0 _ _ _ (Ze G.le)) _
 ·split
  ·exact G.nod (DX (by omega) (Dk (by omega))) _
  ·split
   ·have d:=e {p with r:=nx (Aa s p.r)} (G.r (Dk (by omega)));exact d.r (Z4 d.le (by omega))
   ·exact G.nod (Ik G.le) _
theorem UE{f:Rs->Rs×Nat}(e:∀p,Gp s p->Gp s (f p).1):∀(k:Nat) (x:Rs×Nat),Gp s x.1->Gp s (BV s f k x).1
 | 0,x,G=>G.r (Ze G.le)
 | k+1,x,G=>by
  simp only[BV];split
  ·exact G.r (Ze G.le)
  ·rename_i g;have d:=e {x.1 with r:=nx (Aa s x.1.r)} (G.r (Dk (Ib g).1));exact UE e k _ (d.nod d.le _)
theorem Kd:∀(k:Nat) (p:Rs),Gp s p->Gp s (AR s k p).1
 | 0,p,G=>G
 | k+1,p,G=>by simp only[AR];exact UE (λp G=>Nf (Kd k) G) k _ (Nf (Kd k) G)
theorem Fv{p:Rs}(G:Gp s p):Gp s (CJ s p).1:=Kd _ p G
theorem LF{f:Rs->Rs×Nat}(d:∀p,Gp s p->Gp s (f p).1):∀(k:Nat) (p:Rs) (l:List Nat),Gp s p->Gp s (AV s f k p l).1
 | 0,p,l,G=>G.r (Ze G.le)
 | k+1,p,l,G=>by
  simp only[AV];split
  ·exact LF d k _ _ (d _ (G.r (Ze G.le)))
  ·exact G.r (Ze G.le)
theorem Jg{f:Rs->Rs×Nat}(e:∀p,Gp s p->Gp s (f p).1)(k:Nat){p:Rs}(G:Gp s p):Gp s (AO s f k p).1:=by have d:=LF e k _ [] (G.r (r:=tk s p.r 123) (Z4 G.le (by omega)));exact d.r (Z4 d.le (by omega))
theorem Fs:∀(k:Nat) (p:Rs),Gp s p->Gp s (Al s k p).1
 | 0,p,G=>G
 | k+1,p,G=>by
  have g:=G.r (Ze G.le);simp only[Al];split
  ·unfold Hj;have d:=Fv (s:=s) (G.r (r:=An s (tk s (Aa s p.r) 62) 0 (p.n-1)) (DX (by omega) (Z4 (Ze G.le) (by omega))));exact d.sto (Z4 d.le (by omega)) _
  ·split
   ·unfold F0;have d:=Fv (s:=s) (G.r (r:=tk s (Aa s p.r) 63) (Z4 (Ze G.le) (by omega)));dsimp only;generalize CJ s {p with r:=tk s (Aa s p.r) 63}=y at *;have e:=Jg (Fs k) k d;generalize AO s (Al s k) k y.1=u at *;split
    ·have f:=Jg (Fs k) k (e.r (r:=nx (Aa s u.1.r)) (Dk (by omega)));exact f.sto f.le _
    ·exact e.sto (Ze e.le) _
   ·split
    ·unfold Hl;have d:=Fv (s:=s) (G.r (r:=tk s (Aa s p.r) 64) (Z4 (Ze G.le) (by omega)));have e:=Jg (Fs k) k d;exact e.sto e.le _
    ·unfold Hi;have d:=Fv (s:=s) (G.r (r:=tk s (AD s (Aa s p.r) p.ls) 61) (Z4 (Ik (Ze G.le)) (by omega)));exact d.sto (Z4 d.le (by omega)) _
def Kz(p:Rs):Tq:=⟨p.r,p.n,0,λ_ _=>false,p.ls,p.vs,[],0,0,[]⟩
theorem Nl(p:Rs):Ag (Kz p) p:=⟨rfl,rfl,rfl,rfl⟩
theorem Sk(s:ZB)(k:Nat)(p:Rs)(d:Ah s p.r<=k):Ah s (Ba s (AR s k) p).1.r<=Ah s p.r:=
 (IV s k (Ie s k) (Kz p,⟨0,0,0,0,none6,none6⟩) p (Nl p) d).le
theorem Pg(s:ZB)(p:Rs):Ah s (CJ s p).1.r<=Ah s p.r:=(Gl s (Kz p,⟨0,0,0,0,none6,none6⟩) p (Nl p)).le
theorem UF(s:ZB)(k:Nat)(p:Rs)(e:Ah s p.r<k)(g:Ae s p.r≠0):Ah s (Al s k p).1.r<Ah s p.r:=by have f:=(FM s k 0 (Kz p) p (Nl p) e).1.r;have d:=PG s k 0 (Kz p) e g;rw[f]at d;exact d
theorem SO(s:ZB)(K k:Nat)(p:Rs)(d:Ah s p.r<K+1):Ah s (AO s (Al s (K+1)) k p).1.r<=Ah s p.r:=
 (J7 s K 0 (λq p=>FM s (K+1) 0 q p) k (Kz p) p (Nl p) d).1.le
structure Vy(s:ZB)(q0:Tq)(p0:Rs)(y:Tq)(z:Rs×List Nat):Prop where
 e:y.r=if z.1.r.er=0∧z.1.r.a<s.size then Bi z.1.r 11 else z.1.r
 fq:Eg q0 y
 fp:Fg p0 z.1
 ok:y.r.er=0->Kw q0 p0 y z
theorem SP(s:ZB):∀(k:Nat) (d:Tq) (m:Rs) (q:Tq) (p:Rs) (l:List Nat),Ag d m->CX s d m q p->Kw d m q (p,l)->Ah s p.r<k->Vy s d m (Bp s k q) (AV s (Al s (s.size+2)) k p l)
 | 0,d,m,q,p,l,E,f,G,S=>by omega
 | k+1,d,m,q,p,l,E,f,G,S=>by
  have D:∀{y:Tq} {r:Rd},y={q with r:=r}->r.er=p.r.er->Kw d m y ({p with r:=r},l):=by intro y r O u h F H I;subst O;obtain⟨M,a,b⟩:=G (by have h:r.er=0:=h;rw[u]at h;exact h) F H I;exact⟨⟨M.ex,M.sm,M.oe,M.os⟩,a,b⟩
  simp only[Bp,AV];rw[f.r];cases h:CU (Ae s p.r) with
  | true=>
   have i:Ae s p.r≠0:=by unfold CU Ct at h;simp only[QJ,decide_eq_true_eq,QL]at h;omega
   have P:=Z8 i;rw[if_pos P,if_pos rfl];have hA1:=E.go f.fq f.fp f.r;have N:=Zu s p.r;have T:=Z5 s (Aa s p.r);obtain⟨g,R⟩:=FM s (s.size+2) (-1) {q with r:=Aa s p.r} {p with r:=Aa s p.r} ⟨rfl,hA1.n,hA1.ls,hA1.vs⟩ (by show Ah s (Aa s p.r)<_;omega);have o:=PG s (s.size+2) (-1) {q with r:=Aa s p.r} (by show Ah s (Aa s p.r)<_;omega) (by show Ae s (Aa s p.r)≠0;rw[Zs];exact i);rw[g.r]at o;have o:Ah s (Al s (s.size+2) {p with r:=Aa s p.r}).1.r<Ah s (Aa s p.r):=o;have w:=P.1;refine SP s k d m _ _ _ E (f.trans ⟨g.r,Qg g.le N,λe=>w,⟨g.fq.n,g.fq.pn,g.fq.pr,g.fq.ls,g.fq.vs⟩,⟨g.fp.n,g.fp.ls,g.fp.vs⟩⟩) ?_ (by omega);intro h F H I;generalize Am s (s.size+2) (-1) {q with r:=Aa s p.r}=y at *;generalize Al s (s.size+2) {p with r:=Aa s p.r}=z at *;obtain⟨M,a,b⟩:=G w F H I;have J:q.cd.length%2=0:=by have:(q.cd).length=(d.cd++Bn p.ex p.sm l (d.cd.length/2)).length:=congrArg List.length b;rw[Qe]at this;have:=If p.ex p.sm l (d.cd.length/2);omega
   obtain⟨j,Q,C⟩:=R h M.oe M.os J;have j:Mo p z.1:=⟨j.ex,j.sm,j.oe,j.os⟩
   have C:y.cd=q.cd++one z.1.ex z.1.sm z.2 (q.cd.length/2):=C;have b:q.cd=d.cd++Bn p.ex p.sm l (d.cd.length/2):=b;refine⟨M.trans j,λn i=>?_,?_⟩
   ·rw[QI,QA]at i;rcases i with i|i
    ·exact j.lt (a n i)
    ·rw[i];exact Q
   ·rw[C];show _=d.cd++Cm (one z.1.ex z.1.sm) (l++[z.2]) (d.cd.length/2);rw[MV _ _ _ _ (Ln _ _)];have v:Cm (one z.1.ex z.1.sm) l (d.cd.length/2)=Bn p.ex p.sm l (d.cd.length/2):=j.all M.oe M.os a _;rw[v];have L:q.cd.length/2=d.cd.length/2+(Bn p.ex p.sm l (d.cd.length/2)).length/2:=by have g:=If p.ex p.sm l (d.cd.length/2);rw[b,Qe];omega
    rw[L,b,QE]
  | false=>
   rw[if_neg (show ¬(false=true) from by simp)];have v:(Aa s p.r).er=p.r.er:=Zl s p.r;by_cases A:p.r.er=0∧(Aa s p.r).a<s.size
   ·rw[if_pos A];have hd:=Lp (s:=s) (k:=s.size+1) (ou:=-1) (q:={q with r:=Aa s p.r}) (by show CU (Ae s (Aa s p.r))=false;rw[Zs];exact h);have u:(Am s (s.size+2) (-1) {q with r:=Aa s p.r}).r=Bi (Aa s p.r) 11:=by rw[hd.1];show Bi (Aa s (Aa s p.r)) 11=_;rw[Z3]
    have B:(Bi (Aa s p.r) 11).er≠0:=Dr (by omega);have x:=hd.2;generalize Am s (s.size+2) (-1) {q with r:=Aa s p.r}=y at *;have O:Bp s k y=y:=by
     cases k with
     | zero=>simp only[Bp];rw[ZD (by rw[u];exact B)]
     | succ k=>simp only[Bp];rw[if_neg (λc=>B (by rw[<-u];exact c.1)),ZD (by rw[u];exact B)]
    rw[O];have K:Eg q y:=⟨x.n,x.pn,x.pr,x.ls,x.vs⟩
    refine⟨?_,f.fq.trans K,⟨f.fp.n,f.fp.ls,f.fp.vs⟩,λe=>absurd (by rw[<-u];exact e) B⟩;show y.r=if (Aa s p.r).er=0∧(Aa s p.r).a<s.size then _ else _;rw[if_pos ⟨by rw[v];exact A.1,A.2⟩];exact u
   ·rw[if_neg A];refine⟨?_,⟨f.fq.n,f.fq.pn,f.fq.pr,f.fq.ls,f.fq.vs⟩,⟨f.fp.n,f.fp.ls,f.fp.vs⟩,λ_=>D rfl v⟩;show Aa s p.r=if (Aa s p.r).er=0∧(Aa s p.r).a<s.size then _ else _;rw[if_neg (by rw[v];exact A)]
structure Ztn(s:ZB):Prop where
 r:(Ai s).r=BF s
 ok:(BF s).er=0->(Ai s).n=nP s∧(Ai s).pn=nP s∧(Ai s).vs=(Aw s).vs∧HO (Ai s).pr (Es s).2∧In (Es s).2 (nP s).toNat∧1<=nP s∧nP s<=6∧
  BA (Af s).1.ex∧BY (Af s).1.ex (Af s).1.sm∧(∀n,n∈(Af s).2->n<(Af s).1.sm.length)∧(Ai s).cd=Bn (Af s).1.ex (Af s).1.sm (Af s).2 0
 p:(Af s).1.n=nP s∧(Af s).1.ls=(Aw s).ls∧(Af s).1.vs=(Aw s).vs
theorem NQ{f:Rs->Rs×Nat}{p:Rs}{l:List Nat}(h:p.r.er≠0)(k:Nat):AV s f k p l=(p,l):=by
 cases k with
 | zero=>simp only[AV];rw[ZD h]
 | succ k=>simp only[AV];rw[JZ h,if_neg (by unfold CU Ct;simp),ZD h]
theorem Sl{q:Tq}(h:q.r.er≠0)(k:Nat):Bp s k q=q:=by
 cases k with
 | zero=>simp only[Bp];rw[ZD h]
 | succ k=>simp only[Bp];rw[if_neg (λc=>h c.1),ZD h]
theorem FK(s:ZB):Ztn s:=by
 have f:=To s;by_cases g:(Aw s).r.er=0
 ·obtain⟨i,o,m,j,C,D⟩:=f.ok g;have d:=SP s (s.size+1) (Br s Ak) (Aw s) (Br s Ak) (Aw s) [] i (CX.refl i.r) (λ_ z A _=>⟨⟨⟨[],by simp⟩,⟨[],by simp⟩,z,A⟩,λn B=>by simp at B,by simp[Bn,Cm]⟩) (by have:=Z5 s (Aw s).r;omega);have d:Vy s (Br s Ak) (Aw s) (Ai s) (Af s):=d;have v:(Ai s).r=BF s:=d.e;refine⟨v,λh=>?_,⟨d.fp.n,d.fp.ls,d.fp.vs⟩⟩;have y:(Af s).1.r.er=0:=by
   unfold BF at h;split at h
   ·exact absurd h (Dr (by omega))
   ·exact h
  obtain⟨M,a,b⟩:=d.ok (by rw[v];exact h) y (λe x p=>by simp[Aw]at p) (λe x p=>by simp[Aw]at p) (by rw[f.cd];rfl);rw[f.cd]at b;refine⟨by rw[d.fq.n];exact i.n,by rw[d.fq.pn];exact o,by rw[d.fq.vs];exact i.vs,by rw[d.fq.pr];exact m,j,C,D,M.oe,M.os,a,b⟩
 ·have q:Af s=(Aw s,[]):=NQ g _;have w:Ai s=Br s Ak:=Sl (by rw[f.r];exact g) _;have u:BF s=(Aw s).r:=by unfold BF;rw[q,if_neg (λc=>g c.1)]
  refine⟨by rw[w,u];exact f.r,λh=>absurd (by rw[<-u];exact h) g,by rw[q];exact⟨rfl,rfl,rfl⟩⟩
def cells(f:Nat->Nat->Bool)(n:Nat):List Int:=(List.range (n*n)).map λi=>if f (i/n) (i%n)=true then 49 else 48
theorem WJ{f g:Nat->Nat->Bool}(h:∀i j,i<n->j<n->f i j=g i j):cells f n=cells g n:=by
 unfold cells;apply List.map_congr_left;intro i d;rw[Ut]at d;have e:0<n:=by
  rcases Q0 n with h|h
  ·rw[h]at d;simp at d
  ·exact h
 rw[h _ _ (Nat.div_lt_of_lt_mul d) (Nat.mod_lt _ e)]
theorem MD(f:Nat->Nat->Bool)(n:Nat):(cells f n).length=n*n:=by simp[cells]
def AB(s:ZB):ZB:=bs (cells (λi j=>AZ (Es s).2 ((nP s).toNat-1) i j) (nP s).toNat)
theorem Zsw{d:Nat->Nat->Bool}(h:HO d l)(e:In l n):cells d n=cells (λi j=>AZ l (n-1) i j) n:=by
 refine WJ λi j f g=>?_;have:d i j=true↔AZ l (n-1) i j=true:=by rw[h i j];exact⟨λw=>W6 e f g w,λw=>⟨_,w⟩⟩
 cases m:d i j<;>cases o:AZ l (n-1) i j<;>simp_all
def GE(s:ZB):List Int:=Bn (Af s).1.ex (Af s).1.sm (Af s).2 0
def LW(s:ZB):ZB:=bs [83,nP s]++AB s++bs [((Aw s).vs.length:Int)%256]++bs (Aw s).vs++bs [((GE s).length/2:Nat)%256]++bs (GE s)
def AM(s:ZB):ZB:=if 300<s.size∨(BF s).er≠0∨Az (AB s)≠0∨200<(GE s).length/2 then bs [] else LW s
def Bf(s:ZB):Int:=if 300<s.size then 0 else if (BF s).er≠0 then (BF s).a else 0
def AH(s:ZB):Int:=if 300<s.size then 1 else if (BF s).er≠0 then (BF s).er else if Az (AB s)≠0 then Az (AB s) else if 200<(GE s).length/2 then 13 else 0
def EI(ls:List Int):Prop:=ls.length<=8∧∀x∈ls,97<=x∧x<=104
theorem LX(s:ZB):1<=nP s∧nP s<=6:=by
 unfold nP AW;split
 ·rename_i h;have:=QB h;omega
 ·omega
def FB(ls:List Int)(c:Int):Nat:=if c∈ls then 1 else 0
def Kx(ls:List Int):Nat:=FB ls 97+FB ls 98+FB ls 99+FB ls 100+FB ls 101+FB ls 102+FB ls 103+FB ls 104
theorem Il(ls:List Int)(c:Int):FB ls c<=1:=by unfold FB;split<;>omega
theorem Zrj(ls:List Int):Kx ls<=8:=by unfold Kx;have:=Il ls 97;have:=Il ls 98;have:=Il ls 99;have:=Il ls 100;have:=Il ls 101;have:=Il ls 102;have:=Il ls 103;have:=Il ls 104;omega
theorem Ig(h:¬t∈ls)(c:Int):FB (ls++[t]) c=FB ls c+(if c=t then 1 else 0):=by
 unfold FB;by_cases e:c=t
 ·subst e;rw[if_pos (by simp),if_neg h,if_pos rfl]
 ·rw[if_neg e];by_cases m:c∈ls
  ·rw[if_pos (by simp[m]),if_pos m]
  ·rw[if_neg (by simp[m,e]),if_neg m]
theorem Zpr(h:¬t∈ls)(e:97<=t)(f:t<=104):Kx (ls++[t])=Kx ls+1:=by
 unfold Kx;rw[Ig h,Ig h,Ig h,Ig h,Ig h,Ig h,Ig h,Ig h];have d:t=97∨t=98∨t=99∨t=100∨t=101∨t=102∨t=103∨t=104:=by omega
 rcases d with rfl|rfl|rfl|rfl|rfl|rfl|rfl|rfl<;>simp<;>omega
def C9(ls:List Int):Prop:=ls.length=Kx ls∧∀x∈ls,97<=x∧x<=104
theorem C9.nil:C9 []:=⟨rfl,λx d=>by cases d⟩
theorem C9.lets(h:C9 ls):EI ls:=⟨by rw[h.1];exact Zrj ls,h.2⟩
theorem C9.add(h:C9 ls)(q:¬fnd t ls<ls.length)(f:97<=t)(g:t<=104):C9 (ls++[t]):=by
 have d:¬t∈ls:=λd=>by obtain⟨i,m,e⟩:=List.mem_iff_getElem.1 d;have o:=Kk t ls;exact KI (c:=t) (l:=ls) (j:=i) (by omega) (by rw[Qn m,e])
 refine⟨by rw[Qe,Zpr d f g,h.1];rfl,λx p=>?_⟩;rcases QI.1 p with c|c
 ·exact h.2 x c
 ·rw[QA.1 c];exact⟨f,g⟩
theorem UZ(s:ZB)(n:Int):∀(k:Nat) (r:Rd) (l:List Int),r.a<=s.size->(EF s n k r l).1.a<=s.size
 | 0,r,l,h=>Ze h
 | k+1,r,l,h=>by
  simp only[EF];split
  ·exact UZ s n k _ _ (DX (by omega) (DX (by omega) (Ze h)))
  ·exact Ze h
theorem U0(s:ZB)(n:Int):∀(k:Nat) (r:Rd) (ls d:List Int),r.a<=s.size->(DC s n k r ls d).1.a<=s.size
 | 0,r,ls,d,h=>Ze h
 | k+1,r,ls,d,h=>by
  simp only[DC];split
  ·rename_i e;split
   ·show (Bi (Aa s r) 12).a<=s.size;rw[Km];exact Ze h
   ·exact U0 s n k _ _ _ (DX (by omega) (Dk (by have:=QB e;omega)))
  ·exact Ze h
theorem UG(s:ZB)(n:Int):∀(k:Nat) (r:Rd) (ls d:List Int),C9 ls->C9 (DC s n k r ls d).2.1
 | 0,r,ls,d,h=>h
 | k+1,r,ls,d,h=>by
  simp only[DC];split
  ·rename_i e;have:=QB e;split
   ·exact h
   ·rename_i f;exact UG s n k _ _ _ (h.add f this.1 this.2)
  ·exact h
theorem UH(s:ZB):Gp s (Aw s):=by have e:(Es s).1.a<=s.size:=UZ s _ _ _ _ (DX (by omega) (Q8 _));have f:(F8 s).1.a<=s.size:=U0 s _ _ _ _ _ (Z4 e (by omega));have d:=(UG s (nP s) (s.size+1) (tk s (Es s).1 46) [] [] C9.nil).lets;exact⟨Z4 f (by omega),(LX s).1,(LX s).2,d.1,d.2⟩
end Go.Proofs.YtcnbifdlkalimabGreat
