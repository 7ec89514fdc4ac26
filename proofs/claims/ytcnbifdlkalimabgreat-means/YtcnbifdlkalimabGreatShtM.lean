import Derived.Test.YtcnbifdlkalimabGreatSrcC
import Derived.Test.YtcnbifdlkalimabGreatPlainR
/- Lemmas for the statement Means; their conditions stand in each. -/
namespace Go.Proofs.YtcnbifdlkalimabGreat
open Go.RowKit Go.Proofs.Tryz
set_option linter.unusedVariables false
variable{op v:Int}{T:Int->ZB}{ex:List Ex}{sm:List Sm}{J a b e i lo m t u:Nat}{x:Sm}{q:Tq}{c s:ZB}
def Seg(c:ZB)(L:List Int)(a:Nat):Prop:=∀(j:Nat) (x:Int),L[j]?=some x->bv c ((2*a+j:Nat):Int)=x
def Ins(c:ZB)(i:Nat)(op arg:Int):Prop:=bv c (2*(i:Int))=op∧bv c (2*(i:Int)+1)=arg
theorem Seg.app{L M:List Int}(h:Seg c (L++M) a)(he:L.length%2=0):Seg c L a∧Seg c M (a+L.length/2):=by
 refine⟨λj x hx=>h j x (by rw[QD (Ql.1 hx).1];exact hx),λj x hx=>?_⟩
 have:=h (L.length+j) x (by rw[QF (by omega)];rw[show L.length+j-L.length=j from by omega];exact hx)
 rw[show 2*(a+L.length/2)+j=2*a+(L.length+j) from by omega]
 exact this
theorem Seg.ins{arg:Int}(h:Seg c [op,arg] a):Ins c a op arg:=by
 have h0:=h 0 op rfl
 have h1:=h 1 arg rfl
 refine⟨?_,?_⟩
 ·rw[<-h0];congr 1
 ·rw[<-h1];congr 1
structure Zgw(c:ZB)(ex:List Ex)(e a b:Nat):Prop where
 lt:e<ex.length
 sg:Seg c (cod ex e) a
 b:b=a+(cod ex e).length/2
theorem Zpi{x:Ex}(h:Z7 ex)(hx:ex[e]?=some x):cod ex e=if x.op=0∨x.op=1∨x.op=10 then [x.op%256,x.v%256] else cod ex x.l++cod ex x.r++[x.op%256,0]:=by
 have he:e<ex.length:=(Ql.1 hx).1
 unfold cod
 rw[Zhx,hx]
 dsimp only
 by_cases hl:x.op=0∨x.op=1∨x.op=10
 ·rw[if_pos hl,if_pos hl]
 ·rw[if_neg hl,if_neg hl]
  rcases h e x hx with c|⟨c,d⟩
  ·exact absurd c hl
  ·rw[ZeR h (by omega) c,ZeR h (by omega) d]
   rfl
theorem ZgX{n:Int}(hE:Z7 ex)(hB:ExB n m ex)(hn:n<=6)(hm:m<=8)(R:Nat->Nat->Nat->Prop)
  (h1:∀e x a,ex[e]?=some x->(x.op=0∨x.op=1∨x.op=10)->XB n m x->Ins c a x.op x.v->R e a (a+1))
  (h2:∀e x a u t,ex[e]?=some x->(3<=x.op∧x.op<=7)->Zgw c ex x.l a u->Zgw c ex x.r u t->Ins c t x.op 0->R x.l a u->R x.r u t->R e a (t+1)) :
  ∀e a b,Zgw c ex e a b->R e a b:=by
 have key:∀e,e<ex.length->∀a b,Zgw c ex e a b->R e a b:=by
  refine Zmt hE _ (λe x hx hl=>?_) (λe x hx hl i1 i2=>?_)
  ·intro a b hA
   have hb:=hB x (Qw hx)
   have hc:=Zpi hE hx
   rw[if_pos hl]at hc
   have hs:=hA.sg
   rw[hc]at hs
   have hb2:=hA.b
   rw[hc]at hb2
   simp only[Qt,Qy]at hb2
   have hb2:b=a+1:=by omega
   have hI:=hs.ins
   have e1:x.op%256=x.op:=by omega
   have e2:x.v%256=x.v:=by
    rcases hb with d|d|d|d<;>omega
   rw[e1,e2]at hI
   rw[hb2]
   exact h1 e x a hx hl hb hI
  ·intro a b hA
   have hb:=hB x (Qw hx)
   have hop:3<=x.op∧x.op<=7:=by
    rcases hb with d|d|d|d
    ·exact absurd (.inl d.1) hl
    ·exact absurd (.inr (.inl d.1)) hl
    ·exact absurd (.inr (.inr d.1)) hl
    ·exact d
   have hlr:x.l<e∧x.r<e:=by
    rcases hE e x hx with c|c
    ·exact absurd c hl
    ·exact c
   have he:=hA.lt
   have hc:=Zpi hE hx
   rw[if_neg hl]at hc
   have hs:=hA.sg
   rw[hc]at hs
   have v1:=Zbk ex x.l
   have v2:=Zbk ex x.r
   have hb2:=hA.b
   rw[hc]at hb2
   simp only[Qe,Qt,Qy]at hb2
   obtain⟨s1,s2⟩:=hs.app (by rw[Qe];omega)
   obtain⟨s3,s4⟩:=s1.app v1
   have hI:=s2.ins
   rw[Qe,show x.op%256=x.op from by omega]at hI
   have A1:Zgw c ex x.l a (a+(cod ex x.l).length/2):=⟨by omega,s3,rfl⟩
   have A2:Zgw c ex x.r (a+(cod ex x.l).length/2) (a+(cod ex x.l).length/2+(cod ex x.r).length/2):=⟨by omega,s4,rfl⟩
   have hI:Ins c (a+(cod ex x.l).length/2+(cod ex x.r).length/2) x.op 0:=by
    rw[show a+(cod ex x.l).length/2+(cod ex x.r).length/2=a+((cod ex x.l).length+(cod ex x.r).length)/2 from by omega];exact hI
   rw[show b=a+(cod ex x.l).length/2+(cod ex x.r).length/2+1 from by omega]
   exact h2 e x a _ _ hx hop A1 A2 hI (i1 _ _ A1) (i2 _ _ A2)
 exact λe a b hA=>key e hA.lt a b hA
structure ZnF(c:ZB)(ex:List Ex)(sm:List Sm)(i a b:Nat):Prop where
 lt:i<sm.length
 sg:Seg c (one ex sm i a) a
 b:b=a+(one ex sm i a).length/2
structure ZfP(c:ZB)(ex:List Ex)(sm:List Sm)(l:List Nat)(a b:Nat):Prop where
 lt:∀i,i∈l->i<sm.length
 sg:Seg c (als ex sm l a) a
 b:b=a+(als ex sm l a).length/2
theorem ZrE{pl:Nat}(hE:Z7 ex)(hS:ZaQ ex sm)(hx:sm[i]?=some x) :
  one ex sm i pl =
   (let e:=cod ex x.e
   if x.k=61 then e++[2,x.v%256]
   else if x.k=62 then e++[11,x.v%256]
   else
    let fr:=pl+e.length/2+1
    let body:=als ex sm x.bo fr
    let th:=fr+body.length/2
    if x.k=64 then e++[9,((th+1:Nat):Int)%256]++body++[8,(pl:Int)%256]
    else if x.two=false then e++[9,(th:Int)%256]++body
    else
     let other:=als ex sm x.el (th+1)
     e++[9,((th+1:Nat):Int)%256]++body++[8,((th+1+other.length/2:Nat):Int)%256]++other):=by
 have hi:i<sm.length:=(Ql.1 hx).1
 obtain⟨o1,o2,o3⟩:=hS i x hx
 unfold one
 rw[onF,hx]
 dsimp only
 have h1:∀(l:List Nat) (pl:Nat),(∀m,m∈l->m<i)->ZbL (onF ex sm i) l pl=als ex sm l pl:=λl pl hl=>Zjo hE hS λn h=>⟨by have:=hl n h;omega,hl n h⟩
 simp only[h1 x.bo _ o2,h1 x.el _ o3]
def SK(x:Sm):Prop:=(x.k=61∧x.bo=[]∧x.el=[])∨(x.k=62∧x.bo=[]∧x.el=[])∨(x.k=63∧(x.two=false->x.el=[]))∨(x.k=64∧x.el=[])
theorem Zff{n:Int}(hE:Z7 ex)(hS:ZaQ ex sm)(hB:∀x,x∈sm->SB n m x)(hn:n<=6)(hm:m<=8)(P:Nat->Nat->Nat->Prop)(Q:List Nat->Nat->Nat->Prop)
  (q0:∀a,Q [] a a) (q1:∀i l a u b,ZnF c ex sm i a u->ZfP c ex sm l u b->P i a u->Q l u b->Q (i::l) a b)
  (p1:∀i x a u,sm[i]?=some x->x.k=61->Zgw c ex x.e a u->Ins c u 2 x.v->P i a (u+1))
  (p2:∀i x a u,sm[i]?=some x->x.k=62->Zgw c ex x.e a u->Ins c u 11 x.v->P i a (u+1))
  (p3:∀i x a u b,sm[i]?=some x->x.k=63->x.two=false->Zgw c ex x.e a u->Ins c u 9 (b:Nat)->ZfP c ex sm x.bo (u+1) b->Q x.bo (u+1) b->P i a b)
  (p4:∀i x a u t b,sm[i]?=some x->x.k=63->x.two=true->Zgw c ex x.e a u->Ins c u 9 (t+1:Nat)->ZfP c ex sm x.bo (u+1) t->Ins c t 8 (b:Nat)->ZfP c ex sm x.el (t+1) b->Q x.bo (u+1) t->Q x.el (t+1) b->P i a b)
  (p5:∀i x a u t,sm[i]?=some x->x.k=64->Zgw c ex x.e a u->Ins c u 9 (t+1:Nat)->ZfP c ex sm x.bo (u+1) t->Ins c t 8 (a:Nat)->Q x.bo (u+1) t->P i a (t+1)) :
  (∀i a b,b<=200->ZnF c ex sm i a b->P i a b)∧(∀l a b,b<=200->ZfP c ex sm l a b->Q l a b):=by
 have ql:∀(k:Nat),(∀i,i<k->∀a b,b<=200->ZnF c ex sm i a b->P i a b)->∀l:List Nat,(∀i,i∈l->i<k)->∀a b,b<=200->ZfP c ex sm l a b->Q l a b:=by
  intro k ih l
  induction l with
  | nil=>
   intro _ a b _ hA
   have:b=a:=by have:=hA.b;simp[als,ZbL]at this;exact this
   rw[this];exact q0 a
  | cons i l ih2=>
   intro hl a b hb hA
   have hs:=hA.sg
   have hs:Seg c (one ex sm i a++als ex sm l (a+(one ex sm i a).length/2)) a:=hs
   have hbb:b=a+(one ex sm i a++als ex sm l (a+(one ex sm i a).length/2)).length/2:=hA.b
   have v1:=Zc0 ex sm i a
   rw[Qe]at hbb
   obtain⟨s1,s2⟩:=hs.app v1
   have A1:ZnF c ex sm i a (a+(one ex sm i a).length/2):=⟨hA.lt i (by simp),s1,rfl⟩
   have A2:ZfP c ex sm l (a+(one ex sm i a).length/2) b:=⟨λj hj=>hA.lt j (by simp[hj]),s2,by omega⟩
   exact q1 i l a _ b A1 A2 (ih i (hl i (by simp)) a _ (by omega) A1) (ih2 (λj hj=>hl j (by simp[hj])) _ b hb A2)
 have key:∀(k i:Nat),i<k->∀a b,b<=200->ZnF c ex sm i a b->P i a b:=by
  intro k
  induction k with
  | zero=>intro i h;omega
  | succ k ih=>
   intro i hik a b hb hA
   obtain⟨x,hx⟩:∃x,sm[i]?=some x:=⟨_,Qn hA.lt⟩
   obtain⟨o1,o2,o3⟩:=hS i x hx
   have ho:=ZrE (pl:=a) hE hS hx
   have hsb:=hB x (Qw hx)
   have hs:=hA.sg
   have hbb:=hA.b
   rw[ho]at hs hbb
   have v1:=Zbk ex x.e
   have lsq:∀l:List Nat,(∀m,m∈l->m<i)->∀a b,b<=200->ZfP c ex sm l a b->Q l a b:=λl hl=>ql i (λj hj=>ih j (by omega)) l hl
   have hlt:∀l:List Nat,(∀m,m∈l->m<i)->∀m,m∈l->m<sm.length:=λl hl m hm=>by have:=hl m hm;have:=hA.lt;omega
   dsimp only at hs hbb
   by_cases k1:x.k=61
   ·rw[if_pos k1]at hs hbb
    have hv:x.v%256=x.v:=by rcases hsb with d|d|d|d<;>omega
    obtain⟨s1,s2⟩:=hs.app v1
    have hI:=s2.ins
    rw[hv]at hI
    simp only[Qe,Qt,Qy]at hbb
    rw[show b=a+(cod ex x.e).length/2+1 from by omega]
    exact p1 i x a _ hx k1 ⟨o1,s1,rfl⟩ hI
   rw[if_neg k1]at hs hbb
   by_cases k2:x.k=62
   ·rw[if_pos k2]at hs hbb
    have hv:x.v%256=x.v:=by rcases hsb with d|d|d|d<;>omega
    obtain⟨s1,s2⟩:=hs.app v1
    have hI:=s2.ins
    rw[hv]at hI
    simp only[Qe,Qt,Qy]at hbb
    rw[show b=a+(cod ex x.e).length/2+1 from by omega]
    exact p2 i x a _ hx k2 ⟨o1,s1,rfl⟩ hI
   rw[if_neg k2]at hs hbb
   have v2:=ZaT ex sm x.bo (a+(cod ex x.e).length/2+1)
   generalize hu:a+(cod ex x.e).length/2=u at *
   generalize ht:u+1+(als ex sm x.bo (u+1)).length/2=t at *
   by_cases k4:x.k=64
   ·rw[if_pos k4]at hs hbb
    simp only[Qe,Qt,Qy]at hbb
    have hb2:b=t+1:=by omega
    obtain⟨s1,s2⟩:=hs.app (by simp only[Qe,Qt,Qy];omega)
    obtain⟨s3,s4⟩:=s1.app (by simp only[Qe,Qt,Qy];omega)
    obtain⟨s5,s6⟩:=s3.app v1
    simp only[Qe,Qt,Qy]at s2 s4
    rw[show a+((cod ex x.e).length+(0+1+1))/2=u+1 from by omega]at s4
    rw[show a+((cod ex x.e).length+(0+1+1)+(als ex sm x.bo (u+1)).length)/2=t from by omega]at s2
    rw[hu]at s6
    have I1:=s6.ins
    have I2:=s2.ins
    rw[show ((t+1:Nat):Int)%256=(t+1:Nat) from by omega]at I1
    rw[show ((a:Nat):Int)%256=(a:Nat) from by omega]at I2
    have A2:ZfP c ex sm x.bo (u+1) t:=⟨hlt _ o2,s4,ht.symm⟩
    rw[hb2]
    exact p5 i x a u t hx k4 ⟨o1,s5,hu.symm⟩ I1 A2 I2 (lsq _ o2 _ _ (by omega) A2)
   rw[if_neg k4]at hs hbb
   have k3:x.k=63:=by rcases hsb with d|d|d|d<;>omega
   cases h2:x.two with
   | false=>
    rw[if_pos h2]at hs hbb
    simp only[Qe,Qt,Qy]at hbb
    have hb2:b=t:=by omega
    obtain⟨s3,s4⟩:=hs.app (by simp only[Qe,Qt,Qy];omega)
    obtain⟨s5,s6⟩:=s3.app v1
    simp only[Qe,Qt,Qy]at s4
    rw[show a+((cod ex x.e).length+(0+1+1))/2=u+1 from by omega]at s4
    rw[hu]at s6
    have I1:=s6.ins
    rw[show ((t:Nat):Int)%256=(t:Nat) from by omega]at I1
    have A2:ZfP c ex sm x.bo (u+1) t:=⟨hlt _ o2,s4,ht.symm⟩
    rw[hb2]
    exact p3 i x a u t hx k3 h2 ⟨o1,s5,hu.symm⟩ I1 A2 (lsq _ o2 _ _ (by omega) A2)
   | true=>
    rw[if_neg (by rw[h2];simp)]at hs hbb
    have v3:=ZaT ex sm x.el (t+1)
    simp only[Qe,Qt,Qy]at hbb
    have hb2:b=t+1+(als ex sm x.el (t+1)).length/2:=by omega
    obtain⟨s0,s9⟩:=hs.app (by simp only[Qe,Qt,Qy];omega)
    obtain⟨s1,s2⟩:=s0.app (by simp only[Qe,Qt,Qy];omega)
    obtain⟨s3,s4⟩:=s1.app (by simp only[Qe,Qt,Qy];omega)
    obtain⟨s5,s6⟩:=s3.app v1
    simp only[Qe,Qt,Qy]at s2 s4 s9
    rw[show a+((cod ex x.e).length+(0+1+1))/2=u+1 from by omega]at s4
    rw[show a+((cod ex x.e).length+(0+1+1)+(als ex sm x.bo (u+1)).length)/2=t from by omega]at s2
    rw[show a+((cod ex x.e).length+(0+1+1)+(als ex sm x.bo (u+1)).length+(0+1+1))/2=t+1 from by omega]at s9
    rw[hu]at s6
    have I1:=s6.ins
    have I2:=s2.ins
    rw[show ((t+1:Nat):Int)%256=(t+1:Nat) from by omega]at I1
    rw[<-hb2,show ((b:Nat):Int)%256=(b:Nat) from by omega]at I2
    have A2:ZfP c ex sm x.bo (u+1) t:=⟨hlt _ o2,s4,ht.symm⟩
    have A3:ZfP c ex sm x.el (t+1) b:=⟨hlt _ o3,s9,hb2⟩
    exact p4 i x a u t b hx k3 h2 ⟨o1,s5,hu.symm⟩ I1 A2 I2 A3 (lsq _ o2 _ _ (by omega) A2) (lsq _ o3 _ _ (by omega) A3)
 refine⟨λi a b hb hA=>key (i+1) i (by omega) a b hb hA,λl a b hb hA=>?_⟩
 exact ql sm.length (λi hi=>key (i+1) i (by omega)) l hA.lt a b hb hA
def hgt(L:List Int):Nat->Int
 | 0=>0
 | i+1=>hgt L i+givesF (L.getD (2*i) 0)-takesF (L.getD (2*i) 0)
theorem Zfg{L M:List Int}:∀i:Nat,(∀j,j<i->L.getD (2*j) 0=M.getD (2*j) 0)->hgt L i=hgt M i
 | 0,h=>rfl
 | i+1,h=>by simp only[hgt];rw[Zfg i (λj hj=>h j (by omega)),h i (by omega)]
structure HI(q:Tq):Prop where
 ev:q.cd.length%2=0
 h:q.h=hgt q.cd (q.cd.length/2)
 hi:∀i,i<=q.cd.length/2->hgt q.cd i<=q.hi
 ex:∃i,i<=q.cd.length/2∧hgt q.cd i=q.hi
theorem HI.of{q':Tq}(H:HI q)(h1:q'.cd=q.cd)(h2:q'.h=q.h)(h3:q'.hi=q.hi):HI q':=by
 obtain⟨a,b,c,d⟩:=H
 exact⟨by rw[h1];exact a,by rw[h1,h2];exact b,by rw[h1,h3];exact c,by rw[h1,h3];exact d⟩
theorem HI.emit(H:HI q)(op x:Int):HI (emitQ q op x):=by
 have ev:=H.ev
 have hl:(emitQ q op x).cd.length=q.cd.length+2:=by show (q.cd++[op,x%256]).length=_;simp
 have e1:∀i,i<=q.cd.length/2->hgt (emitQ q op x).cd i=hgt q.cd i:=λi hi=>Zfg i λj hj=>by
  show (q.cd++[op,x%256]).getD (2*j) 0=_
  rw[Qs,Qs,QD (by omega)]
 have e2:hgt (emitQ q op x).cd (q.cd.length/2+1)=hgt q.cd (q.cd.length/2)+givesF op-takesF op:=by
  simp only[hgt]
  rw[e1 _ (Qb _)]
  have:(emitQ q op x).cd.getD (2*(q.cd.length/2)) 0=op:=by
   show (q.cd++[op,x%256]).getD (2*(q.cd.length/2)) 0=_
   rw[Qs,QF (by omega),show 2*(q.cd.length/2)-q.cd.length=0 from by omega]
   rfl
  rw[this]
 have hh:=H.h
 refine⟨by rw[hl];omega,?_,λi hi=>?_,?_⟩
 ·rw[hl,show (q.cd.length+2)/2=q.cd.length/2+1 from by omega,e2]
  show q.h+givesF op-takesF op=_
  rw[hh]
 ·rw[hl]at hi
  show _<=max q.hi (q.h+givesF op-takesF op)
  by_cases c:i<=q.cd.length/2
  ·rw[e1 i c];have:=H.hi i c;omega
  ·rw[show i=q.cd.length/2+1 from by omega,e2,hh];omega
 ·obtain⟨i,hi,hx⟩:=H.ex
  rw[hl]
  show ∃i,_∧_=max q.hi (q.h+givesF op-takesF op)
  by_cases c:q.hi<q.h+givesF op-takesF op
  ·exact⟨q.cd.length/2+1,by omega,by rw[e2,<-hh];omega⟩
  ·exact⟨i,by omega,by rw[e1 i hi,hx];omega⟩
theorem HI.aim(H:HI q)(z:Nat):HI (aimQ q z):=by
 have hl:(aimQ q z).cd.length=q.cd.length:=by show (q.cd.set _ _).length=_;simp
 have e1:∀i,hgt (aimQ q z).cd i=hgt q.cd i:=λi=>Zfg i λj hj=>by
  show (q.cd.set (2*z+1) _).getD (2*j) 0=_
  rw[Qs,Qs,List.getElem?_set_ne (by omega)]
 exact⟨by rw[hl];exact H.ev,by rw[hl,e1];exact H.h,λi hi=>by rw[e1];exact H.hi i (by rw[hl]at hi;exact hi),by
  obtain⟨i,a,b⟩:=H.ex
  exact⟨i,by rw[hl];exact a,by rw[e1];exact b⟩⟩
theorem HI.rd(H:HI q)(r:Rd):HI {q with r:=r}:=H.of rfl rfl rfl
theorem HI.add(H:HI q)(x:Sq):HI (addQ q x):=H.of rfl rfl rfl
theorem ZmE{ex:Tq×Sq->Tq×Sq}(ih:∀x,HI x.1->HI (ex x).1)(x:Tq×Sq)(H:HI x.1):HI (termQ s ex x).1:=by
 unfold termQ
 split
 ·exact HI.emit (H.rd _) _ _
 ·split
  ·unfold Ziu
   exact HI.emit ((H.rd _).rd _) _ _
  ·split
   ·exact HI.rd (ih ({x.1 with r:=nx (adv s x.1.r)},x.2) (H.rd _)) _
   ·unfold Ziv
    exact HI.emit ((H.rd _).rd _) _ _
theorem ZmF{tm:Tq×Sq->Tq×Sq}(ih:∀x,HI x.1->HI (tm x).1):∀(k:Nat) (x:Tq×Sq),HI x.1->HI (moreQ s tm k x).1
 | 0,x,H=>H.rd _
 | k+1,x,H=>by
  simp only[moreQ]
  split
  ·exact H.rd _
  ·exact ZmF ih k _ (HI.emit (ih ({x.1 with r:=nx (adv s x.1.r)},x.2) (H.rd _)) _ _)
theorem Zjf:∀(k:Nat) (x:Tq×Sq),HI x.1->HI (exprQ s k x).1
 | 0,x,H=>H
 | k+1,x,H=>ZmF (λx H=>ZmE (Zjf k) x H) k _ (ZmE (Zjf k) x H)
theorem ZmG(q:Tq)(r:Rd)(x:Sq)(H:HI q):HI (exQ s ({q with r:=r},x)).1:=Zjf _ _ (H.rd r)
theorem ZmH{f:Tq->Tq}(ih:∀q,HI q->HI (f q)):∀(k:Nat) (q:Tq),HI q->HI (loopQ s f k q)
 | 0,q,H=>H.rd _
 | k+1,q,H=>by
  simp only[loopQ]
  split
  ·exact ZmH ih k _ (ih _ (H.rd _))
  ·exact H.rd _
theorem Zj4{f:Tq->Tq}(ih:∀q,HI q->HI (f q))(k:Nat)(q:Tq)(H:HI q):HI (blkQ s f k q):=
 HI.rd (ZmH ih k {q with r:=tk s q.r 123} (H.rd _)) _
theorem Zh5:∀(k:Nat) (ou:Int) (q:Tq),HI q->HI (stmQ s k ou q)
 | 0,ou,q,H=>H
 | k+1,ou,q,H=>by
  have H:HI {q with r:=adv s q.r}:=H.rd _
  simp only[stmQ]
  split
  ·unfold ZlA
   exact HI.add (HI.emit (HI.rd (ZmG _ _ _ H) _) _ _) _
  ·split
   ·unfold ZkC
    dsimp only
    split
    ·exact HI.aim (Zj4 (λq h=>Zh5 k _ q h) k _ (HI.aim (HI.emit (HI.rd (Zj4 (λq h=>Zh5 k _ q h) k _ (HI.emit (HI.add (ZmG _ _ _ H) _) _ _)) _) _ _) _)) _
    ·exact HI.aim (HI.rd (Zj4 (λq h=>Zh5 k _ q h) k _ (HI.emit (HI.add (ZmG _ _ _ H) _) _ _)) _) _
   ·split
    ·unfold ZkD
     dsimp only
     exact HI.aim (HI.emit (Zj4 (λq h=>Zh5 k _ q h) k _ (HI.emit (HI.add (ZmG _ _ _ H) _) _ _)) _ _) _
    ·unfold ZkB
     exact HI.add (HI.emit (HI.rd (ZmG _ _ _ H) _) _ _) _
theorem ZmI:∀(k:Nat) (q:Tq),HI q->HI (bodyQ s k q)
 | 0,q,H=>H.rd _
 | k+1,q,H=>by
  simp only[bodyQ]
  split
  ·exact ZmI k _ (Zh5 _ _ _ (H.rd _))
  ·exact H.rd _
theorem Zqh(s:ZB):HI (readQ s):=by
 have hH:=Zhd s
 refine ZmI _ _ ⟨by rw[hH.cd];rfl,by rw[hH.cd,hH.h];rfl,λi hi=>?_,⟨0,by omega,by rw[hH.cd,hH.hi];rfl⟩⟩
 rw[hH.cd]at hi ⊢
 rw[hH.hi,show i=0 from by simpa using hi]
 exact QP _
def SKs(p:Rs):Prop:=∀x,x∈p.sm->SK x
theorem SKs.add{p:Rs}(H:SKs p){r:Rd}(h:SK x):SKs (ZeC p r x).1:=λy hy=>by
 have hy:y∈p.sm++[x]:=hy
 rw[QI,QA]at hy
 rcases hy with c|c
 ·exact H y c
 ·rw[c];exact h
theorem ZrF(s:ZB)(p:Rs):(exP s p).1.sm=p.sm:=(Zco s (⟨p.r,p.n,0,λ_ _=>false,p.ls,p.vs,[],0,0,[]⟩,⟨0,0,0,0,none6,none6⟩) p ⟨rfl,rfl,rfl,rfl⟩).sm
theorem Zj5{p:Rs}(H:SKs p)(r:Rd):SKs (exP s {p with r:=r}).1:=λx hx=>H x (by rw[ZrF]at hx;exact hx)
theorem Zjg{f:Rs->Rs×Nat}(ih:∀p,SKs p->SKs (f p).1):∀(k:Nat) (p:Rs) (l:List Nat),SKs p->SKs (loopP s f k p l).1
 | 0,p,l,H=>H
 | k+1,p,l,H=>by
  simp only[loopP]
  split
  ·exact Zjg ih k _ _ (ih _ H)
  ·exact H
theorem ZmJ{f:Rs->Rs×Nat}(ih:∀p,SKs p->SKs (f p).1)(k:Nat)(p:Rs)(H:SKs p):SKs (blkP s f k p).1:=Zjg ih k {p with r:=tk s p.r 123} [] H
theorem Zj6{s:ZB}:∀(k:Nat) (p:Rs),SKs p->SKs (stmP s k p).1
 | 0,p,H=>H
 | k+1,p,H=>by
  simp only[stmP]
  split
  ·exact SKs.add (Zj5 (p:={p with r:=adv s p.r}) H _) (.inr (.inl ⟨rfl,rfl,rfl⟩))
  ·split
   ·unfold ZlE
    dsimp only
    have hy:=Zj5 (s:=s) (p:={p with r:=adv s p.r}) H (tk s (adv s p.r) 63)
    dsimp only at hy
    generalize exP s {p with r:=tk s (adv s p.r) 63}=y at *
    have h1:=ZmJ (s:=s) (Zj6 (s:=s) k) k y.1 hy
    generalize blkP s (stmP s k) k y.1=b at *
    split
    ·have h2:=ZmJ (s:=s) (Zj6 (s:=s) k) k {b.1 with r:=nx (adv s b.1.r)} h1
     generalize blkP s (stmP s k) k {b.1 with r:=nx (adv s b.1.r)}=d at *
     exact h2.add (.inr (.inr (.inl ⟨rfl,λh=>by cases h⟩)))
    ·exact h1.add (.inr (.inr (.inl ⟨rfl,λh=>rfl⟩)))
   ·split
    ·unfold ZnE
     dsimp only
     have hy:=Zj5 (s:=s) (p:={p with r:=adv s p.r}) H (tk s (adv s p.r) 64)
     dsimp only at hy
     generalize exP s {p with r:=tk s (adv s p.r) 64}=y at *
     have h1:=ZmJ (s:=s) (Zj6 (s:=s) k) k y.1 hy
     generalize blkP s (stmP s k) k y.1=b at *
     exact h1.add (.inr (.inr (.inr ⟨rfl,rfl⟩)))
    ·exact SKs.add (Zj5 (p:={p with r:=adv s p.r}) H _) (.inl ⟨rfl,rfl,rfl⟩)
theorem Zjh(s:ZB):SKs (readP s).1:=Zjg (Zj6 _) _ _ _ (λx hx=>by simp[headP]at hx)
theorem ZbH{t:Int}(h:Ins c i 8 t):nxt c i=[t]:=by unfold nxt;rw[if_pos h.1,h.2]
theorem Za3{t:Int}(h:Ins c i 9 t)(j:Int):j∈nxt c i↔j=i+1∨j=t:=by
 unfold nxt
 rw[if_neg (by rw[h.1];omega)]
 by_cases e:t=(i:Int)+1
 ·rw[if_neg (by rw[h.2];omega)]
  simp only[QA]
  omega
 ·rw[if_pos ⟨h.1,by rw[h.2];exact e⟩,h.2]
  simp
theorem ZmK(h8:bv c (2*(i:Int))≠8)(h9:bv c (2*(i:Int))≠9):nxt c i=[(i:Int)+1]:=by
 unfold nxt
 rw[if_neg h8,if_neg (λk=>h9 k.1)]
structure Pas(c:ZB)(a b:Nat):Prop where
 le:a<=b
 stay:∀i:Nat,a<=i->i<b->∀j:Int,j∈nxt c i->(a:Int)<=j∧j<=b
 fwd:∀w:Int,¬((a:Int)<=w∧w<b)->∀p:Int,(a:Int)<=p->p<b->Reach c (One a) w p
 out:∀w:Int,(w<a∨(b:Int)<w)->∀p:Int,(a:Int)<=p->p<=b->Reach c (One p) w b
theorem Pas.thr(h:Pas c a b){w:Int}(hw:w<a∨(b:Int)<w):Reach c (One a) w b:=h.out w hw a (QP _) (by have:=h.le;omega)
theorem Zqi(c:ZB)(a:Nat):Pas c a a:=
 ⟨Qb _,λi h1 h2=>by omega,λw h p h1 h2=>by omega,λw h p h1 h2=>by rw[show p=a from by omega];exact Reach.start rfl (by omega)⟩
theorem ZgY(hi:(i:Int)<half c)(h8:bv c (2*(i:Int))≠8)(h9:bv c (2*(i:Int))≠9):Pas c i (i+1):=by
 have hn:=ZmK h8 h9
 refine⟨by omega,λk h1 h2 j hj=>?_,λw h p h1 h2=>?_,λw h p h1 h2=>?_⟩
 ·rw[show k=i from by omega,hn,QA]at hj
  omega
 ·rw[show p=i from by omega];exact Reach.start rfl (by omega)
 ·by_cases e:p=i
  ·rw[e]
   have:=(Reach.start (c:=c) (S:=One (i:Int)) (wall:=w) (i:=(i:Int)) rfl (by omega)).step (k:=((i+1:Nat):Int)) ⟨by omega,hi,by rw[hn,QA];omega⟩ (by omega)
   exact this
  ·rw[show p=((i+1:Nat):Int) from by omega];exact Reach.start rfl (by omega)
theorem Zdg(h:Pas c a m)(k:Pas c m b):Pas c a b:=by
 have l1:=h.le
 have l2:=k.le
 refine⟨by omega,λi h1 h2 j hj=>?_,λw hw p h1 h2=>?_,λw hw p h1 h2=>?_⟩
 ·by_cases e:i<m
  ·have:=h.stay i h1 e j hj;omega
  ·have:=k.stay i (by omega) h2 j hj;omega
 ·by_cases e:p<m
  ·exact h.fwd w (by omega) p h1 e
  ·exact(h.thr (w:=w) (by omega)).trans (k.fwd w (by omega) p (by omega) h2)
 ·by_cases e:p<=m
  ·exact(h.out w (by omega) p h1 e).trans (k.thr (by omega))
  ·exact k.out w (by omega) p (by omega) h2
theorem start1{a w j:Int}(hw:a≠w)(he:Edge c a j)(hj:j≠w):Reach c (One a) w j:=(Reach.start (S:=One a) rfl hw).step he hj
theorem Zj7(hb:(b:Int)<=half c)(hI:Ins c u 9 (b:Nat))(h:Pas c (u+1) b):Pas c u b:=by
 have l1:=h.le
 have hn:=Za3 hI
 have E1:Edge c u ((u+1:Nat):Int):=⟨by omega,by omega,(hn _).2 (.inl (by omega))⟩
 have E2:Edge c u b:=⟨by omega,by omega,(hn _).2 (.inr rfl)⟩
 refine⟨by omega,λi h1 h2 j hj=>?_,λw hw p h1 h2=>?_,λw hw p h1 h2=>?_⟩
 ·by_cases e:i=u
  ·rw[e]at hj
   have:=(hn j).1 hj
   omega
  ·have:=h.stay i (by omega) h2 j hj;omega
 ·by_cases e:p=u
  ·rw[e];exact Reach.start rfl (by omega)
  ·exact(start1 (by omega) E1 (by omega)).trans (h.fwd w (by omega) p (by omega) h2)
 ·by_cases e:p=u
  ·rw[e];exact start1 (by omega) E2 (by omega)
  ·exact h.out w (by omega) p (by omega) h2
theorem Zj8(hb:(b:Int)<=half c)(hI:Ins c u 9 (t+1:Nat))(h:Pas c (u+1) t)(hJ:Ins c t 8 (b:Nat))(k:Pas c (t+1) b):Pas c u b:=by
 have l1:=h.le
 have l2:=k.le
 have hn:=Za3 hI
 have hm:=ZbH hJ
 have E1:Edge c u ((u+1:Nat):Int):=⟨by omega,by omega,(hn _).2 (.inl (by omega))⟩
 have E2:Edge c u ((t+1:Nat):Int):=⟨by omega,by omega,(hn _).2 (.inr rfl)⟩
 have E3:Edge c t b:=⟨by omega,by omega,by rw[hm];simp⟩
 refine⟨by omega,λi h1 h2 j hj=>?_,λw hw p h1 h2=>?_,λw hw p h1 h2=>?_⟩
 ·by_cases e:i=u
  ·rw[e]at hj
   have:=(hn j).1 hj
   omega
  ·by_cases e2:i<t
   ·have:=h.stay i (by omega) e2 j hj;omega
   ·by_cases e3:i=t
    ·rw[e3,hm,QA]at hj
     omega
    ·have:=k.stay i (by omega) h2 j hj;omega
 ·by_cases e:p=u
  ·rw[e];exact Reach.start rfl (by omega)
  ·by_cases e2:p<t
   ·exact(start1 (by omega) E1 (by omega)).trans (h.fwd w (by omega) p (by omega) e2)
   ·by_cases e3:p=t
    ·rw[e3];exact(start1 (by omega) E1 (by omega)).trans (h.thr (by omega))
    ·exact(start1 (by omega) E2 (by omega)).trans (k.fwd w (by omega) p (by omega) h2)
 ·by_cases e:p=u
  ·rw[e];exact(start1 (by omega) E2 (by omega)).trans (k.thr (by omega))
  ·by_cases e2:p<=t
   ·exact(h.out w (by omega) p (by omega) e2).trans (start1 (by omega) E3 (by omega))
   ·exact k.out w (by omega) p (by omega) h2
theorem ZmL(hb:((t+1:Nat):Int)<=half c)(g:Pas c a u)(hI:Ins c u 9 (t+1:Nat))(h:Pas c (u+1) t)(hJ:Ins c t 8 (a:Nat)):Pas c a (t+1):=by
 have l0:=g.le
 have l1:=h.le
 have hn:=Za3 hI
 have hm:=ZbH hJ
 have E1:Edge c u ((u+1:Nat):Int):=⟨by omega,by omega,(hn _).2 (.inl (by omega))⟩
 have E2:Edge c u ((t+1:Nat):Int):=⟨by omega,by omega,(hn _).2 (.inr rfl)⟩
 have E3:Edge c t a:=⟨by omega,by omega,by rw[hm];simp⟩
 refine⟨by omega,λi h1 h2 j hj=>?_,λw hw p h1 h2=>?_,λw hw p h1 h2=>?_⟩
 ·by_cases e:i<u
  ·have:=g.stay i h1 e j hj;omega
  ·by_cases e1:i=u
   ·rw[e1]at hj
    have:=(hn j).1 hj
    omega
   ·by_cases e2:i<t
    ·have:=h.stay i (by omega) e2 j hj;omega
    ·rw[show i=t from by omega,hm,QA]at hj
     omega
 ·by_cases e:p<u
  ·exact g.fwd w (by omega) p h1 e
  ·have G:=g.thr (w:=w) (by omega)
   by_cases e1:p=u
   ·rw[e1];exact G
   ·have G2:=G.trans (start1 (by omega) E1 (by omega))
    by_cases e2:p<t
    ·exact G2.trans (h.fwd w (by omega) p (by omega) e2)
    ·rw[show p=t from by omega]
     exact G2.trans (h.thr (by omega))
 ·by_cases e:p<=u
  ·exact(g.out w (by omega) p h1 e).trans (start1 (by omega) E2 (by omega))
  ·by_cases e2:p<=t
   ·exact(((h.out w (by omega) p (by omega) e2).trans (start1 (by omega) E3 (by omega))).trans (g.thr (by omega))).trans (start1 (by omega) E2 (by omega))
   ·rw[show p=((t+1:Nat):Int) from by omega];exact Reach.start rfl (by omega)
section
variable {c:ZB} {ex:List Ex} {sm:List Sm} {n:Int} {m:Nat}
theorem Zgk(hE:Z7 ex)(hX:ExB n m ex)(hn:n<=6)(hm:m<=8):∀e a b,Zgw c ex e a b->(b:Int)<=half c->Pas c a b∧a<b:=
 ZgX hE hX hn hm (λe a b=>(b:Int)<=half c->Pas c a b∧a<b) (λe x a hx hl hb hI h=>⟨ZgY (by omega) (by rw[hI.1];omega) (by rw[hI.1];omega),by omega⟩)
  (λe x a u t hx hop A1 A2 hI i1 i2 h=>by
   obtain⟨g2,l2⟩:=i2 (by omega)
   obtain⟨g1,l1⟩:=i1 (by omega)
   exact⟨Zdg (Zdg g1 g2) (ZgY (by omega) (by rw[hI.1];omega) (by rw[hI.1];omega)),by omega⟩)
theorem Zh6(hE:Z7 ex)(hS:ZaQ ex sm)(hX:ExB n m ex)(hB:∀x,x∈sm->SB n m x)(hn:n<=6)(hm:m<=8) :
  (∀i a b,b<=200->ZnF c ex sm i a b->(b:Int)<=half c->Pas c a b∧a<b)∧(∀l a b,b<=200->ZfP c ex sm l a b->(b:Int)<=half c->Pas c a b):=by
 have X:=Zgk (c:=c) hE hX hn hm
 refine Zff hE hS hB hn hm (λi a b=>(b:Int)<=half c->Pas c a b∧a<b) (λl a b=>(b:Int)<=half c->Pas c a b) (λa _=>Zqi c a) (λi l a u b A B P Q h=>?_) (λi x a u hx hk A hI h=>?_) (λi x a u hx hk A hI h=>?_)
  (λi x a u b hx hk h2 A hI B Q h=>?_) (λi x a u t b hx hk h2 A hI B hJ D Q R h=>?_) (λi x a u t hx hk A hI B hJ Q h=>?_)
 ·have q:=Q h
  have:=q.le
  exact Zdg (P (by omega)).1 q
 ·obtain⟨g,l⟩:=X _ _ _ A (by omega)
  exact⟨Zdg g (ZgY (by omega) (by rw[hI.1];omega) (by rw[hI.1];omega)),by omega⟩
 ·obtain⟨g,l⟩:=X _ _ _ A (by omega)
  exact⟨Zdg g (ZgY (by omega) (by rw[hI.1];omega) (by rw[hI.1];omega)),by omega⟩
 ·have q:=Q h
  have:=q.le
  obtain⟨g,l⟩:=X _ _ _ A (by omega)
  exact⟨Zdg g (Zj7 h hI q),by omega⟩
 ·have r:=R h
  have l2:=r.le
  have q:=Q (by omega)
  have l1:=q.le
  obtain⟨g,l⟩:=X _ _ _ A (by omega)
  exact⟨Zdg g (Zj8 h hI q hJ r),by omega⟩
 ·have q:=Q (by omega)
  have l1:=q.le
  obtain⟨g,l⟩:=X _ _ _ A (by omega)
  exact⟨ZmL h g hI q hJ,by omega⟩
end
def Exi(c:ZB)(a b:Nat):Prop:=∀w:Int,(a:Int)<=w->w<b->Reach c (One b) w (half c)
theorem Zj9{S:Int->Prop}{p:Int}(hS:∀x,S x->x≠J->(lo:Int)<=x∧x<J)(hs:∀i:Nat,lo<=i->i<J->∀j:Int,j∈nxt c i->(lo:Int)<=j∧j<=J)(h:Reach c S J p):(lo:Int)<=p∧p<J:=
 h (λx=>(lo:Int)<=x∧x<J) (λx hx hw=>hS x hx hw) (λi k hi he hw=>by
  have e:((i.toNat:Nat):Int)=i:=Qj (by omega)
  have:=hs i.toNat (by omega) (by omega) k (by rw[e];exact he.2.2)
  omega)
theorem Zsw{z:Nat}(hJ:(J:Int)<=half c)(hlo:lo<=z)(hz:z<J)(hs:∀i:Nat,lo<=i->i<J->∀j:Int,j∈nxt c i->(lo:Int)<=j∧j<=J)
  (hw:∀w:Int,(lo:Int)<=w->w<J->w≠z->Reach c (One z) w (half c)):IsJ c z J:=by
 have hin:∀p,Reach c (One z) J p->(lo:Int)<=p∧p<J:=λp h=>Zj9 (λx hx _=>by have hx:x=z:=hx;omega) hs h
 refine⟨by omega,hJ,by omega,λh=>?_,λb h0 h1 hbz hbJ hon h=>?_⟩
 ·have:=hin _ h;omega
 ·have:=hin _ h
  exact hon (hw b this.1 this.2 hbz)
theorem ZmM{z lo:Nat}(hr:Ranged c)(hj:IsJ c z J)(hend:Reach c (One z) (-1) (half c)){lo2:Nat}(hs:∀i:Nat,lo2<=i->i<J->∀j:Int,j∈nxt c i->(lo2:Int)<=j∧j<=J)(hn:∀j:Int,j∈nxt c z->(lo2:Int)<=j∧j<=J)
  (hf:∀p:Int,(lo2:Int)<=p->p<J->Reach c (λx=>x∈nxt c z) J p) (p:Int):Reg c z p↔(lo2:Int)<=p∧p<J:=by
 constructor
 ·rintro⟨j,h1,h2⟩
  rw[IsJ.unique hend h1 hj]at h2
  exact Zj9 (λx hx hne=>by have:=hn x hx;omega) hs h2
 ·intro h
  exact⟨J,hj,hf p h.1 h.2⟩
theorem Reach.from{S:Int->Prop}{wall a b:Int}(hS:S a)(k:Reach c (One a) wall b):Reach c S wall b:=k.congr λx hx=>by have hx:x=a:=hx;rw[hx];exact hS
theorem Zot(hr:Ranged c)(hb:(b:Int)<=half c)(hI:Ins c u 9 (b:Nat))(h:Pas c (u+1) b)(hx:Exi c u b)(p:Int):Reg c u p↔((u+1:Nat):Int)<=p∧p<b:=by
 have l1:=h.le
 have g:=Zj7 hb hI h
 have hn:=Za3 hI
 have E2:Edge c u b:=⟨by omega,by omega,(hn _).2 (.inr rfl)⟩
 have hw:∀w:Int,(u:Int)<=w->w<b->w≠u->Reach c (One u) w (half c):=λw h1 h2 h3=>(start1 (λe=>h3 e.symm) E2 (by omega)).trans (hx w h1 h2)
 have hj:IsJ c u b:=Zsw (lo:=u) hb (Qb _) (by omega) g.stay hw
 have hend:Reach c (One (u:Int)) (-1) (half c):=(start1 (by omega) E2 (by omega)).trans ((hx u (by omega) (by omega)).free hr (by omega))
 refine ZmM (lo:=u) hr hj hend h.stay (λj hj=>?_) (λp h1 h2=>?_) p
 ·have:=(hn j).1 hj;omega
 ·exact Reach.from ((hn _).2 (.inl (by omega))) (h.fwd b (by omega) p h1 h2)
theorem Zou(hr:Ranged c)(hb:(b:Int)<=half c)(hI:Ins c u 9 (t+1:Nat))(h:Pas c (u+1) t)(hJ:Ins c t 8 (b:Nat))(k:Pas c (t+1) b)(hx:Exi c u b)(p:Int):Reg c u p↔((u+1:Nat):Int)<=p∧p<b:=by
 have l1:=h.le
 have l2:=k.le
 have g:=Zj8 hb hI h hJ k
 have hn:=Za3 hI
 have hm:=ZbH hJ
 have E1:Edge c u ((u+1:Nat):Int):=⟨by omega,by omega,(hn _).2 (.inl (by omega))⟩
 have E2:Edge c u ((t+1:Nat):Int):=⟨by omega,by omega,(hn _).2 (.inr rfl)⟩
 have E3:Edge c t b:=⟨by omega,by omega,by rw[hm];simp⟩
 have hw:∀w:Int,(u:Int)<=w->w<b->w≠u->Reach c (One u) w (half c):=λw h1 h2 h3=>by
  refine Reach.trans ?_ (hx w h1 h2)
  by_cases e:w<=t
  ·exact(start1 (λe=>h3 e.symm) E2 (by omega)).trans (k.thr (by omega))
  ·exact((start1 (λe=>h3 e.symm) E1 (by omega)).trans (h.thr (by omega))).trans (start1 (by omega) E3 (by omega))
 have hj:IsJ c u b:=Zsw (lo:=u) hb (Qb _) (by omega) g.stay hw
 have hend:Reach c (One (u:Int)) (-1) (half c):=(hw (t:Nat) (by omega) (by omega) (by omega)).free hr (by omega)
 have hst:∀i:Nat,u+1<=i->i<b->∀j:Int,j∈nxt c i->((u+1:Nat):Int)<=j∧j<=b:=λi h1 h2 j hj=>by
  by_cases e2:i<t
  ·have:=h.stay i (by omega) e2 j hj;omega
  ·by_cases e3:i=t
   ·rw[e3,hm,QA]at hj
    omega
   ·have:=k.stay i (by omega) h2 j hj;omega
 refine ZmM (lo:=u) hr hj hend hst (λj hj=>?_) (λp h1 h2=>?_) p
 ·have:=(hn j).1 hj;omega
 ·by_cases e2:p<t
  ·exact Reach.from ((hn _).2 (.inl (by omega))) (h.fwd b (by omega) p h1 e2)
  ·by_cases e3:p=t
   ·rw[e3];exact Reach.from ((hn _).2 (.inl (by omega))) (h.thr (by omega))
   ·exact Reach.from ((hn _).2 (.inr rfl)) (k.fwd b (by omega) p (by omega) h2)
theorem Zqj(hr:Ranged c)(hb:((t+1:Nat):Int)<=half c)(g:Pas c a u)(hI:Ins c u 9 (t+1:Nat))(h:Pas c (u+1) t)(hJ:Ins c t 8 (a:Nat))(hx:Exi c a (t+1))(p:Int):Reg c u p↔(a:Int)<=p∧p<((t+1:Nat):Int):=by
 have l0:=g.le
 have l1:=h.le
 have G:=ZmL hb g hI h hJ
 have hn:=Za3 hI
 have hm:=ZbH hJ
 have E2:Edge c u ((t+1:Nat):Int):=⟨by omega,by omega,(hn _).2 (.inr rfl)⟩
 have E3:Edge c t a:=⟨by omega,by omega,by rw[hm];simp⟩
 have hw:∀w:Int,(a:Int)<=w->w<((t+1:Nat):Int)->w≠u->Reach c (One u) w (half c):=λw h1 h2 h3=>(start1 (λe=>h3 e.symm) E2 (by omega)).trans (hx w h1 h2)
 have hj:IsJ c u (t+1:Nat):=Zsw (lo:=a) hb l0 (by omega) G.stay hw
 have hend:Reach c (One (u:Int)) (-1) (half c):=(hw (t:Nat) (by omega) (by omega) (by omega)).free hr (by omega)
 refine ZmM (lo:=a) hr hj hend G.stay (λj hj=>?_) (λp h1 h2=>?_) p
 ·have:=(hn j).1 hj;omega
 ·have S1:((u+1:Nat):Int)∈nxt c u:=(hn _).2 (.inl (by omega))
  have T:Reach c (λx=>x∈nxt c u) ((t+1:Nat):Int) (t:Nat):=Reach.from S1 (h.thr (by omega))
  have A:=T.step E3 (by omega)
  by_cases e:p<u
  ·exact A.trans (g.fwd _ (by omega) p h1 e)
  ·by_cases e1:p=u
   ·rw[e1];exact A.trans (g.thr (by omega))
   ·by_cases e2:p<t
    ·exact Reach.from S1 (h.fwd _ (by omega) p (by omega) e2)
    ·rw[show p=t from by omega];exact T
theorem Exi.sub{a':Nat}(h:Exi c a b)(ha:a<=a'):Exi c a' b:=λw h1 h2=>h w (by omega) h2
theorem Exi.head(h:Exi c a b)(k:Pas c m b):Exi c a m:=λw h1 h2=>by
 have:=k.le
 exact(k.thr (by omega)).trans (h w h1 (by omega))
theorem Exi.then(hx:Exi c u b)(ht:t<b)(hb:(b:Int)<=half c)(hJ:Ins c t 8 (b:Nat)):Exi c (u+1) t:=λw h1 h2=>by
 have hm:=ZbH hJ
 exact(start1 (by omega) (⟨by omega,by omega,by rw[hm];simp⟩:Edge c t b) (by omega)).trans (hx w (by omega) (by omega))
theorem Exi.body(hb:((t+1:Nat):Int)<=half c)(g:Pas c a u)(hI:Ins c u 9 (t+1:Nat))(hu:u<t+1)(hJ:Ins c t 8 (a:Nat))(hx:Exi c a (t+1)):Exi c (u+1) t:=λw h1 h2=>by
 have l0:=g.le
 have hn:=Za3 hI
 have hm:=ZbH hJ
 have E2:Edge c u ((t+1:Nat):Int):=⟨by omega,by omega,(hn _).2 (.inr rfl)⟩
 have E3:Edge c t a:=⟨by omega,by omega,by rw[hm];simp⟩
 exact(((start1 (by omega) E3 (by omega)).trans (g.thr (by omega))).trans (start1 (by omega) E2 (by omega))).trans (hx w (by omega) (by omega))
def hc(c:ZB):Nat->Int
 | 0=>0
 | i+1=>hc c i+givesAt c i-takesAt c i
def Zre(c:ZB)(i:Nat):Prop:=takesAt c i<=hc c i∧∀j:Int,j∈nxt c i->hc c j.toNat=hc c i-takesAt c i+givesAt c i
theorem ZmN(h8:bv c (2*(i:Int))≠8)(h9:bv c (2*(i:Int))≠9)(ht:takesAt c i<=hc c i):Zre c i:=
 ⟨ht,λj hj=>by
  rw[ZmK h8 h9,QA]at hj
  rw[show j.toNat=i+1 from by omega]
  simp only[hc]
  omega⟩
theorem Zqk(h:Ins c i op v)(hop:op=0∨op=1∨op=10):takesAt c i=0∧givesAt c i=1:=by
 unfold takesAt givesAt
 rw[h.1]
 rcases hop with e|e|e<;>rw[e]<;>exact⟨rfl,rfl⟩
theorem ZrG(h:Ins c i op v)(hop:3<=op∧op<=7):takesAt c i=2∧givesAt c i=1:=by
 unfold takesAt givesAt
 rw[h.1]
 rcases(show op=3∨op=4∨op=5∨op=6∨op=7 from by omega) with e|e|e|e|e<;>rw[e]<;>exact⟨rfl,rfl⟩
theorem Zch(h:Ins c i op v)(hop:op=2∨op=9∨op=11):takesAt c i=1∧givesAt c i=0:=by
 unfold takesAt givesAt
 rw[h.1]
 rcases hop with e|e|e<;>rw[e]<;>exact⟨rfl,rfl⟩
theorem ZgZ(h:Ins c i 8 v):takesAt c i=0∧givesAt c i=0:=by
 unfold takesAt givesAt
 rw[h.1]
 exact⟨rfl,rfl⟩
structure ExF(c v T:ZB)(n:Int)(vs:List Int)(ex:List Ex)(e a b:Nat):Prop where
 lt:a<b
 hb:hc c b=hc c a+1
 h:∀i:Nat,a<=i->i<b->hc c a+takesAt c i<=hc c i
 op:∀i:Nat,a<=i->i<b->(bv c (2*(i:Int))=0∨bv c (2*(i:Int))=1∨bv c (2*(i:Int))=10)∨(3<=bv c (2*(i:Int))∧bv c (2*(i:Int))<=7)
 rd:∀i:Nat,a<=i->i<b->∀j:Nat,((bv c (2*(i:Int))=1∧bv v (bv c (2*(i:Int)+1))=j)∨(bv c (2*(i:Int))=10∧bv c (2*(i:Int)+1)=j))->reads vs ex e j=true
 dr:∀c0,drawX T n c0 ex e=true->∀i:Nat,a<=i->i<b->bv c (2*(i:Int))=10->le T n c0 (bv c (2*(i:Int)+1))=true
 nl:∀i:Nat,a<=i->i<b->bv c (2*(i:Int))=10->Lv n (bv c (2*(i:Int)+1))
 nd:∀c0,drawX T n c0 ex e=false->∃i:Nat,a<=i∧i<b∧bv c (2*(i:Int))=10∧le T n c0 (bv c (2*(i:Int)+1))=false
section
variable {c v T:ZB} {ex:List Ex} {sm:List Sm} {n:Int} {vs:List Int}
theorem ZsK(hE:Z7 ex)(hX:ExB n vs.length ex)(hn:n<=6)(hm:vs.length<=8)(hv:∀x:Int,0<=x->x<vs.length->bv v x=vs.getD x.toNat 0):∀e a b,Zgw c ex e a b->ExF c v T n vs ex e a b:=by
 refine ZgX hE hX hn hm _ (λe x a hx hl hb hI=>?_) (λe x a u t hx hop A1 A2 hI i1 i2=>?_)
 ·obtain⟨t0,g1⟩:=Zqk hI hl
  have one:∀i:Nat,a<=i->i<a+1->i=a:=λi h1 h2=>by omega
  refine⟨by omega,by simp only[hc];omega,λi h1 h2=>by rw[one i h1 h2];omega,λi h1 h2=>by rw[one i h1 h2,hI.1];exact .inl hl,λi h1 h2 j hj=>?_,λc0 hd i h1 h2 h10=>?_,λi h1 h2 h10=>?_,λc0 hd=>?_⟩
  ·rw[one i h1 h2,hI.1,hI.2]at hj
   unfold reads
   rw[ZaE _ _ _ hE hx,if_pos hl]
   unfold ZkE lfL
   rw[Qr]
   rcases hj with ⟨h,hj⟩|⟨h,hj⟩
   ·refine⟨Qv (by omega),Qv ?_⟩
    rw[if_pos h]
    have:0<=x.v∧x.v<vs.length:=by rcases hb with d|d|d|d<;>omega
    rw[<-hv x.v this.1 this.2]
    exact hj.symm
   ·refine⟨Qv (by omega),Qv ?_⟩
    rw[if_neg (by omega)]
    exact hj.symm
  ·rw[one i h1 h2,hI.1]at h10
   rw[one i h1 h2,hI.2]
   unfold drawX at hd
   rw[ZaE _ _ _ hE hx,if_pos hl,if_pos h10]at hd
   exact hd
  ·rw[one i h1 h2,hI.1]at h10
   rw[one i h1 h2,hI.2]
   rcases hb with d|d|d|d
   ·omega
   ·omega
   ·exact d.2
   ·omega
  ·unfold drawX at hd
   rw[ZaE _ _ _ hE hx,if_pos hl]at hd
   by_cases h10:x.op=10
   ·rw[if_pos h10]at hd
    exact⟨a,Qb _,by omega,by rw[hI.1];exact h10,by rw[hI.2];exact hd⟩
   ·rw[if_neg h10]at hd
    exact absurd hd (by simp)
 ·obtain⟨t2,g1⟩:=ZrG hI hop
  have l1:=i1.lt
  have l2:=i2.lt
  have b1:=i1.hb
  have b2:=i2.hb
  have hnl:¬(x.op=0∨x.op=1∨x.op=10):=by omega
  have part:∀i:Nat,a<=i->i<t+1->(a<=i∧i<u)∨(u<=i∧i<t)∨i=t:=λi h1 h2=>by omega
  refine⟨by omega,by simp only[hc];omega,λi h1 h2=>?_,λi h1 h2=>?_,λi h1 h2 j hj=>?_,λc0 hd i h1 h2 h10=>?_,λi h1 h2 h10=>?_,λc0 hd=>?_⟩
  ·rcases part i h1 h2 with ⟨k1,k2⟩|⟨k1,k2⟩|k
   ·exact i1.h i k1 k2
   ·have:=i2.h i k1 k2;omega
   ·rw[k];omega
  ·rcases part i h1 h2 with ⟨k1,k2⟩|⟨k1,k2⟩|k
   ·exact i1.op i k1 k2
   ·exact i2.op i k1 k2
   ·rw[k,hI.1];exact .inr hop
  ·unfold reads
   rw[ZaE _ _ _ hE hx,if_neg hnl,QJ]
   rcases part i h1 h2 with ⟨k1,k2⟩|⟨k1,k2⟩|k
   ·exact .inl (i1.rd i k1 k2 j hj)
   ·exact .inr (i2.rd i k1 k2 j hj)
   ·rw[k,hI.1]at hj
    omega
  ·unfold drawX at hd
   rw[ZaE _ _ _ hE hx,if_neg hnl,Qr]at hd
   rcases part i h1 h2 with ⟨k1,k2⟩|⟨k1,k2⟩|k
   ·exact i1.dr c0 hd.1 i k1 k2 h10
   ·exact i2.dr c0 hd.2 i k1 k2 h10
   ·rw[k,hI.1]at h10
    omega
  ·rcases part i h1 h2 with ⟨k1,k2⟩|⟨k1,k2⟩|k
   ·exact i1.nl i k1 k2 h10
   ·exact i2.nl i k1 k2 h10
   ·rw[k,hI.1]at h10
    omega
  ·unfold drawX at hd
   rw[ZaE _ _ _ hE hx,if_neg hnl,Bool.and_eq_false_iff]at hd
   rcases hd with hd|hd
   ·obtain⟨i,k1,k2,k3⟩:=i1.nd c0 hd
    exact⟨i,k1,by omega,k3⟩
   ·obtain⟨i,k1,k2,k3⟩:=i2.nd c0 hd
    exact⟨i,by omega,by omega,k3⟩
theorem Zpj(hE:Z7 ex)(hS:ZaQ ex sm)(hX:ExB n vs.length ex)(hB:∀x,x∈sm->SB n vs.length x)(hn:n<=6)(hm:vs.length<=8)(hv:∀x:Int,0<=x->x<vs.length->bv v x=vs.getD x.toNat 0) :
  (∀i a b,b<=200->ZnF c ex sm i a b->hc c a=0->a<=b∧hc c b=0∧∀i,a<=i->i<b->Zre c i)∧(∀l a b,b<=200->ZfP c ex sm l a b->hc c a=0->a<=b∧hc c b=0∧∀i,a<=i->i<b->Zre c i):=by
 have F:=ZsK (c:=c) (T:=c) hE hX hn hm hv
 have X:∀e a b,Zgw c ex e a b->hc c a=0->a<b∧hc c b=1∧∀i,a<=i->i<b->Zre c i:=λe a b A h0=>by
  have f:=F _ _ _ A
  have hb:=f.hb
  refine⟨f.lt,by omega,λi h1 h2=>?_⟩
  have ho:=f.op i h1 h2
  have hh:=f.h i h1 h2
  exact ZmN (by omega) (by omega) (by omega)
 refine Zff hE hS hB hn hm (λi a b=>hc c a=0->a<=b∧hc c b=0∧∀i,a<=i->i<b->Zre c i) (λl a b=>hc c a=0->a<=b∧hc c b=0∧∀i,a<=i->i<b->Zre c i) (λa h=>⟨Qb _,h,λi h1 h2=>by omega⟩) (λi l a u b A B P Q h=>?_) (λi x a u hx hk A hI h=>?_) (λi x a u hx hk A hI h=>?_)
  (λi x a u b hx hk h2 A hI B Q h=>?_) (λi x a u t b hx hk h2 A hI B hJ D Q R h=>?_) (λi x a u t hx hk A hI B hJ Q h=>?_)
 ·obtain⟨l1,z1,f1⟩:=P h
  obtain⟨l2,z2,f2⟩:=Q z1
  refine⟨by omega,z2,λj h1 h2=>?_⟩
  by_cases e:j<u
  ·exact f1 j h1 e
  ·exact f2 j (by omega) h2
 ·obtain⟨l1,z1,f1⟩:=X _ _ _ A h
  obtain⟨t1,g0⟩:=Zch hI (.inl rfl)
  refine⟨by omega,by simp only[hc];omega,λj h1 h2=>?_⟩
  by_cases e:j<u
  ·exact f1 j h1 e
  ·rw[show j=u from by omega];exact ZmN (by rw[hI.1];omega) (by rw[hI.1];omega) (by omega)
 ·obtain⟨l1,z1,f1⟩:=X _ _ _ A h
  obtain⟨t1,g0⟩:=Zch hI (.inr (.inr rfl))
  refine⟨by omega,by simp only[hc];omega,λj h1 h2=>?_⟩
  by_cases e:j<u
  ·exact f1 j h1 e
  ·rw[show j=u from by omega];exact ZmN (by rw[hI.1];omega) (by rw[hI.1];omega) (by omega)
 ·obtain⟨l1,z1,f1⟩:=X _ _ _ A h
  obtain⟨t1,g0⟩:=Zch hI (.inr (.inl rfl))
  have zu:hc c (u+1)=0:=by simp only[hc];omega
  obtain⟨l2,z2,f2⟩:=Q zu
  refine⟨by omega,z2,λj h1 h2=>?_⟩
  by_cases e:j<u
  ·exact f1 j h1 e
  ·by_cases e1:j=u
   ·rw[e1]
    refine⟨by omega,λk hk=>?_⟩
    rcases(Za3 hI k).1 hk with q|q
    ·rw[show k.toNat=u+1 from by omega,zu];omega
    ·rw[show k.toNat=b from by omega,z2];omega
   ·exact f2 j (by omega) h2
 ·obtain⟨l1,z1,f1⟩:=X _ _ _ A h
  obtain⟨t1,g0⟩:=Zch hI (.inr (.inl rfl))
  obtain⟨t2,g2⟩:=ZgZ hJ
  have zu:hc c (u+1)=0:=by simp only[hc];omega
  obtain⟨l2,z2,f2⟩:=Q zu
  have zt:hc c (t+1)=0:=by simp only[hc];omega
  obtain⟨l3,z3,f3⟩:=R zt
  refine⟨by omega,z3,λj h1 h2=>?_⟩
  by_cases e:j<u
  ·exact f1 j h1 e
  ·by_cases e1:j=u
   ·rw[e1]
    refine⟨by omega,λk hk=>?_⟩
    rcases(Za3 hI k).1 hk with q|q
    ·rw[show k.toNat=u+1 from by omega,zu];omega
    ·rw[show k.toNat=t+1 from by omega,zt];omega
   ·by_cases e2:j<t
    ·exact f2 j (by omega) e2
    ·by_cases e3:j=t
     ·rw[e3]
      refine⟨by omega,λk hk=>?_⟩
      rw[ZbH hJ,QA]at hk
      rw[show k.toNat=b from by omega,z3];omega
     ·exact f3 j (by omega) h2
 ·obtain⟨l1,z1,f1⟩:=X _ _ _ A h
  obtain⟨t1,g0⟩:=Zch hI (.inr (.inl rfl))
  obtain⟨t2,g2⟩:=ZgZ hJ
  have zu:hc c (u+1)=0:=by simp only[hc];omega
  obtain⟨l2,z2,f2⟩:=Q zu
  have zt:hc c (t+1)=0:=by simp only[hc];omega
  refine⟨by omega,zt,λj h1 h2=>?_⟩
  by_cases e:j<u
  ·exact f1 j h1 e
  ·by_cases e1:j=u
   ·rw[e1]
    refine⟨by omega,λk hk=>?_⟩
    rcases(Za3 hI k).1 hk with q|q
    ·rw[show k.toNat=u+1 from by omega,zu];omega
    ·rw[show k.toNat=t+1 from by omega,zt];omega
   ·by_cases e2:j<t
    ·exact f2 j (by omega) e2
    ·rw[show j=t from by omega]
     refine⟨by omega,λk hk=>?_⟩
     rw[ZbH hJ,QA]at hk
     rw[show k.toNat=a from by omega,h];omega
end
structure Py where
 m:Hnd
 st:Int
 lf:Nat
 ou:Bool
def payF(y:Py):Py:=if y.ou=true∨y.lf=0 then {y with ou:=true} else {y with lf:=y.lf-1,st:=y.st+1}
def ZaX(T:Int->ZB)(x:Ex)(y:Py):Py×Int:=
 if x.op=0 then (y,x.v) else if x.op=1 then (y,y.m.va x.v) else ({y with m:={y.m with po:=up y.m.po x.v (y.m.po x.v+1)}},bv (T x.v) (y.m.po x.v))
def worF(T:Int->ZB)(ex:List Ex):Nat->Nat->Py->Py×Int
 | 0,_,y=>(y,0)
 | k+1,e,y=>match ex[e]? with
  | none=>(y,0)
  | some x=>if 2<x.op∧x.op<=7 then
    (if (payF (worF T ex k x.r (worF T ex k x.l y).1).1).ou=true then (payF (worF T ex k x.r (worF T ex k x.l y).1).1,0)
         else (payF (worF T ex k x.r (worF T ex k x.l y).1).1,reckon x.op (worF T ex k x.l y).2 (worF T ex k x.r (worF T ex k x.l y).1).2))
   else if (payF y).ou=true then (payF y,0) else ZaX T x (payF y)
def wor(T:Int->ZB)(ex:List Ex)(e:Nat)(y:Py):Py×Int:=worF T ex (e+1) e y
def rnG(f:Nat->Py->Py):List Nat->Py->Py
 | [],y=>y
 | i::l,y=>if y.ou=true then y else rnG f l (f i y)
def ZfL(w:Py->Py×Int)(b:Py->Py):Nat->Int->Py->Py
 | 0,v,y=>y
 | j+1,v,y=>if v≠0∧y.ou=false then ZfL w b j (w (payF (b y))).2 (payF (w (payF (b y))).1) else y
def ZfQ(T:Int->ZB)(ex:List Ex)(sm:List Sm):Nat->Nat->Py->Py
 | 0,_,y=>y
 | k+1,i,y=>match sm[i]? with
  | none=>y
  | some x=>
   let w:=wor T ex x.e y
   let z:=payF w.1
   if z.ou=true then z
   else if x.k=61 then {z with m:={z.m with va:=up z.m.va x.v w.2}}
   else if x.k=62 then {z with m:={z.m with lo:=up z.m.lo x.v (z.m.lo x.v++[w.2])}}
   else if x.k=63 then (if w.2=0 then rnG (ZfQ T ex sm k) x.el z else if x.two=true then payF (rnG (ZfQ T ex sm k) x.bo z) else rnG (ZfQ T ex sm k) x.bo z)
   else ZfL (wor T ex x.e) (rnG (ZfQ T ex sm k) x.bo) (z.lf+1) w.2 z
def doe(T:Int->ZB)(ex:List Ex)(sm:List Sm)(i:Nat)(y:Py):Py:=ZfQ T ex sm (i+1) i y
def does(T:Int->ZB)(ex:List Ex)(sm:List Sm)(l:List Nat)(y:Py):Py:=rnG (doe T ex sm) l y
theorem Zbt{y:Py}(h:y.ou=true):payF y=y:=by unfold payF;rw[if_pos (.inl h),<-h]
theorem Zpk{y:Py}(h:y.lf=0):payF y={y with ou:=true}:=by unfold payF;rw[if_pos (.inr h)]
theorem Zpl{y:Py}(h:y.ou=false)(h0:y.lf≠0):payF y={y with lf:=y.lf-1,st:=y.st+1}:=by unfold payF;rw[if_neg (by rw[h];simp[h0])]
theorem Zg0(T:Int->ZB)(ex:List Ex):∀(k e:Nat) {y:Py},y.ou=true->(worF T ex k e y).1=y
 | 0,e,y,h=>rfl
 | k+1,e,y,h=>by
  simp only[worF]
  split
  ·rfl
  ·rename_i x hx
   split
   ·rw[Zg0 T ex k x.l h,Zg0 T ex k x.r h,Zbt h,if_pos h]
   ·rw[Zbt h,if_pos h]
theorem ZmO{y:Py}(h:y.ou=true):(wor T ex e y).1=y:=Zg0 T ex _ e h
theorem ZmP{f:Nat->Py->Py}(l:List Nat){y:Py}(h:y.ou=true):rnG f l y=y:=by
 cases l with
 | nil=>rfl
 | cons i l=>simp only[rnG];rw[if_pos h]
theorem Zbh{w:Py->Py×Int}{b:Py->Py}(j:Nat){y:Py}(h:y.ou=true):ZfL w b j v y=y:=by
 cases j with
 | zero=>rfl
 | succ j=>simp only[ZfL];rw[if_neg (by rw[h];simp)]
theorem ZdH(hE:Z7 ex)(hop:∀x,x∈ex->(x.op=0∨x.op=1∨x.op=10)∨(3<=x.op∧x.op<=7)):∀(k e k':Nat) (y:Py),e<k->e<k'->worF T ex k e y=worF T ex k' e y
 | 0,e,k',y,h,_=>by omega
 | k+1,e,0,y,_,h=>by omega
 | k+1,e,k'+1,y,h1,h2=>by
  simp only[worF]
  cases hx:ex[e]? with
  | none=>rfl
  | some x=>
   dsimp only
   by_cases ho:2<x.op∧x.op<=7
   ·rw[if_pos ho,if_pos ho]
    rcases hE e x hx with c|⟨c,d⟩
    ·omega
    ·rw[ZdH hE hop k x.l k' y (by omega) (by omega),ZdH hE hop k x.r k' _ (by omega) (by omega)]
   ·rw[if_neg ho,if_neg ho]
theorem Zka(hE:Z7 ex)(hop:∀x,x∈ex->(x.op=0∨x.op=1∨x.op=10)∨(3<=x.op∧x.op<=7)){x:Ex}(hx:ex[e]?=some x)(y:Py) :
  wor T ex e y=if 2<x.op∧x.op<=7 then
    (if (payF (wor T ex x.r (wor T ex x.l y).1).1).ou=true then (payF (wor T ex x.r (wor T ex x.l y).1).1,0)
         else (payF (wor T ex x.r (wor T ex x.l y).1).1,reckon x.op (wor T ex x.l y).2 (wor T ex x.r (wor T ex x.l y).1).2))
   else if (payF y).ou=true then (payF y,0) else ZaX T x (payF y):=by
 unfold wor
 rw[worF,hx]
 dsimp only
 by_cases ho:2<x.op∧x.op<=7
 ·rw[if_pos ho,if_pos ho]
  rcases hE e x hx with c|⟨c,d⟩
  ·omega
  ·rw[ZdH hE hop e x.l (x.l+1) y c (by omega),ZdH hE hop e x.r (x.r+1) _ d (by omega)]
 ·rw[if_neg ho,if_neg ho]
theorem Zcy{f g:Nat->Py->Py}:∀(l:List Nat) (y:Py),(∀i,i∈l->∀y,f i y=g i y)->rnG f l y=rnG g l y
 | [],y,h=>rfl
 | i::l,y,h=>by
  simp only[rnG]
  rw[h i (by simp),Zcy l _ λj hj=>h j (by simp[hj])]
theorem ZdI(hS:ZaQ ex sm):∀(k i k':Nat) (y:Py),i<k->i<k'->ZfQ T ex sm k i y=ZfQ T ex sm k' i y
 | 0,i,k',y,h,_=>by omega
 | k+1,i,0,y,_,h=>by omega
 | k+1,i,k'+1,y,h1,h2=>by
  simp only[ZfQ]
  cases hx:sm[i]? with
  | none=>rfl
  | some x=>
   dsimp only
   obtain⟨o1,o2,o3⟩:=hS i x hx
   have hb:rnG (ZfQ T ex sm k) x.bo=rnG (ZfQ T ex sm k') x.bo:=funext λy=>Zcy _ y λj hj y=>ZdI hS k j k' y (by have:=o2 j hj;omega) (by have:=o2 j hj;omega)
   have hl:rnG (ZfQ T ex sm k) x.el=rnG (ZfQ T ex sm k') x.el:=funext λy=>Zcy _ y λj hj y=>ZdI hS k j k' y (by have:=o3 j hj;omega) (by have:=o3 j hj;omega)
   rw[hb,hl]
theorem Zgl(hS:ZaQ ex sm)(hx:sm[i]?=some x)(y:Py) :
  doe T ex sm i y =
   (let w:=wor T ex x.e y
   let z:=payF w.1
   if z.ou=true then z
   else if x.k=61 then {z with m:={z.m with va:=up z.m.va x.v w.2}}
   else if x.k=62 then {z with m:={z.m with lo:=up z.m.lo x.v (z.m.lo x.v++[w.2])}}
   else if x.k=63 then (if w.2=0 then does T ex sm x.el z else if x.two=true then payF (does T ex sm x.bo z) else does T ex sm x.bo z)
   else ZfL (wor T ex x.e) (does T ex sm x.bo) (z.lf+1) w.2 z):=by
 obtain⟨o1,o2,o3⟩:=hS i x hx
 have hb:rnG (ZfQ T ex sm i) x.bo=does T ex sm x.bo:=funext λy=>Zcy _ y λj hj y=>ZdI hS i j (j+1) y (o2 j hj) (by omega)
 have hl:rnG (ZfQ T ex sm i) x.el=does T ex sm x.el:=funext λy=>Zcy _ y λj hj y=>ZdI hS i j (j+1) y (o3 j hj) (by omega)
 unfold doe
 rw[ZfQ,hx]
 dsimp only
 rw[hb,hl]
structure Gos(c:ZB)(T:Int->ZB)(j:Nat)(m m':Hnd):Prop where
 r:Za6 c T j m=m'
 n:numM c T j m=j
structure Rl(y:Py)(m:Hnd):Prop where
 va:y.m.va=m.va
 po:y.m.po=m.po
 lo:y.m.lo=m.lo
section
variable {c:ZB} {T:Int->ZB}
theorem Gos.zero(m:Hnd):Gos c T 0 m m:=⟨rfl,rfl⟩
theorem Gos.one{m:Hnd}(h:m.pl≠half c):Gos c T 1 m (Zy c T m):=⟨by rw[Zcg h];rfl,by rw[Zbs h];rfl⟩
theorem Zg1(c:ZB)(T:Int->ZB):∀(a b:Nat) (m:Hnd),numM c T (a+b) m=numM c T a m+numM c T b (Za6 c T a m)
 | 0,b,m=>by rw[QT];show _=0+numM c T b m;omega
 | a+1,b,m=>by
  by_cases h:m.pl=half c
  ·rw[ZaP h,ZaP h,Zbg h,ZaP h]
  ·rw[show a+1+b=(a+b)+1 from by omega,Zbs h,Zbs h,Zcg h,Zg1 c T a b]
   omega
theorem Gos.trans{j k:Nat}{x y z:Hnd}(h:Gos c T j x y)(g:Gos c T k y z):Gos c T (j+k) x z:=⟨by rw[Zdx,h.r,g.r],by rw[Zg1,h.n,h.r,g.n]⟩
def Res(c:ZB)(T:Int->ZB)(y:Py)(m:Hnd)(z:Py)(D:Hnd->Prop):Prop:=
 (z.ou=false∧∃j m',Gos c T j m m'∧D m'∧Rl z m'∧z.lf+j=y.lf∧z.st=y.st+j)∨(z.ou=true∧∃m',Gos c T y.lf m m'∧m'.pl≠half c∧Rl z m'∧z.st=y.st+y.lf)
theorem Res.refl{y:Py}{m:Hnd}{D:Hnd->Prop}(h:y.ou=false)(hr:Rl y m)(hd:D m):Res c T y m y D:=.inl ⟨h,0,m,Gos.zero m,hd,hr,by omega,by omega⟩
theorem Res.mono{y z:Py}{m:Hnd}{D D':Hnd->Prop}(r:Res c T y m z D)(h:z.ou=false->∀m',D m'->D' m'):Res c T y m z D':=by
 rcases r with ⟨q,j,m',g,d,k⟩|r
 ·exact .inl ⟨q,j,m',g,h q m' d,k⟩
 ·exact .inr r
theorem Res.seq{y z z2:Py}{m:Hnd}{D D2:Hnd->Prop}(H:Res c T y m z D)(K:∀m',z.ou=false->z.lf<=y.lf->D m'->Rl z m'->Res c T z m' z2 D2)(O:z.ou=true->z2=z):Res c T y m z2 D2:=by
 rcases H with ⟨h,j,m',g,d,r,e1,e2⟩|⟨h,m',g,d,r,e⟩
 ·rcases K m' h (by omega) d r with ⟨h2,j2,m2,g2,d2,r2,f1,f2⟩|⟨h2,m2,g2,d2,r2,f⟩
  ·exact .inl ⟨h2,j+j2,m2,g.trans g2,d2,r2,by omega,by omega⟩
  ·exact .inr ⟨h2,m2,by rw[<-e1,Nat.add_comm];exact g.trans g2,d2,r2,by omega⟩
 ·rw[O h]
  exact .inr ⟨h,m',g,d,r,e⟩
theorem ZmQ{y:Py}(h:(payF y).ou=false):(payF y).lf+1=y.lf:=by
 by_cases h1:y.ou=true∨y.lf=0
 ·unfold payF at h;rw[if_pos h1]at h;exact absurd h (by simp)
 ·unfold payF;rw[if_neg h1];show y.lf-1+1=y.lf;omega
theorem Res.ins{y:Py}{m:Hnd}{D:Hnd->Prop}{f:Py->Py}(hm:m.pl≠half c)(ho:y.ou=false)(hr:Rl y m)(hf:∀p:Py,(f p).ou=p.ou∧(f p).lf=p.lf∧(f p).st=p.st)(hs:∀p:Py,p.m=y.m->Rl (f p) (Zy c T m))(hd:D (Zy c T m)):Res c T y m (if (payF y).ou=true then payF y else f (payF y)) D:=by
 by_cases h0:y.lf=0
 ·rw[Zpk h0,if_pos rfl]
  exact .inr ⟨rfl,m,by rw[h0];exact Gos.zero m,hm,⟨hr.va,hr.po,hr.lo⟩,by rw[h0];show y.st=_;omega⟩
 ·have e:=Zpl ho h0
  have e2:(payF y).ou=false:=by rw[e];exact ho
  rw[if_neg (by rw[e2];simp)]
  obtain⟨a,b,d⟩:=hf (payF y)
  refine .inl ⟨by rw[a];exact e2,1,_,Gos.one hm,hd,hs _ (by rw[e]),?_,?_⟩
  ·rw[b,e];show y.lf-1+1=_;omega
  ·rw[d,e];rfl
theorem Res.pay{y:Py}{m:Hnd}{D:Hnd->Prop}(hm:m.pl≠half c)(ho:y.ou=false)(hr:Rl y m)(hs:(Zy c T m).va=m.va∧(Zy c T m).po=m.po∧(Zy c T m).lo=m.lo)(hd:D (Zy c T m)):Res c T y m (payF y) D:=by
 have:=Res.ins (c:=c) (T:=T) (D:=D) (f:=λp=>p) hm ho hr (λ_=>⟨rfl,rfl,rfl⟩) (λp e=>⟨by rw[e,hs.1];exact hr.va,by rw[e,hs.2.1];exact hr.po,by rw[e,hs.2.2];exact hr.lo⟩) hd
 by_cases h:(payF y).ou=true
 ·rw[if_pos h]at this;exact this
 ·rw[if_neg h]at this;exact this
variable {ex:List Ex} {sm:List Sm} {n:Int} {vs:List Int}
theorem Zov(hX:ExB n vs.length ex):∀x,x∈ex->(x.op=0∨x.op=1∨x.op=10)∨(3<=x.op∧x.op<=7):=λx hx=>by
 rcases hX x hx with d|d|d|d
 ·exact .inl (.inl d.1)
 ·exact .inl (.inr (.inl d.1))
 ·exact .inl (.inr (.inr d.1))
 ·exact .inr d
def Zrf(b:Nat)(m:Hnd)(v:Int)(m':Hnd):Prop:=m'.pl=b∧m'.sp=m.sp+1∧m'.st m.sp=v∧∀d,d<m.sp->m'.st d=m.st d
theorem Zql(hE:Z7 ex)(hX:ExB n vs.length ex)(hn:n<=6)(hm:vs.length<=8) :
  ∀e a b,Zgw c ex e a b->(b:Int)<=half c->∀(m:Hnd) (y:Py),m.pl=a->Rl y m->y.ou=false->Res c T y m (wor T ex e y).1 (Zrf b m (wor T ex e y).2):=by
 have hop:=Zov (ex:=ex) hX
 refine ZgX hE hX hn hm _ (λe x a hx hl hb hI hK m y hp hr ho=>?_) (λe x a u t hx hxo A1 A2 hI i1 i2 hK m y hp hr ho=>?_)
 ·have hw:=Zka (T:=T) hE hop hx y
  rw[if_neg (by omega)]at hw
  have hne:m.pl≠half c:=by omega
  have hop2:bv c (2*m.pl)=x.op:=by rw[hp];exact hI.1
  have hag2:bv c (2*m.pl+1)=x.v:=by rw[hp];exact hI.2
  have one:(if (payF y).ou=true then (payF y,(0:Int)) else ZaX T x (payF y)).1=if (payF y).ou=true then payF y else (ZaX T x (payF y)).1:=by split<;>rfl
  have two:(payF y).ou=false->(if (payF y).ou=true then (payF y,(0:Int)) else ZaX T x (payF y)).2=(ZaX T x (payF y)).2:=λh=>by rw[if_neg (by rw[h];simp)]
  have pm:(payF y).m=y.m:=by unfold payF;split<;>rfl
  rw[hw,one]
  have hmono:∀D D':Hnd->Prop,∀z,(z.ou=false->∀m',D m'->D' m')->Res c T y m z D->Res c T y m z D':=λD D' z h r=>r.mono h
  rcases hl with e0|e0|e0
  ·have hs:=ZhP (c:=c) (T:=T) (m:=m) (by rw[hop2];exact e0)
   refine hmono (Zrf (a+1) m x.v) _ _ (λh m' d=>?_) (Res.ins (f:=λp=>(ZaX T x p).1) hne ho hr (λp=>by unfold ZaX;rw[if_pos e0];exact⟨rfl,rfl,rfl⟩) (λp e=>?_) ?_)
   ·have h':(payF y).ou=false:=by
     by_cases q:(payF y).ou=true
     ·rw[if_pos q,q]at h;exact absurd h (by simp)
     ·rw[QW]at q;exact q
    rw[two h']
    unfold ZaX
    rw[if_pos e0]
    exact d
   ·have:(ZaX T x p).1=p:=by unfold ZaX;rw[if_pos e0]
    rw[this,hs]
    exact⟨by rw[e];exact hr.va,by rw[e];exact hr.po,by rw[e];exact hr.lo⟩
   ·rw[hs]
    refine⟨by show m.pl+1=_;rw[hp];omega,rfl,?_,λd hd=>?_⟩
    ·show up m.st m.sp (bv c (2*m.pl+1)) m.sp=x.v
     rw[Zcq,hag2]
    ·show up m.st m.sp _ d=_
     exact Zcf (by omega)
  ·have hs:=ZhQ (c:=c) (T:=T) (m:=m) (by rw[hop2];exact e0)
   refine hmono (Zrf (a+1) m (y.m.va x.v)) _ _ (λh m' d=>?_) (Res.ins (f:=λp=>(ZaX T x p).1) hne ho hr (λp=>by unfold ZaX;rw[if_neg (by omega),if_pos e0];exact⟨rfl,rfl,rfl⟩) (λp e=>?_) ?_)
   ·have h':(payF y).ou=false:=by
     by_cases q:(payF y).ou=true
     ·rw[if_pos q,q]at h;exact absurd h (by simp)
     ·rw[QW]at q;exact q
    rw[two h']
    unfold ZaX
    rw[if_neg (by omega),if_pos e0,pm]
    exact d
   ·have:(ZaX T x p).1=p:=by unfold ZaX;rw[if_neg (by omega),if_pos e0]
    rw[this,hs]
    exact⟨by rw[e];exact hr.va,by rw[e];exact hr.po,by rw[e];exact hr.lo⟩
   ·rw[hs]
    refine⟨by show m.pl+1=_;rw[hp];omega,rfl,?_,λd hd=>?_⟩
    ·show up m.st m.sp (m.va (bv c (2*m.pl+1))) m.sp=_
     rw[Zcq,hag2,hr.va]
    ·show up m.st m.sp _ d=_
     exact Zcf (by omega)
  ·have hs:=Ze7 (c:=c) (T:=T) (m:=m) (by rw[hop2];exact e0)
   refine hmono (Zrf (a+1) m (bv (T x.v) (y.m.po x.v))) _ _ (λh m' d=>?_) (Res.ins (f:=λp=>(ZaX T x p).1) hne ho hr (λp=>by unfold ZaX;rw[if_neg (by omega),if_neg (by omega)];exact⟨rfl,rfl,rfl⟩) (λp e=>?_) ?_)
   ·have h':(payF y).ou=false:=by
     by_cases q:(payF y).ou=true
     ·rw[if_pos q,q]at h;exact absurd h (by simp)
     ·rw[QW]at q;exact q
    rw[two h']
    unfold ZaX
    rw[if_neg (by omega),if_neg (by omega),pm]
    exact d
   ·have:(ZaX T x p).1={p with m:={p.m with po:=up p.m.po x.v (p.m.po x.v+1)}}:=by unfold ZaX;rw[if_neg (by omega),if_neg (by omega)]
    rw[this,hs]
    refine⟨by show p.m.va=m.va;rw[e];exact hr.va,?_,by show p.m.lo=m.lo;rw[e];exact hr.lo⟩
    show up p.m.po x.v (p.m.po x.v+1)=up m.po (bv c (2*m.pl+1)) (m.po (bv c (2*m.pl+1))+1)
    rw[hag2,e,hr.po]
   ·rw[hs]
    refine⟨by show m.pl+1=_;rw[hp];omega,rfl,?_,λd hd=>?_⟩
    ·show up m.st m.sp (bv (T (bv c (2*m.pl+1))) (m.po (bv c (2*m.pl+1)))) m.sp=_
     rw[Zcq,hag2,hr.po]
    ·show up m.st m.sp _ d=_
     exact Zcf (by omega)
 ·have hw:=Zka (T:=T) hE hop hx y
  rw[if_pos (by omega)]at hw
  have l1:=(Zgk (c:=c) hE hX hn hm _ _ _ A1)
  have l2:=(Zgk (c:=c) hE hX hn hm _ _ _ A2 (by omega)).2
  have r1:=i1 (by omega) m y hp hr ho
  have r2:=λm1 z=>i2 (by omega) m1 z
  rw[hw]
  generalize wor T ex x.l y=p at *
  have o2:p.1.ou=true->(wor T ex x.r p.1).1=p.1:=ZmO
  have r2:=λm1=>r2 m1 p.1
  generalize wor T ex x.r p.1=q at *
  have e1:(if (payF q.1).ou=true then (payF q.1,(0:Int)) else (payF q.1,reckon x.op p.2 q.2)).1=payF q.1:=by split<;>rfl
  have e2:(payF q.1).ou=false->(if (payF q.1).ou=true then (payF q.1,(0:Int)) else (payF q.1,reckon x.op p.2 q.2)).2=reckon x.op p.2 q.2:=λh=>by rw[if_neg (by rw[h];simp)]
  rw[e1]
  refine r1.seq (λm1 h1 _ d1 rl1=>?_) (λh=>by rw[o2 h,Zbt h])
  refine(r2 m1 d1.1 rl1 h1).seq (λm2 h2 _ d2 rl2=>?_) (λh=>Zbt h)
  obtain⟨a1,a2,a3,a4⟩:=d1
  obtain⟨b1,b2,b3,b4⟩:=d2
  have hop2:bv c (2*m2.pl)=x.op:=by rw[b1];exact hI.1
  have hs:=Zbf (c:=c) (T:=T) (m:=m2) (by rw[hop2];exact hxo)
  refine(Res.pay (c:=c) (T:=T) (D:=Zrf (t+1) m (reckon x.op p.2 q.2)) (by omega) h2 rl2 (by rw[hs];exact⟨rfl,rfl,rfl⟩) ?_).mono λh m' d=>by rw[e2 h];exact d
  rw[hs]
  refine⟨by show m2.pl+1=_;rw[b1];omega,by show m2.sp-1=_;omega,?_,λd hd=>?_⟩
  ·show up m2.st (m2.sp-2) (reckon (bv c (2*m2.pl)) (m2.st (m2.sp-2)) (m2.st (m2.sp-1))) m.sp=_
   rw[show m2.sp-2=m.sp from by omega,show m2.sp-1=m1.sp from by omega,Zcq,hop2,b3,b4 m.sp (by omega),a3]
  ·show up m2.st (m2.sp-2) _ d=_
   rw[Zcf (by omega),b4 d (by omega),a4 d hd]
def AtB(b:Nat)(m:Hnd):Prop:=m.pl=b∧m.sp=0
def Zo0(c:ZB)(T:Int->ZB)(f:Py->Py)(a b:Nat):Prop:=(b:Int)<=half c->∀(m:Hnd) (y:Py),AtB a m->Rl y m->y.ou=false->Res c T y m (f y) (AtB b)
theorem ZmR{w:Py->Py×Int}{b:Py->Py}{a u t:Nat}(hK:((t+1:Nat):Int)<=half c)(hau:a<=u)(hut:u<t+1)(hw:∀(m:Hnd) (y:Py),m.pl=a->Rl y m->y.ou=false->Res c T y m (w y).1 (Zrf u m (w y).2))(ow:∀y:Py,y.ou=true->(w y).1=y)
  (hI:Ins c u 9 (t+1:Nat)) (hb:∀(m:Hnd) (y:Py),AtB (u+1) m->Rl y m->y.ou=false->Res c T y m (b y) (AtB t)) (hJ:Ins c t 8 (a:Nat)) :
  ∀(j:Nat) (v:Int) (z:Py) (m:Hnd),z.lf<j->z.ou=false->Rl z m->m.sp=0->m.pl=(if v=0 then ((t+1:Nat):Int) else ((u+1:Nat):Int))->Res c T z m (ZfL w b j v z) (AtB (t+1))
 | 0,v,z,m,h,_,_,_,_=>by omega
 | j+1,v,z,m,h,ho,hr,hs,hp=>by
  by_cases hv:v=0
  ·rw[if_pos hv]at hp
   simp only[ZfL]
   rw[if_neg (λk=>k.1 hv)]
   exact Res.refl ho hr ⟨hp,hs⟩
  ·rw[if_neg hv]at hp
   simp only[ZfL]
   rw[if_pos ⟨hv,ho⟩]
   have o1:∀q:Py,q.ou=true->ZfL w b j (w (payF q)).2 (payF (w (payF q)).1)=q:=λq h=>by
    rw[Zbt h,ow q h,Zbt h,Zbh j h]
   refine(hb m z ⟨hp,hs⟩ hr ho).seq (λm1 h1 l1 d1 rl1=>?_) (λh=>o1 _ h)
   generalize b z=z1 at *
   have s8:=Zge (c:=c) (T:=T) (m:=m1) (by rw[d1.1];exact hJ.1)
   have o2:∀q:Py,q.ou=true->ZfL w b j (w q).2 (payF (w q).1)=q:=λq h=>by rw[ow q h,Zbt h,Zbh j h]
   refine(Res.pay (D:=AtB a) (by rw[d1.1];omega) h1 rl1 (by rw[s8];exact⟨rfl,rfl,rfl⟩) (by rw[s8];exact⟨by show bv c (2*m1.pl+1)=_;rw[d1.1];exact hJ.2,d1.2⟩)).seq (λm2 h2 l2 d2 rl2=>?_) (λh=>o2 _ h)
   have lp:=ZmQ h2
   generalize payF z1=z2 at *
   refine(hw m2 z2 d2.1 rl2 h2).seq (λm3 h3 l3 d3 rl3=>?_) (λh=>by rw[Zbt h,Zbh j h])
   generalize w z2=p at *
   obtain⟨b1,b2,b3,b4⟩:=d3
   rw[d2.2]at b2 b3
   have s9:=Zdw (c:=c) (T:=T) (m:=m3) (by rw[b1];exact hI.1)
   refine(Res.pay (D:=λm'=>m'.sp=0∧m'.pl=(if p.2=0 then ((t+1:Nat):Int) else ((u+1:Nat):Int))) (by rw[b1];omega) h3 rl3 (by rw[s9];exact⟨rfl,rfl,rfl⟩) ?_).seq (λm4 h4 l4 d4 rl4=>?_) (λh=>Zbh j h)
   ·rw[s9]
    refine⟨by show m3.sp-1=0;omega,?_⟩
    show (if m3.st (m3.sp-1)=0 then bv c (2*m3.pl+1) else m3.pl+1)=_
    rw[show m3.sp-1=0 from by omega,b3,b1,hI.2]
    split<;>omega
   ·have:=ZmQ h4
    exact ZmR hK hau hut hw ow hI hb hJ j p.2 (payF p.1) m4 (by omega) h4 rl4 d4.1 d4.2
theorem Zqm(hE:Z7 ex)(hS:ZaQ ex sm)(hX:ExB n vs.length ex)(hB:∀x,x∈sm->SB n vs.length x)(hK:∀x,x∈sm->SK x)(hn:n<=6)(hm:vs.length<=8) :
  (∀i a b,b<=200->ZnF c ex sm i a b->b<=200->Zo0 c T (doe T ex sm i) a b)∧(∀l a b,b<=200->ZfP c ex sm l a b->b<=200->Zo0 c T (does T ex sm l) a b):=by
 have WR:=Zql (c:=c) (T:=T) hE hX hn hm
 have SP:=Zh6 (c:=c) hE hS hX hB hn hm
 have EP:=Zgk (c:=c) hE hX hn hm
 -- an expression,and the instruction behind it
 have two:∀(e a u:Nat) (op g:Int) (m:Hnd) (y:Py) (f:Py->Py) (D:Hnd->Prop),Zgw c ex e a u->(u:Int)<half c->Ins c u op g->AtB a m->Rl y m->y.ou=false->(∀p:Py,(f p).ou=p.ou∧(f p).lf=p.lf∧(f p).st=p.st)->
   (∀m1:Hnd,m1.pl=u->m1.sp=1->m1.st 0=(wor T ex e y).2->Rl (wor T ex e y).1 m1->D (Zy c T m1)∧∀p:Py,p.m=(wor T ex e y).1.m->Rl (f p) (Zy c T m1))->
   Res c T y m (if (payF (wor T ex e y).1).ou=true then payF (wor T ex e y).1 else f (payF (wor T ex e y).1)) D:=by
  intro e a u op g m y f D A hu hI hA hr ho hf hD
  refine(WR e a u A (by omega) m y hA.1 hr ho).seq (λm1 h1 _ d1 rl1=>?_) (λh=>by rw[Zbt h,if_pos h])
  obtain⟨b1,b2,b3,b4⟩:=d1
  rw[hA.2]at b2 b3
  obtain⟨k1,k2⟩:=hD m1 b1 (by omega) b3 rl1
  exact Res.ins (by omega) h1 rl1 hf k2 k1
 refine Zff hE hS hB hn hm (λi a b=>b<=200->Zo0 c T (doe T ex sm i) a b) (λl a b=>b<=200->Zo0 c T (does T ex sm l) a b) (λa _ h m y hA hr ho=>Res.refl ho hr hA)
  (λi l a u b A B P Q hbb h m y hA hr ho=>?_) (λi x a u hs hk A hI hbb h m y hA hr ho=>?_) (λi x a u hs hk A hI hbb h m y hA hr ho=>?_)
  (λi x a u b hs hk h2 A hI B Q hbb h m y hA hr ho=>?_) (λi x a u t b hs hk h2 A hI B hJ D Q R hbb h m y hA hr ho=>?_) (λi x a u t hs hk A hI B hJ Q hbb h m y hA hr ho=>?_)
 ·have lb:=(SP.2 l u b hbb B h).le
  have e:does T ex sm (i::l) y=does T ex sm l (doe T ex sm i y):=by
   show (if y.ou=true then y else _)=_
   rw[if_neg (by rw[ho];simp)];rfl
  rw[e]
  exact(P (by omega) (by omega) m y hA hr ho).seq (λm1 h1 _ d1 rl1=>Q hbb h m1 _ d1 rl1 h1) (λk=>ZmP l k)
 ·rw[Zgl hS hs]
  dsimp only
  rw[if_pos hk]
  refine two x.e a u 2 x.v m y (λz=>{z with m:={z.m with va:=up z.m.va x.v (wor T ex x.e y).2}}) (AtB (u+1)) A (by omega) hI hA hr ho (λ_=>⟨rfl,rfl,rfl⟩) (λm1 b1 b2 b3 rl=>?_)
  have s:=ZhR (c:=c) (T:=T) (m:=m1) (by rw[b1];exact hI.1)
  rw[s]
  refine⟨⟨by show m1.pl+1=_;omega,by show m1.sp-1=0;omega⟩,λp e=>⟨?_,by show p.m.po=m1.po;rw[e];exact rl.po,by show p.m.lo=m1.lo;rw[e];exact rl.lo⟩⟩
  show up p.m.va x.v _=up m1.va (bv c (2*m1.pl+1)) (m1.st (m1.sp-1))
  rw[b1,hI.2,b2,show (1:Int)-1=0 from rfl,b3,e,rl.va]
 ·rw[Zgl hS hs]
  dsimp only
  rw[if_neg (show ¬x.k=61 by omega),if_pos hk]
  refine two x.e a u 11 x.v m y (λz=>{z with m:={z.m with lo:=up z.m.lo x.v (z.m.lo x.v++[(wor T ex x.e y).2])}}) (AtB (u+1)) A (by omega) hI hA hr ho (λ_=>⟨rfl,rfl,rfl⟩) (λm1 b1 b2 b3 rl=>?_)
  have s:=Ze8 (c:=c) (T:=T) (m:=m1) (by rw[b1];exact hI.1)
  rw[s]
  refine⟨⟨by show m1.pl+1=_;omega,by show m1.sp-1=0;omega⟩,λp e=>⟨by show p.m.va=m1.va;rw[e];exact rl.va,by show p.m.po=m1.po;rw[e];exact rl.po,?_⟩⟩
  show up p.m.lo x.v _=up m1.lo (bv c (2*m1.pl+1)) (m1.lo (bv c (2*m1.pl+1))++[m1.st (m1.sp-1)])
  rw[b1,hI.2,b2,show (1:Int)-1=0 from rfl,b3,e,rl.lo]
 ·have lb:=(SP.2 _ _ _ hbb B h).le
  have hel:x.el=[]:=by rcases hK x (Qw hs) with ⟨e,_⟩|⟨e,_⟩|⟨_,e⟩|⟨_,e⟩<;>first|omega|exact e h2|exact e
  have Z:=two x.e a u 9 b m y (λz=>z) (λm'=>m'.sp=0∧m'.pl=(if (wor T ex x.e y).2=0 then ((b:Nat):Int) else ((u+1:Nat):Int))) A (by omega) hI hA hr ho (λ_=>⟨rfl,rfl,rfl⟩) (λm1 b1 b2 b3 rl=>by
   have s:=Zdw (c:=c) (T:=T) (m:=m1) (by rw[b1];exact hI.1)
   rw[s]
   refine⟨⟨by show m1.sp-1=0;omega,?_⟩,λp e=>⟨by rw[e];exact rl.va,by rw[e];exact rl.po,by rw[e];exact rl.lo⟩⟩
   show (if m1.st (m1.sp-1)=0 then bv c (2*m1.pl+1) else m1.pl+1)=_
   rw[b2,show (1:Int)-1=0 from rfl,b3,b1,hI.2]
   split<;>omega)
  rw[Zgl hS hs]
  dsimp only
  generalize wor T ex x.e y=p at *
  rw[ite_self]at Z
  generalize payF p.1=z at *
  refine Z.seq (λm1 h1 _ d1 rl1=>?_) (λk=>by rw[if_pos k])
  rw[if_neg (by rw[h1];simp),if_neg (by omega),if_neg (by omega),if_pos hk,h2,if_neg (show ¬(false=true) by simp)]
  by_cases hv:p.2=0
  ·rw[if_pos hv,hel]
   rw[if_pos hv]at d1
   exact Res.refl h1 rl1 ⟨d1.2,d1.1⟩
  ·rw[if_neg hv]
   rw[if_neg hv]at d1
   exact Q hbb h m1 z ⟨d1.2,d1.1⟩ rl1 h1
 ·have ld:=(SP.2 _ _ _ hbb D h).le
  have lb:=(SP.2 _ _ _ (by omega) B (by omega)).le
  have Z:=two x.e a u 9 (t+1:Nat) m y (λz=>z) (λm'=>m'.sp=0∧m'.pl=(if (wor T ex x.e y).2=0 then ((t+1:Nat):Int) else ((u+1:Nat):Int))) A (by omega) hI hA hr ho (λ_=>⟨rfl,rfl,rfl⟩) (λm1 b1 b2 b3 rl=>by
   have s:=Zdw (c:=c) (T:=T) (m:=m1) (by rw[b1];exact hI.1)
   rw[s]
   refine⟨⟨by show m1.sp-1=0;omega,?_⟩,λp e=>⟨by rw[e];exact rl.va,by rw[e];exact rl.po,by rw[e];exact rl.lo⟩⟩
   show (if m1.st (m1.sp-1)=0 then bv c (2*m1.pl+1) else m1.pl+1)=_
   rw[b2,show (1:Int)-1=0 from rfl,b3,b1,hI.2]
   split<;>omega)
  rw[Zgl hS hs]
  dsimp only
  generalize wor T ex x.e y=p at *
  rw[ite_self]at Z
  generalize payF p.1=z at *
  refine Z.seq (λm1 h1 _ d1 rl1=>?_) (λk=>by rw[if_pos k])
  rw[if_neg (by rw[h1];simp),if_neg (by omega),if_neg (by omega),if_pos hk,if_pos h2]
  by_cases hv:p.2=0
  ·rw[if_pos hv]
   rw[if_pos hv]at d1
   exact R hbb h m1 z ⟨d1.2,d1.1⟩ rl1 h1
  ·rw[if_neg hv]
   rw[if_neg hv]at d1
   refine(Q (by omega) (by omega) m1 z ⟨d1.2,d1.1⟩ rl1 h1).seq (λm2 h2 _ d2 rl2=>?_) (λk=>Zbt k)
   have s8:=Zge (c:=c) (T:=T) (m:=m2) (by rw[d2.1];exact hJ.1)
   exact Res.pay (by rw[d2.1];omega) h2 rl2 (by rw[s8];exact⟨rfl,rfl,rfl⟩) (by rw[s8];exact⟨by show bv c (2*m2.pl+1)=_;rw[d2.1];exact hJ.2,d2.2⟩)
 ·have lb:=(SP.2 _ _ _ (by omega) B (by omega)).le
  have la:=(EP _ _ _ A (by omega)).2
  have Z:=two x.e a u 9 (t+1:Nat) m y (λz=>z) (λm'=>m'.sp=0∧m'.pl=(if (wor T ex x.e y).2=0 then ((t+1:Nat):Int) else ((u+1:Nat):Int))) A (by omega) hI hA hr ho (λ_=>⟨rfl,rfl,rfl⟩) (λm1 b1 b2 b3 rl=>by
   have s:=Zdw (c:=c) (T:=T) (m:=m1) (by rw[b1];exact hI.1)
   rw[s]
   refine⟨⟨by show m1.sp-1=0;omega,?_⟩,λp e=>⟨by rw[e];exact rl.va,by rw[e];exact rl.po,by rw[e];exact rl.lo⟩⟩
   show (if m1.st (m1.sp-1)=0 then bv c (2*m1.pl+1) else m1.pl+1)=_
   rw[b2,show (1:Int)-1=0 from rfl,b3,b1,hI.2]
   split<;>omega)
  rw[Zgl hS hs]
  dsimp only
  generalize wor T ex x.e y=p at *
  rw[ite_self]at Z
  generalize payF p.1=z at *
  refine Z.seq (λm1 h1 _ d1 rl1=>?_) (λk=>by rw[if_pos k])
  rw[if_neg (by rw[h1];simp),if_neg (by omega),if_neg (by omega),if_neg (by omega)]
  exact ZmR h (by omega) (by omega) (λm y hp hr ho=>WR x.e a u A (by omega) m y hp hr ho) (λy h=>ZmO h) hI (λm y hA hr ho=>Q (by omega) (by omega) m y hA hr ho) hJ (z.lf+1) p.2 z m1 (by omega) h1 rl1 d1.1 d1.2
theorem Zow(hE:Z7 ex)(hS:ZaQ ex sm)(hX:ExB n vs.length ex)(hB:∀x,x∈sm->SB n vs.length x)(hK:∀x,x∈sm->SK x)(hn:n<=6)(hm:vs.length<=8){l:List Nat}{k:Nat}(hk:k<=200)(hc:half c=k)(A:ZfP c ex sm l 0 k)(f:Nat){z:Py}(hz:z=does T ex sm l ⟨start,0,f,false⟩) :
  endOf c T f=(if z.ou=true then 2 else 1)∧cntOf c T f=z.st∧(∀j,logOf c T f j=bs (z.m.lo j))∧(Za6 c T f start).va=z.m.va:=by
 have R:=(Zqm (c:=c) (T:=T) hE hS hX hB hK hn hm).2 l 0 k hk A hk (by omega) start ⟨start,0,f,false⟩ ⟨rfl,rfl⟩ ⟨rfl,rfl,rfl⟩ rfl
 rw[<-hz]at R
 unfold endOf cntOf logOf
 rcases R with ⟨h,j,m',g,d,r,e1,e2⟩|⟨h,m',g,d,r,e⟩
 ·have e1:z.lf+j=f:=e1
  have hd:m'.pl=half c:=by rw[d.1,hc]
  have e3:Za6 c T f start=m':=by rw[<-e1,Nat.add_comm,Zdx,g.r,Zbg hd]
  have e4:numM c T f start=j:=by rw[<-e1,Nat.add_comm,Zg1,g.n,g.r,ZaP hd];rfl
  rw[e3,e4,h,if_pos hd]
  refine⟨rfl,?_,λi=>by rw[r.lo],r.va.symm⟩
  have e2:z.st=0+(j:Int):=e2
  omega
 ·have g:Gos c T f start m':=g
  have e:z.st=0+(f:Int):=e
  rw[g.r,g.n,h,if_neg d]
  exact⟨rfl,by omega,λi=>by rw[r.lo],r.va.symm⟩
end
end Go.Proofs.YtcnbifdlkalimabGreat
