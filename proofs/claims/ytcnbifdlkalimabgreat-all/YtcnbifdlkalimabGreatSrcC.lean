/- Lemmas; their conditions stand in each. -/
import Derived.Test.YtcnbifdlkalimabGreatSrcB
import Derived.Test.YtcnbifdlkalimabGreatPlnB
namespace Go.Proofs.YtcnbifdlkalimabGreat
open Go.RowKit Go.Proofs.Tryz
set_option linter.all false
variable{n ou:Int}{ex me:List Ex}{vs:List Int}{l:List Nat}{sm:List Sm}{e m:Nat}{g:Nat->Int->List Int}{f:Nat->Int->Nat->List Sq}{r':Rd}{p:Rs}{x:Sm}{q:Tq}{T s:ZB}
def HK{α:Type}(z:α)(lf:Ex->α)(tw:α->α->α)(ex:List Ex):Nat->Nat->α
 | 0,_=>z
 | k+1,e=>match ex[e]? with
  | none=>z
  | some x=>if x.op=0∨x.op=1∨x.op=10 then lf x else tw (HK z lf tw ex k x.l) (HK z lf tw ex k x.r)
def Ec{α:Type}(z:α)(lf:Ex->α)(tw:α->α->α)(ex:List Ex)(e:Nat):α:=HK z lf tw ex (e+1) e
theorem Lf{α:Type}(z:α)(i:Ex->α)(j:α->α->α){more:List Ex}(h:BA ex):∀(k e a:Nat),e<ex.length->e<k->e<a->HK z i j (ex++more) k e=HK z i j ex a e
 | 0,e,a,_,t,_=>by omega
 | k+1,e,0,_,_,t=>by omega
 | k+1,e,a+1,o,t,v=>by
  simp only[HK];rw[QD o];obtain⟨x,u⟩:∃x,ex[e]?=some x:=⟨ex[e],Qn o⟩
  rw[u];dsimp only;by_cases b:x.op=0∨x.op=1∨x.op=10
  ·rw[if_pos b,if_pos b]
  ·rw[if_neg b,if_neg b];rcases h e x u with c|⟨c,d⟩
   ·exact absurd c b
   ·rw[Lf z i j h k x.l a (by omega) (by omega) (by omega),Lf z i j h k x.r a (by omega) (by omega) (by omega)]
theorem EJ{α:Type}(z:α)(a:Ex->α)(b:α->α->α){more:List Ex}(h:BA ex)(c:e<ex.length):Ec z a b (ex++more) e=Ec z a b ex e:=
 Lf z a b h _ _ _ c (by omega) (by omega)
theorem EM{α:Type}(z:α)(i:Ex->α)(j:α->α->α){x:Ex}(h:BA ex)(o:ex[e]?=some x) :
  Ec z i j ex e=if x.op=0∨x.op=1∨x.op=10 then i x else j (Ec z i j ex x.l) (Ec z i j ex x.r):=by
 have t:e<ex.length:=(Ql.1 o).1;unfold Ec;rw[HK,o];dsimp only;by_cases k:x.op=0∨x.op=1∨x.op=10
 ·rw[if_pos k,if_pos k]
 ·rw[if_neg k,if_neg k];rcases h e x o with c|⟨c,d⟩
  ·exact absurd c k
  ·have a:=Lf (more:=[]) z i j h e x.l (x.l+1) (by omega) c (by omega);have b:=Lf (more:=[]) z i j h e x.r (x.r+1) (by omega) d (by omega);rw[QS]at a b;rw[a,b]
theorem OI{α:Type}(z:α)(a:Ex->α)(c:α->α->α){x:Ex}(h:BA ex)(b:x.op=0∨x.op=1∨x.op=10):Ec z a c (ex++[x]) ex.length=a x:=by rw[EM z a c (h.add (.inl b)) (x:=x) (by simp),if_pos b]
theorem Pu{α:Type}(z:α)(b:Ex->α)(a:α->α->α){x:Ex}(h:BA ex)(i:¬(x.op=0∨x.op=1∨x.op=10))(c:x.l<ex.length)(d:x.r<ex.length) :
  Ec z b a (ex++[x]) ex.length=a (Ec z b a ex x.l) (Ec z b a ex x.r):=by
 rw[EM z b a (h.add (.inr ⟨c,d⟩)) (x:=x) (by simp),if_neg i,EJ z b a h c,EJ z b a h d]
def AT(ex:List Ex)(e:Nat):Int:=Ec 1 (λ_=>1) (λa b=>max a (b+1)) ex e
def FE(vs:List Int)(x:Ex):Int:=if x.op=1 then vs.getD x.v.toNat 0 else x.v
def FA(vs:List Int)(x:Ex)(j:Nat):Bool:=decide (x.op≠0)&&decide ((j:Int)=FE vs x)
def Bh(vs:List Int)(ex:List Ex)(e:Nat)(j:Nat):Bool:=Ec false (λx=>FA vs x j) (λa b=>a||b) ex e
def FY(x:Ex)(j:Nat):Bool:=decide (x.op=10)&&decide ((j:Int)=x.v)
def AY(ex:List Ex)(e:Nat)(j:Nat):Bool:=Ec false (λx=>FY x j) (λa b=>a||b) ex e
theorem Lg(ex:List Ex)(e:Nat):1<=AT ex e:=by
 have c:∀k e,1<=HK (1:Int) (λ_=>1) (λa b=>max a (b+1)) ex k e:=by
  intro k;induction k with
  | zero=>intro e;exact QP _
  | succ k d=>
   intro e;simp only[HK];split
   ·exact QP _
   ·split
    ·exact QP _
    ·have:=d ‹Ex›.l;omega
 exact c _ _
def XB(n:Int)(m:Nat)(x:Ex):Prop:=(x.op=0∧0<=x.v∧x.v<=255)∨(x.op=1∧0<=x.v∧x.v<m)∨(x.op=10∧0<=x.v∧x.v<n)∨(3<=x.op∧x.op<=7)
def Dw(n:Int)(m:Nat)(ex:List Ex):Prop:=∀x,x∈ex->XB n m x
theorem Dw.add(h:Dw n m ex){x:Ex}(b:XB n m x):Dw n m (ex++[x]):=by
 intro y a;rw[QI,QA]at a;rcases a with c|c
 ·exact h y c
 ·rw[c];exact b
structure Ma(x:Tq×Sq)(p:Rs)(y:Tq×Sq)(z:Rs×Nat):Prop where
 h:y.1.h=x.1.h+1
 hi:y.1.hi=max x.1.hi (x.1.h+AT z.1.ex z.2)
 nd:∀e,p.ex.length<=e->e<z.1.ex.length->AT z.1.ex e<=AT z.1.ex z.2
 rd:∀j,y.2.rd j=(x.2.rd j||Bh p.vs z.1.ex z.2 j)
 tp:∀j,y.2.tp j=(x.2.tp j||AY z.1.ex z.2 j)
 k:y.2.k=x.2.k
 pl:y.2.pl=x.2.pl
 ou:y.2.ou=x.2.ou
 ta:y.2.ta=x.2.ta
 eb:1<=p.n->p.ls.length=p.vs.length->Dw p.n p.vs.length p.ex->Dw p.n p.vs.length z.1.ex
def IH(x:Tq×Sq)(p:Rs)(y:Tq×Sq)(z:Rs×Nat):Prop:=z.1.r.er=0->BA p.ex->Ma x p y z
theorem Pv{r:Rd}(a:1<=n):0<=AW s r 0 (n-1)∧AW s r 0 (n-1)<n:=by
 unfold AW Eo;split
 ·have:=QB ‹_›;omega
 ·omega
theorem TM{r:Rd}{a:List Int}(h:CW s r a=true):varI s r a<a.length:=by unfold varI;rw[if_pos h];unfold CW at h;exact QB (Qr _ _ ▸ h:_∧_).2
theorem Pw(m:Nat->Bool)(v:Int)(j:Nat):Eb m v j=(m j||decide ((j:Int)=v)):=by
 unfold Eb;by_cases h:(j:Int)=v
 ·rw[if_pos h,Qv h,Bool.or_true]
 ·rw[if_neg h,Qx h,Bool.or_false]
theorem Pz{x:Tq×Sq}{r:Rd}{op v:Int}{n:Ex}{m m':Nat->Bool}(d:n.op=0∨n.op=1∨n.op=10)(u:op=n.op)(o:BA p.ex)(y:∀j,m j=(x.2.rd j||FA p.vs n j))(z:∀j,m' j=(x.2.tp j||FY n j))(t:1<=p.n->p.ls.length=p.vs.length->XB p.n p.vs.length n) :
  Ma x p (Ad {x.1 with r:=r} op v,{x.2 with rd:=m,tp:=m'}) (Cl p r' n):=by
 have i:Ar op=1∧Aj op=0:=by subst u;rcases d with h|h|h<;>rw[h]<;>exact⟨rfl,rfl⟩
 have w:AT (p.ex++[n]) p.ex.length=1:=OI _ _ _ o d;refine⟨?_,?_,?_,λj=>?_,λj=>?_,rfl,rfl,rfl,rfl,λa b c=>c.add (t a b)⟩
 ·show x.1.h+Ar op-Aj op=_;rw[i.1,i.2];omega
 ·show max x.1.hi (x.1.h+Ar op-Aj op)=max x.1.hi (x.1.h+AT (p.ex++[n]) p.ex.length);rw[i.1,i.2,w];omega
 ·intro e A k;have k:e<(p.ex++[n]).length:=k;rw[Qe,Qt,Qy]at k;have:e=p.ex.length:=by omega
  rw[this];exact QP _
 ·show m j=(x.2.rd j||Ec false (λx=>FA p.vs x j) (λa b=>a||b) (p.ex++[n]) p.ex.length)
  rw[OI _ _ _ o d];exact y j
 ·show m' j=(x.2.tp j||Ec false (λx=>FY x j) (λa b=>a||b) (p.ex++[n]) p.ex.length)
  rw[OI _ _ _ o d];exact z j
theorem Vf(s:ZB)(k:Nat)(B:∀(x:Tq×Sq) (p:Rs),Ag x.1 p->Ah s p.r<k->IH x p (AI s k x) (AR s k p))(x:Tq×Sq)(p:Rs)(c:Ag x.1 p)(C:Ah s p.r<=k) :
  IH x p (Bj s (AI s k) x) (Ba s (AR s k) p):=by
 have A:=c.r;unfold Bj Ba;rw[A];by_cases o:48<=Ae s p.r∧Ae s p.r<=57
 ·rw[if_pos o,if_pos o];intro h d;exact Pz (m:=x.2.rd) (m':=x.2.tp) (.inl rfl) rfl d (λj=>by simp[FA]) (λj=>by simp[FY]) (λ_ _=>.inl ⟨rfl,TU _ _ _ (by omega) (by omega)⟩)
 ·rw[if_neg o,if_neg o];by_cases i:Ae s p.r=36
  ·rw[if_pos i,if_pos i];have u:tk s (Aa s p.r) 36=nx (Aa s p.r):=by rw[<-i];exact Ew (by omega)
   unfold Jq;dsimp only;rw[u,c.n];intro h d;have:=Pz (x:=x) (p:=p) (r:=An s (nx (Aa s p.r)) 0 (p.n-1)) (r':=An s (nx (Aa s p.r)) 0 (p.n-1)) (op:=10) (v:=AW s (nx (Aa s p.r)) 0 (p.n-1)) (n:=⟨10,AW s (nx (Aa s p.r)) 0 (p.n-1),0,0⟩) (m:=Eb x.2.rd (AW s (nx (Aa s p.r)) 0 (p.n-1))) (m':=Eb x.2.tp (AW s (nx (Aa s p.r)) 0 (p.n-1))) (.inr (.inr rfl)) rfl d (λj=>by rw[Pw];simp[FA,FE]) (λj=>by rw[Pw];simp[FY]) (λa _=>.inr (.inr (.inl ⟨rfl,Pv a⟩)));exact⟨this.h,this.hi,this.nd,this.rd,this.tp,rfl,rfl,rfl,rfl,this.eb⟩
  ·rw[if_neg i,if_neg i];by_cases t:Ae s p.r=40
   ·rw[if_pos t,if_pos t];have D:=ZR (s:=s) (r:=p.r) (by omega);have w:=B ({x.1 with r:=nx (Aa s p.r)},x.2) {p with r:=nx (Aa s p.r)} ⟨rfl,c.n,c.ls,c.vs⟩ (by show Ah s (nx (Aa s p.r))<k;omega);generalize AI s k ({x.1 with r:=nx (Aa s p.r)},x.2)=y at *;generalize AR s k {p with r:=nx (Aa s p.r)}=z at *;intro h d;have H:=w (DJ h) d;exact⟨H.h,H.hi,H.nd,H.rd,H.tp,H.k,H.pl,H.ou,H.ta,H.eb⟩
   ·rw[if_neg t,if_neg t];unfold Jr;dsimp only;rw[GN,Lm,c.ls];intro h d;have:=Pz (x:=x) (p:=p) (r:=AD s p.r p.ls) (r':=AD s p.r p.ls) (op:=1) (v:=varI s p.r p.ls) (n:=⟨1,varI s p.r p.ls,0,0⟩) (m:=Eb x.2.rd (BN x.1 (varI s p.r p.ls))) (m':=x.2.tp) (.inr (.inl rfl)) rfl d (λj=>by rw[Pw];unfold FA FE BN;rw[c.vs];simp) (λj=>by simp[FY]) (λ_ b=>.inr (.inl ⟨rfl,by have:=TM (LA h).2;constructor<;>dsimp only<;>omega⟩));exact⟨this.h,this.hi,this.nd,this.rd,this.tp,rfl,rfl,rfl,rfl,this.eb⟩
theorem Vg(s:ZB)(K:Nat)(I:Tq×Sq->Tq×Sq)(tp:Rs->Rs×Nat)(hT:∀(x:Tq×Sq) (p:Rs),Ag x.1 p->Ah s p.r<=K->Hm s x p (I x) (tp p)∧IH x p (I x) (tp p)) :
  ∀(k:Nat) (v:Tq×Sq) (i:Rs) (x:Tq×Sq) (z:Rs×Nat),Ag v.1 i->Ah s i.r<=K->Hm s v i x z->IH v i x z->IH v i (BB s I k x) (BV s tp k z)
 | 0,v,i,x,z,W,hK,t,O=>by intro h B;have H:=O (by rw[<-Zl s];exact h) B;exact⟨H.h,H.hi,H.nd,H.rd,H.tp,H.k,H.pl,H.ou,H.ta,H.eb⟩
 | k+1,v,i,x,z,W,hK,t,O=>by
  simp only[BB,BV];rw[t.r];by_cases L:AK (Ae s z.1.r)=0
  ·rw[if_pos L,if_pos L];intro h B;have H:=O (by rw[<-Zl s];exact h) B;exact⟨H.h,H.hi,H.nd,H.rd,H.tp,H.k,H.pl,H.ou,H.ta,H.eb⟩
  ·rw[if_neg L,if_neg L];have hp:=Ib L;have ht:=ZR (s:=s) (r:=z.1.r) hp.1;have C:=W.go t.fq t.fp t.r;have ad:=t.le;obtain⟨o,X⟩:=hT ({x.1 with r:=nx (Aa s z.1.r)},x.2) {z.1 with r:=nx (Aa s z.1.r)} ⟨rfl,C.n,C.ls,C.vs⟩ (by show Ah s (nx (Aa s z.1.r))<=K;omega);refine Vg s K I tp hT k v i _ _ W hK ?_ ?_
   ·have c:Ah s ({z.1 with r:=nx (Aa s z.1.r)}:Rs).r=Ah s (nx (Aa s z.1.r)):=rfl;have aa:=o.le;generalize AK (Ae s z.1.r)=d at *;generalize I ({x.1 with r:=nx (Aa s z.1.r)},x.2)=y at *;generalize tp {z.1 with r:=nx (Aa s z.1.r)}=u at *;refine⟨o.r,by show Ah s u.1.r<=_;omega,λh=>?_,?_,o.ss.trans t.ss,?_,o.sm.trans t.sm,λh B=>?_⟩
    ·have:=o.bad h;have:(nx (Aa s z.1.r)).er=0:=this;rw[EZ,Zl]at this;exact t.bad this
    ·exact t.fq.trans ⟨o.fq.n,o.fq.pn,o.fq.pr,o.fq.ls,o.fq.vs⟩
    ·exact t.fp.trans ⟨o.fp.n,o.fp.ls,o.fp.vs⟩
    ·have N:z.1.r.er=0:=by have:=o.bad h;have:(nx (Aa s z.1.r)).er=0:=this;rw[EZ,Zl]at this;exact this
     obtain⟨m1,e1,A,M,c1⟩:=t.ok N B;obtain⟨R,w,E,F,c2⟩:=o.ok h A;have w:u.1.ex=z.1.ex++R:=w;have G:z.2<u.1.ex.length:=by rw[w,Qe];omega
     refine⟨m1++R++[⟨d,0,z.2,u.2⟩],?_,E.add (.inr ⟨G,F⟩),by simp[Cl],?_⟩
     ·show u.1.ex++[_]=_;rw[w,e1];simp
     ·show y.1.cd++_=v.1.cd++AQ (u.1.ex++[_]) u.1.ex.length;rw[UT E (by show ¬(d=0∨d=1∨d=10);omega) G F,c2];show x.1.cd++AQ u.1.ex u.2++[d,0%256]=_;rw[c1,show AQ u.1.ex z.2=AQ z.1.ex z.2 from by rw[w];exact Nb A M];rw[show d%256=d from by omega];simp
   ·generalize AK (Ae s z.1.r)=d at *;generalize I ({x.1 with r:=nx (Aa s z.1.r)},x.2)=y at *;generalize tp {z.1 with r:=nx (Aa s z.1.r)}=u at *;intro h B;have N:z.1.r.er=0:=by have:=o.bad h;have:(nx (Aa s z.1.r)).er=0:=this;rw[EZ,Zl]at this;exact this
    obtain⟨m1,e1,A,M,c1⟩:=t.ok N B;obtain⟨R,w,E,F,c2⟩:=o.ok h A;have w:u.1.ex=z.1.ex++R:=w;have G:z.2<u.1.ex.length:=by rw[w,Qe];omega
    have H:=O N B;have J:=X h A;have D:¬(d=0∨d=1∨d=10):=by omega
    have Q:Ar d=1∧Aj d=2:=by rcases(show d=3∨d=4∨d=5∨d=6∨d=7 from by omega) with c|c|c|c|c<;>rw[c]<;>exact⟨rfl,rfl⟩
    have n1:AT u.1.ex z.2=AT z.1.ex z.2:=by rw[w];exact EJ _ _ _ A M
    have Y:AT (u.1.ex++[⟨d,0,z.2,u.2⟩]) u.1.ex.length=max (AT z.1.ex z.2) (AT u.1.ex u.2+1):=by rw[<-n1];exact Pu _ _ _ E D G F
    have jh:y.1.h=x.1.h+1:=J.h;have ae:y.1.hi=max x.1.hi (x.1.h+AT u.1.ex u.2):=J.hi;have hh:=H.h;have ab:=H.hi;refine⟨?_,?_,?_,λj=>?_,λj=>?_,J.k.trans H.k,J.pl.trans H.pl,J.ou.trans H.ou,J.ta.trans H.ta,λa b c=>?_⟩
    ·show y.1.h+Ar d-Aj d=_;rw[Q.1,Q.2];omega
    ·show max y.1.hi (y.1.h+Ar d-Aj d)=max v.1.hi (v.1.h+AT (u.1.ex++[⟨d,0,z.2,u.2⟩]) u.1.ex.length);have:=Lg u.1.ex u.2;have:=Lg z.1.ex z.2;rw[Q.1,Q.2,Y];omega
    ·intro e h1 V;have V:e<(u.1.ex++[(⟨d,0,z.2,u.2⟩:Ex)]).length:=V;show AT (u.1.ex++[⟨d,0,z.2,u.2⟩]) e<=AT (u.1.ex++[⟨d,0,z.2,u.2⟩]) u.1.ex.length;rw[Qe,Qt,Qy]at V;rw[Y];by_cases P:e=u.1.ex.length
     ·rw[P,Y];exact QP _
     ·have P:e<u.1.ex.length:=by omega
      rw[show AT (u.1.ex++[⟨d,0,z.2,u.2⟩]) e=AT u.1.ex e from EJ _ _ _ E P];by_cases hz:e<z.1.ex.length
      ·have:=H.nd e h1 hz;rw[show AT u.1.ex e=AT z.1.ex e from by rw[w];exact EJ _ _ _ A hz];omega
      ·have:=J.nd e (by show z.1.ex.length<=e;omega) P;omega
    ·show y.2.rd j=(v.2.rd j||Ec false (λx=>FA i.vs x j) (λa b=>a||b) (u.1.ex++[⟨d,0,z.2,u.2⟩]) u.1.ex.length)
     rw[Pu _ _ _ E D G F];have a:y.2.rd j=(x.2.rd j||Bh z.1.vs u.1.ex u.2 j):=J.rd j;have b:=H.rd j;rw[a,b,show z.1.vs=i.vs from t.fp.vs];show (v.2.rd j||Bh i.vs z.1.ex z.2 j||Bh i.vs u.1.ex u.2 j)=(v.2.rd j||(Bh i.vs u.1.ex z.2 j||Bh i.vs u.1.ex u.2 j))
     rw[show Bh i.vs u.1.ex z.2 j=Bh i.vs z.1.ex z.2 j from by rw[w];exact EJ _ _ _ A M,Bool.or_assoc]
    ·show y.2.tp j=(v.2.tp j||Ec false (λx=>FY x j) (λa b=>a||b) (u.1.ex++[⟨d,0,z.2,u.2⟩]) u.1.ex.length)
     rw[Pu _ _ _ E D G F];have a:y.2.tp j=(x.2.tp j||AY u.1.ex u.2 j):=J.tp j;have b:=H.tp j;rw[a,b];show (v.2.tp j||AY z.1.ex z.2 j||AY u.1.ex u.2 j)=(v.2.tp j||(AY u.1.ex z.2 j||AY u.1.ex u.2 j))
     rw[show AY u.1.ex z.2 j=AY z.1.ex z.2 j from by rw[w];exact EJ _ _ _ A M,Bool.or_assoc]
    ·have S:z.1.n=i.n:=t.fp.n;have U:z.1.vs=i.vs:=t.fp.vs;have el:z.1.ls=i.ls:=t.fp.ls;have E1:=H.eb a b c;have Z:Dw z.1.n z.1.vs.length u.1.ex:=J.eb (by show 1<=z.1.n;rw[S];exact a) (by show z.1.ls.length=z.1.vs.length;rw[el,U];exact b) (by show Dw z.1.n z.1.vs.length z.1.ex;rw[S,U];exact E1);rw[S,U]at Z;exact Z.add (.inr (.inr (.inr (by show 3<=d∧d<=7;omega))))
theorem PA(s:ZB):∀(k:Nat) (x:Tq×Sq) (p:Rs),Ag x.1 p->Ah s p.r<k->IH x p (AI s k x) (AR s k p)
 | 0,x,p,a,b=>by omega
 | k+1,x,p,a,b=>by simp only[AI,AR];exact Vg s k _ _ (λx p a b=>⟨IV s k (Ie s k) x p a b,Vf s k (PA s k) x p a b⟩) k x p _ _ a (by omega) (IV s k (Ie s k) x p a (by omega)) (Vf s k (PA s k) x p a (by omega))
theorem PQ(s:ZB)(x:Tq×Sq)(p:Rs)(a:Ag x.1 p):IH x p (Cb s x) (CJ s p):=
 PA s _ x p a (by have:=Z5 s p.r;omega)
def Ch(f:Nat->Int->Nat->List Sq):List Nat->Int->Nat->List Sq
 | [],_,_=>[]
 | n::l,ou,b=>f n ou b++Ch f l ou (b+(f n ou b).length)
def Em(vs:List Int)(ex:List Ex)(x:Sm)(ou:Int):Sq:=
 ⟨if x.k=61 then 1 else if x.k=62 then 2 else if x.k=63 then 3 else 4,x.a,ou,if x.k=61 then vs.getD x.v.toNat 0 else if x.k=62 then x.v else 0,Bh vs ex x.e,AY ex x.e⟩
def CK(vs:List Int)(ex:List Ex)(sm:List Sm):Nat->Nat->Int->Nat->List Sq
 | 0,_,_,_=>[]
 | k+1,n,ou,b=>match sm[n]? with
  | none=>[]
  | some x=>Em vs ex x ou::(Ch (CK vs ex sm k) x.bo b (b+1)++Ch (CK vs ex sm k) x.el b (b+1+(Ch (CK vs ex sm k) x.bo b (b+1)).length))
def fl(vs:List Int)(ex:List Ex)(sm:List Sm)(n:Nat)(ou:Int)(b:Nat):List Sq:=CK vs ex sm (n+1) n ou b
def CL(vs:List Int)(ex:List Ex)(sm:List Sm)(l:List Nat)(ou:Int)(b:Nat):List Sq:=Ch (fl vs ex sm) l ou b
theorem Px(f:Nat->Int->Nat->List Sq)(n:Nat)(ou:Int):∀(l:List Nat) (b:Nat),Ch f (l++[n]) ou b=Ch f l ou b++f n ou (b+(Ch f l ou b).length)
 | [],b=>by simp[Ch]
 | m::l,b=>by simp only[Ch,Uj];rw[Px f n ou l _,QE,Qe,Uv]
theorem KT{g:Nat->Int->Nat->List Sq}(ou:Int):∀(l:List Nat) (b:Nat),(∀n,n∈l->∀b,f n ou b=g n ou b)->Ch f l ou b=Ch g l ou b
 | [],b,h=>rfl
 | m::l,b,h=>by simp only[Ch];rw[h m (by simp) b,KT ou l _ (λn a=>h n (by simp[a]))]
theorem ZoR(a:BA ex)(b:x.e<ex.length):Em vs (ex++me) x ou=Em vs ex x ou:=by unfold Em;rw[show Bh vs (ex++me) x.e=Bh vs ex x.e from funext λj=>EJ _ _ _ a b,show AY (ex++me) x.e=AY ex x.e from funext λj=>EJ _ _ _ a b]
theorem Ng{ms:List Sm}(i:BA ex)(j:BY ex sm):∀(k n a:Nat) (ou:Int) (b:Nat),n<sm.length->n<k->n<a->CK vs (ex++me) (sm++ms) k n ou b=CK vs ex sm a n ou b
 | 0,n,a,ou,b,_,u,_=>by omega
 | k+1,n,0,ou,b,_,_,u=>by omega
 | k+1,n,a+1,ou,b,t,u,A=>by
  simp only[CK];rw[QD t];obtain⟨x,v⟩:∃x,sm[n]?=some x:=⟨sm[n],Qn t⟩
  obtain⟨z,o,r⟩:=j n x v;rw[v];dsimp only;rw[ZoR i z];have w:∀c d,Ch (CK vs (ex++me) (sm++ms) k) x.bo c d=Ch (CK vs ex sm a) x.bo c d:=λc d=>KT _ _ _ λm h b=>Ng i j k m a _ b (by have:=o m h;omega) (by have:=o m h;omega) (by have:=o m h;omega);have y:∀c d,Ch (CK vs (ex++me) (sm++ms) k) x.el c d=Ch (CK vs ex sm a) x.el c d:=λc d=>KT _ _ _ λm h b=>Ng i j k m a _ b (by have:=r m h;omega) (by have:=r m h;omega) (by have:=r m h;omega)
  rw[w,y]
theorem TN{ms:List Sm}{b:Nat}(a:BA ex)(c:BY ex sm)(d:∀n,n∈l->n<sm.length):CL vs (ex++me) (sm++ms) l ou b=CL vs ex sm l ou b:=
 KT _ _ _ λn h b=>Ng a c _ _ _ _ _ (d n h) (by omega) (by omega)
theorem Mo.fls{z:Rs}(h:Mo p z)(d:BA p.ex)(i:BY p.ex p.sm)(vs:List Int)(j:∀n,n∈l->n<p.sm.length)(ou:Int)(b:Nat):Go.Proofs.YtcnbifdlkalimabGreat.CL vs z.ex z.sm l ou b=Go.Proofs.YtcnbifdlkalimabGreat.CL vs p.ex p.sm l ou b:=by obtain⟨k,a⟩:=h.ex;obtain⟨o,c⟩:=h.sm;rw[a,c];exact TN d i j
theorem Zs6{n:Nat}(o:BA ex)(i:BY ex sm)(h:sm[n]?=some x)(ou:Int)(b:Nat) :
  fl vs ex sm n ou b=Em vs ex x ou::(CL vs ex sm x.bo b (b+1)++CL vs ex sm x.el b (b+1+(CL vs ex sm x.bo b (b+1)).length)):=by
 have u:n<sm.length:=(Ql.1 h).1;obtain⟨v,r,t⟩:=i n x h;have a:∀(l:List Nat) (c:Int) (d:Nat),(∀m,m∈l->m<n)->Ch (CK vs ex sm n) l c d=CL vs ex sm l c d:=λl c d j=>KT _ _ _ λm k b=>by have:=Ng (vs:=vs) (me:=[]) (ms:=[]) o i n m (m+1) c b (by have:=j m k;omega) (j m k) (by omega);rw[QS,QS]at this;exact this
 unfold fl;rw[CK,h];dsimp only;rw[a _ _ _ r,a _ _ _ t]
theorem LR(i:BA ex)(j:BY ex sm)(r:x.e<ex.length)(k:∀m,m∈x.bo->m<sm.length)(o:∀m,m∈x.el->m<sm.length)(ou:Int)(b:Nat) :
  fl vs ex (sm++[x]) sm.length ou b=Em vs ex x ou::(CL vs ex sm x.bo b (b+1)++CL vs ex sm x.el b (b+1+(CL vs ex sm x.bo b (b+1)).length)):=by
 rw[Zs6 i (j.add r k o) (x:=x) (by simp)];have a:∀(l:List Nat) (c:Int) (d:Nat),(∀m,m∈l->m<sm.length)->CL vs ex (sm++[x]) l c d=CL vs ex sm l c d:=λl c d h=>by have:=TN (vs:=vs) (me:=[]) (ms:=[x]) (ou:=c) (b:=d) i j h;rw[QS]at this;exact this
 rw[a _ _ _ k,a _ _ _ o]
def SB(n:Int)(m:Nat)(x:Sm):Prop:=(x.k=61∧0<=x.v∧x.v<m)∨(x.k=62∧0<=x.v∧x.v<n)∨x.k=63∨x.k=64
structure Jn(s:ZB)(q:Tq)(p:Rs):Prop where
 le:q.r.a<=s.size
 ev:q.cd.length%2=0
 h:q.h=0
 h0:0<=q.hi
 nd:∀e,e<p.ex.length->AT p.ex e<=q.hi
 hi:q.hi=0∨∃e,e<p.ex.length∧q.hi=AT p.ex e
 eb:Dw p.n p.vs.length p.ex
 sb:∀x,x∈p.sm->SB p.n p.vs.length x
 srt:q.ss.Pairwise λa b=>a.pl<=b.pl
 pl:∀x,x∈q.ss->x.pl<=q.r.a
 n1:1<=p.n
 ll:p.ls.length=p.vs.length
theorem Jn.r(H:Jn s q p){r:Rd}(b:q.r.a<=r.a)(c:r.a<=s.size):Jn s {q with r:=r} {p with r:=r'}:=
 ⟨c,H.ev,H.h,H.h0,H.nd,H.hi,H.eb,H.sb,H.srt,λx d=>by have:=H.pl x d;have:(q.r.a:Int)<=r.a:=Int.ofNat_le.2 b;show x.pl<=(r.a:Int);omega,H.n1,H.ll⟩
theorem Jn.aim(H:Jn s q p)(z:Nat):Jn s (Bd q z) p:=
 ⟨H.le,by show (q.cd.set _ _).length%2=0;rw[Um];exact H.ev,H.h,H.h0,H.nd,H.hi,H.eb,H.sb,H.srt,H.pl,H.n1,H.ll⟩
theorem Jn.jump(H:Jn s q p)(v:Int):Jn s (Ad q 8 v) p:=by
 have a:max q.hi (q.h+Ar 8-Aj 8)=q.hi:=by rw[H.h,show Ar 8=0 from rfl,show Aj 8=0 from rfl];have:=H.h0;omega
 have b:q.h+Ar 8-Aj 8=0:=by rw[H.h];rfl
 refine⟨H.le,?_,b,?_,?_,?_,H.eb,H.sb,H.srt,H.pl,H.n1,H.ll⟩
 ·show (q.cd++[8,v%256]).length%2=0;rw[Qe];have:=H.ev;simp only[Qt,Qy];omega
 ·show 0<=max q.hi _;rw[a];exact H.h0
 ·intro e c;show _<=max q.hi _;rw[a];exact H.nd e c
 ·show max q.hi _=0∨_;rw[show (Ad q 8 v).hi=max q.hi (q.h+Ar 8-Aj 8) from rfl,a];exact H.hi
theorem Jn.sto(H:Jn s q p){r:Rd}(b:SB p.n p.vs.length x):Jn s q (Dl p r x).1:=
 ⟨H.le,H.ev,H.h,H.h0,H.nd,H.hi,H.eb,λy a=>by
  have a:y∈p.sm++[x]:=a;rw[QI,QA]at a;rcases a with c|c
  ·exact H.sb y c
  ·rw[c];exact b,H.srt,H.pl,H.n1,H.ll⟩
theorem OJ{r:Rd}(h:Ah s r'<=Ah s r)(b:r.er=0)(c:r'.er=0)(d:r.a<=s.size):r.a<=r'.a:=by unfold Ah at h;rw[if_pos b,if_pos c]at h;omega
theorem Jn.put(H:Jn s q p){t r:Rd}{x:Sq}{y:Tq×Sq}{z:Rs×Nat}(i:Hm s ({q with r:=t},x) {p with r:=t} y z)(d:Ma ({q with r:=t},x) {p with r:=t} y z)
  (Q:z.1.r.er=0) (D:BA p.ex) {op v:Int} (G:Ar op=0) (I:Aj op=1) (F:(q.r.a:Int)<=x.pl) (P:x.pl<=r.a) (O:r.a<=s.size):Jn s (Ad (Ax {y.1 with r:=r} y.2) op v) z.1:=by
 obtain⟨m,j,Y,R,u⟩:=i.ok Q D;have j:z.1.ex=p.ex++m:=j;have u:y.1.cd=q.cd++AQ z.1.ex z.2:=u;have B:z.1.n=p.n:=i.fp.n;have C:z.1.vs=p.vs:=i.fp.vs;have K:z.1.ls=p.ls:=i.fp.ls;have U:y.1.h=q.h+1:=d.h;have N:y.1.hi=max q.hi (q.h+AT z.1.ex z.2):=d.hi;have X:=H.h;have S:=H.h0;have W:=Lg z.1.ex z.2;have k:y.1.ss=q.ss:=i.ss;have A:max y.1.hi (y.1.h+Ar op-Aj op)=max q.hi (AT z.1.ex z.2):=by rw[G,I];omega
 refine⟨O,?_,?_,?_,?_,?_,?_,?_,?_,?_,?_,?_⟩
 ·show (y.1.cd++[op,v%256]).length%2=0;have:=JV z.1.ex z.2;have:=H.ev;rw[u];simp only[Qe,Qt,Qy];omega
 ·show y.1.h+Ar op-Aj op=0;rw[G,I];omega
 ·show 0<=max y.1.hi (y.1.h+Ar op-Aj op);rw[A];omega
 ·intro e E;show AT z.1.ex e<=max y.1.hi (y.1.h+Ar op-Aj op);rw[A];by_cases F:e<p.ex.length
  ·have:=H.nd e F;rw[show AT z.1.ex e=AT p.ex e from by rw[j];exact EJ _ _ _ D F];omega
  ·have:=d.nd e (by show p.ex.length<=e;omega) E;omega
 ·show max y.1.hi (y.1.h+Ar op-Aj op)=0∨∃e,e<z.1.ex.length∧max y.1.hi (y.1.h+Ar op-Aj op)=AT z.1.ex e;rw[A];by_cases V:q.hi<=AT z.1.ex z.2
  ·exact .inr ⟨z.2,R,by omega⟩
  ·rcases H.hi with c|⟨e,E,c⟩
   ·omega
   ·refine .inr ⟨e,by rw[j,Qe];omega,?_⟩;rw[show AT z.1.ex e=AT p.ex e from by rw[j];exact EJ _ _ _ D E];omega
 ·rw[B,C];exact d.eb H.n1 H.ll H.eb
 ·have L:z.1.sm=p.sm:=i.sm;rw[B,C,L];exact H.sb
 ·show (y.1.ss++[y.2]).Pairwise _;rw[k,List.pairwise_append];refine⟨H.srt,List.pairwise_singleton _ _,λa M b J=>?_⟩;rw[QA]at J;have:=H.pl a M;rw[J,d.pl];show a.pl<=x.pl;omega
 ·intro w o;have o:w∈y.1.ss++[y.2]:=o;rw[k,QI,QA]at o;show w.pl<=(r.a:Int)
  rcases o with c|c
  ·have:=H.pl w c;omega
  ·rw[c,d.pl];exact P
 ·rw[B];exact H.n1
 ·rw[K,C];exact H.ll
theorem Ma.sq{x y:Tq×Sq}{z:Rs×Nat}(H:Ma x p y z)(o:x.2.rd=none6)(r:x.2.tp=none6):y.2=⟨x.2.k,x.2.pl,x.2.ou,x.2.ta,Bh p.vs z.1.ex z.2,AY z.1.ex z.2⟩:=by
 have h:y.2.rd=Bh p.vs z.1.ex z.2:=funext λj=>by rw[H.rd j,o];simp[none6]
 have i:y.2.tp=AY z.1.ex z.2:=funext λj=>by rw[H.tp j,r];simp[none6]
 have a:=H.k;have b:=H.pl;have c:=H.ou;have d:=H.ta;obtain⟨B,t⟩:=y;obtain⟨k,u,ou,w,v,A⟩:=t;dsimp only at *;subst a;subst b;subst c;subst d;subst h;subst i;rfl
def FZ(s:ZB)(ou:Int)(q:Tq)(p:Rs)(y:Tq)(z:Rs×Nat):Prop:=
 z.1.r.er=0->BA p.ex->BY p.ex p.sm->Jn s q p->Mo p z.1∧z.2<z.1.sm.length∧Jn s y z.1∧y.ss=q.ss++fl p.vs z.1.ex z.1.sm z.2 ou q.ss.length
def Kt(s:ZB)(ou:Int)(q:Tq)(p:Rs)(y:Tq)(z:Rs×List Nat):Prop:=
 z.1.r.er=0->BA p.ex->BY p.ex p.sm->Jn s q p->Mo p z.1∧(∀n,n∈z.2->n<z.1.sm.length)∧Jn s y z.1∧y.ss=q.ss++CL p.vs z.1.ex z.1.sm z.2 ou q.ss.length
theorem Zs7(s:ZB)(ou:Int)(q:Tq)(p:Rs)(b:Ag q p)(G:Gp s p):FZ s ou q p (Fw s q ⟨0,(p.r.a:Nat),ou,0,none6,none6⟩) (Hi s p p.r.a):=by
 have L:=(Ud s q p ⟨0,(p.r.a:Nat),ou,0,none6,none6⟩ p.r.a b).2;intro h A K J;obtain⟨M,u,_⟩:=L h A K J.ev;refine⟨M,u,?_⟩;clear M u L;revert h;unfold Fw Hi;dsimp only;obtain⟨d,i⟩:∃d,tk s (AD s p.r p.ls) 61=d:=⟨_,rfl⟩
 obtain⟨j,t⟩:∃j,varI s p.r p.ls=j:=⟨_,rfl⟩
 rw[show tk s (AD s q.r q.ls) 61=d from by rw[b.r,b.ls];exact i,show varI s q.r q.ls=j from by rw[b.r,b.ls];exact t,i,t];have o:=Gl s ({q with r:=d},{k:=1,pl:=(p.r.a:Nat),ou:=ou,ta:=BN q j,rd:=none6,tp:=none6}) {p with r:=d} ⟨rfl,b.n,b.ls,b.vs⟩;have U:=PQ s ({q with r:=d},{k:=1,pl:=(p.r.a:Nat),ou:=ou,ta:=BN q j,rd:=none6,tp:=none6}) {p with r:=d} ⟨rfl,b.n,b.ls,b.vs⟩;have N:d.a<=s.size:=by rw[<-i];exact Z4 (Ik G.le) (by omega)
 have O:=Fv (s:=s) (G.r N);generalize Cb s ({q with r:=d},{k:=1,pl:=(p.r.a:Nat),ou:=ou,ta:=BN q j,rd:=none6,tp:=none6})=y at *;generalize CJ s {p with r:=d}=z at *;intro h;have B:z.1.r.er=0:=DJ h;obtain⟨m,C,W,V,X⟩:=o.ok B A;have C:z.1.ex=p.ex++m:=C;have H:=U B A;have w:=LA (DJ (by rw[i];exact o.bad B));have h4:=o.le;have c:Ah s ({p with r:=d}:Rs).r=Ah s d:=rfl;have h3:=DS s z.1.r 59;have S:=DS s (AD s p.r p.ls) 61;rw[i]at S;have Z:=MU s p.r p.ls;have F:p.r.a<=(tk s z.1.r 59).a:=OJ (by omega) w.1 h G.le;have E:(tk s z.1.r 59).a<=s.size:=Z4 O.le (by omega);have Q:z.1.sm=p.sm:=o.sm;have D:BY z.1.ex z.1.sm:=by rw[Q,C];exact K.more m
 have I:=TM w.2;rw[t]at I;have P:=J.put (r:=tk s z.1.r 59) (op:=2) (v:=(j:Int)) o H B A rfl rfl (by rw[b.r];exact QP _) (Int.ofNat_le.2 F) E;have Y:z.1.n=p.n:=o.fp.n;have R:z.1.vs=p.vs:=o.fp.vs;rw[show tk s y.1.r 59=tk s z.1.r 59 from by rw[o.r]];refine⟨P.sto (x:=⟨61,p.r.a,j,z.2,[],[],false⟩) (.inl ⟨rfl,by show (0:Int)<=j∧(j:Int)<(z.1.vs.length:Nat);rw[R,<-J.ll];omega⟩),?_⟩;show y.1.ss++[y.2]=q.ss++fl p.vs z.1.ex (z.1.sm++[_]) z.1.sm.length ou q.ss.length;rw[LR W D V (by simp) (by simp),o.ss,H.sq rfl rfl];show q.ss++[_]=q.ss++[_]
 unfold Em BN;rw[b.vs];simp
theorem Zs8(s:ZB)(ou:Int)(q:Tq)(p:Rs)(b:Ag q p)(G:Gp s p):FZ s ou q p (FW s q ⟨0,(p.r.a:Nat),ou,0,none6,none6⟩) (Hj s p p.r.a):=by
 have L:=(Uz s q p ⟨0,(p.r.a:Nat),ou,0,none6,none6⟩ p.r.a b).2;intro h A K J;obtain⟨M,u,_⟩:=L h A K J.ev;refine⟨M,u,?_⟩;clear M u L;revert h;unfold FW Hj;dsimp only;obtain⟨d,i⟩:∃d,An s (tk s p.r 62) 0 (p.n-1)=d:=⟨_,rfl⟩
 obtain⟨j,t⟩:∃j,AW s (tk s p.r 62) 0 (p.n-1)=j:=⟨_,rfl⟩
 rw[show An s (tk s q.r 62) 0 (q.n-1)=d from by rw[b.r,b.n];exact i,show AW s (tk s q.r 62) 0 (q.n-1)=j from by rw[b.r,b.n];exact t,i,t];have o:=Gl s ({q with r:=d},{k:=2,pl:=(p.r.a:Nat),ou:=ou,ta:=j,rd:=none6,tp:=none6}) {p with r:=d} ⟨rfl,b.n,b.ls,b.vs⟩;have U:=PQ s ({q with r:=d},{k:=2,pl:=(p.r.a:Nat),ou:=ou,ta:=j,rd:=none6,tp:=none6}) {p with r:=d} ⟨rfl,b.n,b.ls,b.vs⟩;have N:d.a<=s.size:=by rw[<-i];exact DX (by omega) (Z4 G.le (by omega))
 have O:=Fv (s:=s) (G.r N);generalize Cb s ({q with r:=d},{k:=2,pl:=(p.r.a:Nat),ou:=ou,ta:=j,rd:=none6,tp:=none6})=y at *;generalize CJ s {p with r:=d}=z at *;intro h;have B:z.1.r.er=0:=DJ h;obtain⟨m,C,W,V,X⟩:=o.ok B A;have C:z.1.ex=p.ex++m:=C;have H:=U B A;have I:=DJ (J6 (by rw[i];exact o.bad B));have h4:=o.le;have c:Ah s ({p with r:=d}:Rs).r=Ah s d:=rfl;have Z:=DS s z.1.r 59;have S:=IU s (tk s p.r 62) 0 (p.n-1);rw[i]at S;have Y:=DS s p.r 62;have F:p.r.a<=(tk s z.1.r 59).a:=OJ (by omega) I h G.le;have E:(tk s z.1.r 59).a<=s.size:=Z4 O.le (by omega);have R:z.1.sm=p.sm:=o.sm;have D:BY z.1.ex z.1.sm:=by rw[R,C];exact K.more m
 have w:=Pv (s:=s) (r:=tk s p.r 62) J.n1;rw[t]at w;have P:=J.put (r:=tk s z.1.r 59) (op:=11) (v:=j) o H B A rfl rfl (by rw[b.r];exact QP _) (Int.ofNat_le.2 F) E;have Q:z.1.n=p.n:=o.fp.n;rw[show tk s y.1.r 59=tk s z.1.r 59 from by rw[o.r]];refine⟨P.sto (x:=⟨62,p.r.a,j,z.2,[],[],false⟩) (.inr (.inl ⟨rfl,by show 0<=j∧j<z.1.n;rw[Q];exact w⟩)),?_⟩;show y.1.ss++[y.2]=q.ss++fl p.vs z.1.ex (z.1.sm++[_]) z.1.sm.length ou q.ss.length;rw[LR W D V (by simp) (by simp),o.ss,H.sq rfl rfl];show q.ss++[_]=q.ss++[_]
 unfold Em;simp
theorem Vh(s:ZB)(K:Nat)(ou:Int)(Q:∀(q:Tq) (p:Rs),Ag q p->Ah s p.r<K+1->Gp s p->FZ s ou q p (Am s (K+1) ou q) (Al s (K+1) p)) :
  ∀(k:Nat) (i:Tq) (d:Rs) (q:Tq) (p:Rs) (l:List Nat),Ag i d->Ah s d.r<K+1->CX s i d q p->Gp s p->Kt s ou i d q (p,l)->(Be s (Am s (K+1) ou) k q).r=(AV s (Al s (K+1)) k p l).1.r->Kt s ou i d (Be s (Am s (K+1) ou) k q) (AV s (Al s (K+1)) k p l)
 | 0,i,d,q,p,l,I,P,o,G,D,u=>by intro h B C J;obtain⟨M,a,A,b⟩:=D (by rw[<-Zl s];exact h) B C J;refine⟨⟨M.ex,M.sm,M.oe,M.os⟩,a,?_,b⟩;exact A.r (r:=Aa s q.r) (HD _ _) (by rw[o.r];exact Ze G.le)
 | k+1,i,d,q,p,l,I,P,o,G,D,u=>by
  simp only[Be,AV]at u ⊢;rw[o.r]at u ⊢;cases h:CU (Ae s p.r) with
  | true=>
   have t:Ae s p.r≠0∧Ae s p.r≠125:=by unfold CU Ct at h;simp only[QJ,decide_eq_true_eq,QL]at h;omega
   have F:=(Z8 t.1).1;rw[h,if_pos ⟨F,t.2⟩,if_pos rfl]at u;rw[if_pos ⟨F,t.2⟩,if_pos rfl];have hA1:=I.go o.fq o.fp o.r;have Z:=o.le;have N:=Zu s p.r;have O:Gp s {p with r:=Aa s p.r}:=G.r (Ze G.le);have j:=(FM s (K+1) ou {q with r:=Aa s p.r} {p with r:=Aa s p.r} ⟨rfl,hA1.n,hA1.ls,hA1.vs⟩ (by show Ah s (Aa s p.r)<_;omega)).1;have Y:=Q {q with r:=Aa s p.r} {p with r:=Aa s p.r} ⟨rfl,hA1.n,hA1.ls,hA1.vs⟩ (by show Ah s (Aa s p.r)<_;omega) O;refine Vh s K ou Q k i d _ _ _ I P (o.trans ⟨j.r,Qg j.le N,λe=>by have:=j.bad e;exact F,⟨j.fq.n,j.fq.pn,j.fq.pr,j.fq.ls,j.fq.vs⟩,⟨j.fp.n,j.fp.ls,j.fp.vs⟩⟩) (Fs (K+1) _ O) ?_ u;intro h B C J;clear u;generalize Am s (K+1) ou {q with r:=Aa s p.r}=y at *;generalize Al s (K+1) {p with r:=Aa s p.r}=z at *;obtain⟨M,a,A,b⟩:=D F B C J;have R:Jn s {q with r:=Aa s p.r} {p with r:=Aa s p.r}:=A.r (by rw[o.r];exact HD _ _) (Ze G.le);obtain⟨w,U,S,H⟩:=Y h M.oe M.os R;have w:Mo p z.1:=⟨w.ex,w.sm,w.oe,w.os⟩
   have H:y.ss=q.ss++fl p.vs z.1.ex z.1.sm z.2 ou q.ss.length:=H;have b:q.ss=i.ss++CL d.vs p.ex p.sm l ou i.ss.length:=b;have X:p.vs=d.vs:=o.fp.vs;refine⟨M.trans w,λn t=>?_,S,?_⟩
   ·rw[QI,QA]at t;rcases t with t|t
    ·exact w.lt (a n t)
    ·rw[t];exact U
   ·rw[H];show _=i.ss++Ch (fl d.vs z.1.ex z.1.sm) (l++[z.2]) ou i.ss.length;rw[Px];have V:Ch (fl d.vs z.1.ex z.1.sm) l ou i.ss.length=CL d.vs p.ex p.sm l ou i.ss.length:=w.fls M.oe M.os _ a _ _;rw[V,X,b,QE,Qe]
  | false=>
   rw[h,if_neg (show ¬(false=true) from by simp)]at u;rw[if_neg (show ¬(false=true) from by simp)];by_cases L:p.r.er=0∧Ae s p.r≠125
   ·rw[if_pos L]at u;exfalso;have hd:=Lp (s:=s) (k:=K) (ou:=ou) (q:={q with r:=Aa s p.r}) (by show CU (Ae s (Aa s p.r))=false;rw[Zs];exact h);have v:(Am s (K+1) ou {q with r:=Aa s p.r}).r=Bi (Aa s p.r) 11:=by rw[hd.1];show Bi (Aa s (Aa s p.r)) 11=_;rw[Z3]
    have E:(Bi (Aa s p.r) 11).er≠0:=Dr (by omega);generalize Am s (K+1) ou {q with r:=Aa s p.r}=y at *;have hy:Be s (Am s (K+1) ou) k y=y:=by
     cases k with
     | zero=>simp only[Be];rw[ZD (by rw[v];exact E)]
     | succ k=>simp only[Be];rw[if_neg (λc=>E (by rw[<-v];exact c.1)),ZD (by rw[v];exact E)]
    rw[hy,v]at u;have:=congrArg Rd.er u;have W:(Aa s p.r).er=0:=by rw[Zl];exact L.1
    exact E (this.trans W)
   ·rw[if_neg L];intro h B C J;obtain⟨M,a,A,b⟩:=D (by rw[<-Zl s];exact h) B C J;refine⟨⟨M.ex,M.sm,M.oe,M.os⟩,a,?_,b⟩;exact A.r (r:=Aa s p.r) (by rw[o.r];exact HD _ _) (Ze G.le)
theorem VA(s:ZB)(r:Rd)(c:Int):r.a<=(tk s r c).a:=by
 have:=HD s r;unfold tk BW;split
 ·unfold nx;split
  ·show r.a<=(Aa s r).a+1;omega
  ·exact this
 ·rw[Km];exact this
theorem VC(s:ZB)(K:Nat)(ou:Int)(E:∀(q:Tq) (p:Rs),Ag q p->Ah s p.r<K+1->Gp s p->FZ s ou q p (Am s (K+1) ou q) (Al s (K+1) p))(k:Nat)(q:Tq)(p:Rs)(c:Ag q p)(L:Ah s p.r<K+1)(G:Gp s p) :
  Kt s ou q p (Bt s (Am s (K+1) ou) k q) (AO s (Al s (K+1)) k p):=by
 have v:=c.r;unfold Bt AO;rw[v];have N:=DS s p.r 123;have t:Gp s {p with r:=tk s p.r 123}:=G.r (Z4 G.le (by omega));have D:=On s K ou (FM s (K+1) ou) k {q with r:=tk s p.r 123} {p with r:=tk s p.r 123} {q with r:=tk s p.r 123} {p with r:=tk s p.r 123} [] ⟨rfl,c.n,c.ls,c.vs⟩ (by show Ah s (tk s p.r 123)<_;omega) (CX.refl rfl) (λ_ d i _=>⟨⟨⟨[],by simp⟩,⟨[],by simp⟩,d,i⟩,λn j=>by simp at j,by simp[Bn,Cm]⟩);have C:=Vh s K ou E k {q with r:=tk s p.r 123} {p with r:=tk s p.r 123} {q with r:=tk s p.r 123} {p with r:=tk s p.r 123} [] ⟨rfl,c.n,c.ls,c.vs⟩ (by show Ah s (tk s p.r 123)<_;omega) (CX.refl rfl) t (λ_ d i J=>⟨⟨⟨[],by simp⟩,⟨[],by simp⟩,d,i⟩,λn j=>by simp at j,J,by simp[CL,Ch]⟩);have w:=LF (s:=s) (Fs (K+1)) k {p with r:=tk s p.r 123} [] t;generalize Be s (Am s (K+1) ou) k {q with r:=tk s p.r 123}=y at *;generalize AV s (Al s (K+1)) k {p with r:=tk s p.r 123} []=z at *;have o:(tk s z.1.r 125).er=0->y.r=z.1.r:=by
  intro h;rcases D.e with e|⟨F,H,B,I⟩
  ·exact e
  ·have:=(Ij (by omega) h).2;rw[QL]at this;exact absurd this B
 intro h d i J;have h:(tk s z.1.r 125).er=0:=h;have u:=o h;obtain⟨M,a,A,b⟩:=C u (DJ h) d i (J.r (r:=tk s p.r 123) (by rw[v];exact VA _ _ _) (Z4 G.le (by omega)));refine⟨⟨M.ex,M.sm,M.oe,M.os⟩,a,A.r (VA _ _ _) (by rw[u];exact Z4 w.le (by omega)),b⟩
theorem Vi(s:ZB)(K:Nat)(ih:∀(ou:Int) (q:Tq) (p:Rs),Ag q p->Ah s p.r<K+1->Gp s p->FZ s ou q p (Am s (K+1) ou q) (Al s (K+1) p))(ou B:Int)(q:Tq)(p:Rs)(i:Int)(hc:i≠0)(o:Ag q p)(G:Gp s p)(hK:Ah s (tk s p.r i)<K+1)(y:Tq×Sq)(z:Rs×Nat)
  (hy:Cb s ({q with r:=tk s p.r i},⟨B,(p.r.a:Nat),ou,0,none6,none6⟩)=y) (R:CJ s {p with r:=tk s p.r i}=z) :
  (AO s (Al s (K+1)) (K+1) z.1).1.r.er=0->BA p.ex->BY p.ex p.sm->Jn s q p->
   Mo p (AO s (Al s (K+1)) (K+1) z.1).1∧(∀n,n∈(AO s (Al s (K+1)) (K+1) z.1).2->n<(AO s (Al s (K+1)) (K+1) z.1).1.sm.length)∧z.2<(AO s (Al s (K+1)) (K+1) z.1).1.ex.length∧
   Jn s (Bt s (Am s (K+1) y.1.ss.length) (K+1) (Ad (Ax y.1 y.2) 9 0)) (AO s (Al s (K+1)) (K+1) z.1).1∧y.1.ss.length=q.ss.length∧
   (Bt s (Am s (K+1) y.1.ss.length) (K+1) (Ad (Ax y.1 y.2) 9 0)).ss=q.ss++(⟨B,(p.r.a:Nat),ou,0,Bh p.vs (AO s (Al s (K+1)) (K+1) z.1).1.ex z.2,AY (AO s (Al s (K+1)) (K+1) z.1).1.ex z.2⟩ ::
    CL p.vs (AO s (Al s (K+1)) (K+1) z.1).1.ex (AO s (Al s (K+1)) (K+1) z.1).1.sm (AO s (Al s (K+1)) (K+1) z.1).2 (q.ss.length:Nat) (q.ss.length+1)):=by
 have d:=Gl s ({q with r:=tk s p.r i},⟨B,(p.r.a:Nat),ou,0,none6,none6⟩) {p with r:=tk s p.r i} ⟨rfl,o.n,o.ls,o.vs⟩;have Q:=PQ s ({q with r:=tk s p.r i},⟨B,(p.r.a:Nat),ou,0,none6,none6⟩) {p with r:=tk s p.r i} ⟨rfl,o.n,o.ls,o.vs⟩;have S:Gp s {p with r:=tk s p.r i}:=G.r (Z4 G.le hc);have D:=Fv (s:=s) S;rw[hy,R]at d Q;rw[R]at D;have c:Ah s ({p with r:=tk s p.r i}:Rs).r=Ah s (tk s p.r i):=rfl;have h4:=d.le;have hr:=DS s p.r i;have hA1:Ag (Ad (Ax y.1 y.2) 9 0) z.1:=⟨d.r,by show y.1.n=_;rw[d.fq.n,d.fp.n];exact o.n,by show y.1.ls=_;rw[d.fq.ls,d.fp.ls];exact o.ls,by show y.1.vs=_;rw[d.fq.vs,d.fp.vs];exact o.vs⟩
 have Z:=(J7 s K y.1.ss.length (FM s (K+1) _) (K+1) (Ad (Ax y.1 y.2) 9 0) z.1 hA1 (by omega)).1;have E:=VC s K y.1.ss.length (ih _) (K+1) (Ad (Ax y.1 y.2) 9 0) z.1 hA1 (by omega) D;generalize Bt s (Am s (K+1) y.1.ss.length) (K+1) (Ad (Ax y.1 y.2) 9 0)=u at *;generalize AO s (Al s (K+1)) (K+1) z.1=v at *;intro h F hM J;have k:z.1.r.er=0:=Z.bad h;obtain⟨m,A,C,O,c1⟩:=d.ok k F;have A:z.1.ex=p.ex++m:=A;have P:z.1.sm=p.sm:=d.sm;have t:BY z.1.ex z.1.sm:=by rw[P,A];exact hM.more m
 have H:=Q k F;have L:p.r.er=0:=DJ (d.bad k);have I:p.r.a<=z.1.r.a:=OJ (by omega) L k G.le;have V:Jn s (Ad (Ax y.1 y.2) 9 0) z.1:=J.put (r:=y.1.r) (op:=9) (v:=0) d H k F rfl rfl (by rw[o.r];exact QP _) (by rw[d.r];exact Int.ofNat_le.2 I) (by rw[d.r];exact D.le);obtain⟨M,a,U,b⟩:=E h C t V;have Y:z.1.vs=p.vs:=d.fp.vs;have w:y.1.ss=q.ss:=d.ss;have b:u.ss=(y.1.ss++[y.2])++CL z.1.vs v.1.ex v.1.sm v.2 y.1.ss.length (y.1.ss++[y.2]).length:=b;have N:=H.sq rfl rfl;have W:Bh p.vs v.1.ex z.2=Bh p.vs z.1.ex z.2:=by obtain⟨m1,e⟩:=M.ex;rw[e];exact funext λj=>EJ _ _ _ C O
 have X:AY v.1.ex z.2=AY z.1.ex z.2:=by obtain⟨m1,e⟩:=M.ex;rw[e];exact funext λj=>EJ _ _ _ C O
 refine⟨Mo.trans ⟨⟨m,A⟩,⟨[],by rw[P];simp⟩,C,t⟩ M,a,M.lte O,U,by rw[w],?_⟩;rw[b,N,w,Y,W,X];show q.ss++[_]++CL p.vs v.1.ex v.1.sm v.2 _ (q.ss++[_]).length=_;rw[Qe,QE];rfl
theorem Zs9(s:ZB)(K:Nat)(C:∀(ou:Int) (q:Tq) (p:Rs),Ag q p->Ah s p.r<K+1->Gp s p->FZ s ou q p (Am s (K+1) ou q) (Al s (K+1) p))(ou:Int)(q:Tq)(p:Rs)(d:Ag q p)(G:Gp s p)(w:Ah s (tk s p.r 64)<K+1) :
  FZ s ou q p (Fy s (Am s (K+1)) (K+1) q ⟨0,(p.r.a:Nat),ou,0,none6,none6⟩) (Hl s (Al s (K+1)) (K+1) p p.r.a):=by
 have B:=Vi s K C ou 4 q p 64 (by omega) d G w _ _ rfl rfl;unfold Fy Hl;dsimp only;rw[d.r];generalize Cb s ({q with r:=tk s p.r 64},{k:=4,pl:=(p.r.a:Nat),ou:=ou,ta:=0,rd:=none6,tp:=none6})=y at *;generalize CJ s {p with r:=tk s p.r 64}=z at *;generalize Bt s (Am s (K+1) y.1.ss.length) (K+1) (Ad (Ax y.1 y.2) 9 0)=u at *;generalize AO s (Al s (K+1)) (K+1) z.1=v at *;intro h t A J;obtain⟨M,c,i,j,E,b⟩:=B h t A J;obtain⟨D,o⟩:=M.sm;refine⟨⟨M.ex,⟨D++[_],by show v.1.sm++[_]=_;rw[o,List.append_assoc]⟩,M.oe,M.os.add i c (by simp)⟩,by simp[Dl],((j.jump _).aim _).sto (.inr (.inr (.inr rfl))),?_⟩;show u.ss=q.ss++fl p.vs v.1.ex (v.1.sm++[_]) v.1.sm.length ou q.ss.length;rw[LR M.oe M.os i c (by simp),b];simp[CL,Ch,Em]
theorem Zta(r:Rd):r.a<=(nx r).a:=by
 unfold nx;split
 ·show r.a<=r.a+1;omega
 ·exact Qb _
theorem Ztb(s:ZB)(K:Nat)(W:∀(ou:Int) (q:Tq) (p:Rs),Ag q p->Ah s p.r<K+1->Gp s p->FZ s ou q p (Am s (K+1) ou q) (Al s (K+1) p))(ou:Int)(q:Tq)(p:Rs)(i:Ag q p)(G:Gp s p)(S:Ah s (tk s p.r 63)<K+1) :
  FZ s ou q p (Fx s (Am s (K+1)) (K+1) q ⟨0,(p.r.a:Nat),ou,0,none6,none6⟩) (F0 s (Al s (K+1)) (K+1) p p.r.a):=by
 have U:=Vi s K W ou 3 q p 63 (by omega) i G S _ _ rfl rfl;have hS:=Oo s K (FM s (K+1)) q p ⟨3,(p.r.a:Nat),ou,0,none6,none6⟩ 63 i S _ _ rfl rfl;have Y:Gp s {p with r:=tk s p.r 63}:=G.r (Z4 G.le (by omega));have Z:=Fv (s:=s) Y;have ad:=(Gl s ({q with r:=tk s p.r 63},⟨3,(p.r.a:Nat),ou,0,none6,none6⟩) {p with r:=tk s p.r 63} ⟨rfl,i.n,i.ls,i.vs⟩).le;unfold Fx F0;dsimp only;rw[i.r];generalize Cb s ({q with r:=tk s p.r 63},{k:=3,pl:=(p.r.a:Nat),ou:=ou,ta:=0,rd:=none6,tp:=none6})=y at *;generalize CJ s {p with r:=tk s p.r 63}=z at *;have ab:Ah s (AO s (Al s (K+1)) (K+1) z.1).1.r<K+1:=by have c:Ah s ({p with r:=tk s p.r 63}:Rs).r=Ah s (tk s p.r 63):=rfl;have:=SO s K (K+1) z.1 (by omega);omega
 have P:Gp s (AO s (Al s (K+1)) (K+1) z.1).1:=Jg (Fs (K+1)) (K+1) Z;generalize hu:Bt s (Am s (K+1) y.1.ss.length) (K+1) (Ad (Ax y.1 y.2) 9 0)=u at *;generalize hv:AO s (Al s (K+1)) (K+1) z.1=v at *;have t:=hS.1;rw[t.r];by_cases C:Ae s v.1.r=58
 ·rw[if_pos C,if_pos C];have aa:=ZR (s:=s) (r:=v.1.r) (by omega);have I:v.1.r.er=0:=(Z8 (s:=s) (r:=v.1.r) (by omega)).1;have o:=i.go t.fq t.fp t.r;have Gn:Gp s {v.1 with r:=nx (Aa s v.1.r)}:=P.r (Dk (by omega));have hO:=VC s K y.1.ss.length (W _) (K+1) (Bd (Ad {u with r:=nx (Aa s v.1.r)} 8 0) (plQ y.1)) {v.1 with r:=nx (Aa s v.1.r)} ⟨rfl,o.n,o.ls,o.vs⟩ (by show Ah s (nx (Aa s v.1.r))<_;omega) Gn;have hJ:Jn s u v.1->Jn s (Bd (Ad {u with r:=nx (Aa s v.1.r)} 8 0) (plQ y.1)) {v.1 with r:=nx (Aa s v.1.r)}:=λJ=>((J.r (r:=nx (Aa s v.1.r)) (by rw[t.r];exact Qg (HD _ _) (Zta _)) (Dk (by omega))).jump 0).aim _;have O:(Bd (Ad {u with r:=nx (Aa s v.1.r)} 8 0) (plQ y.1)).ss=u.ss:=rfl
  generalize Bd (Ad {u with r:=nx (Aa s v.1.r)} 8 0) (plQ y.1)=u1 at *;generalize Bt s (Am s (K+1) y.1.ss.length) (K+1) u1=u2 at *;generalize AO s (Al s (K+1)) (K+1) {v.1 with r:=nx (Aa s v.1.r)}=c at *;intro h L N J;obtain⟨M,A,w,D,V,b⟩:=U I L N J;obtain⟨d,Q,E,F⟩:=hO h M.oe M.os (hJ D);have d:Mo v.1 c.1:=⟨d.ex,d.sm,d.oe,d.os⟩
  obtain⟨B,H⟩:=(M.trans d).sm;have X:z.2<c.1.ex.length:=d.lte w;have R:∀m,m∈v.2->m<c.1.sm.length:=λm hm=>d.lt (A m hm);have ev:v.1.vs=p.vs:=t.fp.vs
  refine⟨⟨(M.trans d).ex,⟨B++[_],by show c.1.sm++[_]=_;rw[H,List.append_assoc]⟩,d.oe,d.os.add X R Q⟩,by simp[Dl],(E.aim _).sto (.inr (.inr (.inl rfl))),?_⟩;show u2.ss=q.ss++fl p.vs c.1.ex (c.1.sm++[_]) c.1.sm.length ou q.ss.length;rw[LR d.oe d.os X R Q];have F:u2.ss=u1.ss++CL v.1.vs c.1.ex c.1.sm c.2 y.1.ss.length u1.ss.length:=F;have er:Bh p.vs v.1.ex z.2=Bh p.vs c.1.ex z.2:=by obtain⟨B,e⟩:=d.ex;rw[e];exact(funext λj=>EJ _ _ _ M.oe w).symm
  have et:AY v.1.ex z.2=AY c.1.ex z.2:=by obtain⟨B,e⟩:=d.ex;rw[e];exact(funext λj=>EJ _ _ _ M.oe w).symm
  rw[F,O,b,V,ev,er,et,<-d.fls M.oe M.os p.vs A];dsimp only;rw[QE,Uj,Qe,Qt];have e5:q.ss.length+((CL p.vs c.1.ex c.1.sm v.2 (q.ss.length:Nat) (q.ss.length+1)).length+1)=q.ss.length+1+(CL p.vs c.1.ex c.1.sm v.2 (q.ss.length:Nat) (q.ss.length+1)).length:=by omega
  rw[e5];rfl
 ·rw[if_neg C,if_neg C];intro h L N J;have h:(Aa s v.1.r).er=0:=h;obtain⟨M,A,w,D,V,b⟩:=U (by rw[<-Zl s];exact h) L N J;obtain⟨B,H⟩:=M.sm;refine⟨⟨M.ex,⟨B++[_],by show v.1.sm++[_]=_;rw[H,List.append_assoc]⟩,M.oe,M.os.add w A (by simp)⟩,by simp[Dl],?_,?_⟩
  ·have E:Jn s {u with r:=Aa s v.1.r} v.1:=D.r (r':=v.1.r) (by rw[t.r];exact HD _ _) (Ze P.le);exact(E.aim _).sto (.inr (.inr (.inl rfl)))
  ·show u.ss=q.ss++fl p.vs v.1.ex (v.1.sm++[_]) v.1.sm.length ou q.ss.length;rw[LR M.oe M.os w A (by simp),b];simp[CL,Ch,Em]
theorem PI(s:ZB):∀(k:Nat) (ou:Int) (q:Tq) (p:Rs),Ag q p->Ah s p.r<k->Gp s p->FZ s ou q p (Am s k ou q) (Al s k p)
 | 0,ou,q,p,d,C,G=>by omega
 | k+1,ou,q,p,d,C,G=>by
  have hA1:Ag {q with r:=Aa s p.r} {p with r:=Aa s p.r}:=⟨rfl,d.n,d.ls,d.vs⟩
  have D:=Zu s p.r;have o:Gp s {p with r:=Aa s p.r}:=G.r (Ze G.le);have c:∀(y:Tq) (z:Rs×Nat),FZ s ou {q with r:=Aa s p.r} {p with r:=Aa s p.r} y z->FZ s ou q p y z:=λy z h e A B J=>by obtain⟨M,a,w,b⟩:=h e A B (J.r (by rw[d.r];exact HD _ _) (Ze G.le));exact⟨⟨M.ex,M.sm,M.oe,M.os⟩,a,w,b⟩
  simp only[Am,Al];rw[d.r];by_cases t:Ae s p.r=62
  ·rw[if_pos t,if_pos t];exact c _ _ (Zs8 s ou _ _ hA1 o)
  ·rw[if_neg t,if_neg t];by_cases i:Ae s p.r=63
   ·rw[if_pos i,if_pos i];have v:=ZR (s:=s) (r:=p.r) (by omega);have u:tk s (Aa s p.r) 63=nx (Aa s p.r):=by rw[<-i];exact Ew (by omega)
    obtain⟨K,rfl⟩:∃K,k=K+1:=⟨k-1,by omega⟩
    exact c _ _ (Ztb s K (PI s (K+1)) ou _ _ hA1 o (by show Ah s (tk s (Aa s p.r) 63)<_;rw[u];omega))
   ·rw[if_neg i,if_neg i];by_cases j:Ae s p.r=64
    ·rw[if_pos j,if_pos j];have v:=ZR (s:=s) (r:=p.r) (by omega);have u:tk s (Aa s p.r) 64=nx (Aa s p.r):=by rw[<-j];exact Ew (by omega)
     obtain⟨K,rfl⟩:∃K,k=K+1:=⟨k-1,by omega⟩
     exact c _ _ (Zs9 s K (PI s (K+1)) ou _ _ hA1 o (by show Ah s (tk s (Aa s p.r) 64)<_;rw[u];omega))
    ·rw[if_neg j,if_neg j];exact c _ _ (Zs7 s ou _ _ hA1 o)
theorem UU(s:ZB):∀(k:Nat) (c:Tq) (d:Rs) (q:Tq) (p:Rs) (l:List Nat),Ag c d->CX s c d q p->Gp s p->Kt s (-1) c d q (p,l)->Ah s p.r<k->(Bp s k q).r.er=0->Kt s (-1) c d (Bp s k q) (AV s (Al s (s.size+2)) k p l)
 | 0,c,d,q,p,l,D,j,G,F,W,t=>by omega
 | k+1,c,d,q,p,l,D,j,G,F,W,t=>by
  simp only[Bp,AV]at t ⊢;rw[j.r]at t ⊢;cases h:CU (Ae s p.r) with
  | true=>
   have o:Ae s p.r≠0:=by unfold CU Ct at h;simp only[QJ,decide_eq_true_eq,QL]at h;omega
   have I:=Z8 o;rw[if_pos I]at t;rw[if_pos I,if_pos rfl];have hA1:=D.go j.fq j.fp j.r;have K:=Zu s p.r;have X:=Z5 s (Aa s p.r);have L:Gp s {p with r:=Aa s p.r}:=G.r (Ze G.le);have i:=(FM s (s.size+2) (-1) {q with r:=Aa s p.r} {p with r:=Aa s p.r} ⟨rfl,hA1.n,hA1.ls,hA1.vs⟩ (by show Ah s (Aa s p.r)<_;omega)).1;have V:=PI s (s.size+2) (-1) {q with r:=Aa s p.r} {p with r:=Aa s p.r} ⟨rfl,hA1.n,hA1.ls,hA1.vs⟩ (by show Ah s (Aa s p.r)<_;omega) L;have w:=UF s (s.size+2) {p with r:=Aa s p.r} (by show Ah s (Aa s p.r)<_;omega) (by show Ae s (Aa s p.r)≠0;rw[Zs];exact o);have w:Ah s (Al s (s.size+2) {p with r:=Aa s p.r}).1.r<Ah s (Aa s p.r):=w;have v:=I.1;refine UU s k c d _ _ _ D (j.trans ⟨i.r,Qg i.le K,λe=>v,⟨i.fq.n,i.fq.pn,i.fq.pr,i.fq.ls,i.fq.vs⟩,⟨i.fp.n,i.fp.ls,i.fp.vs⟩⟩) (Fs (s.size+2) _ L) ?_ (by omega) t;intro h E H J;clear t;generalize Am s (s.size+2) (-1) {q with r:=Aa s p.r}=y at *;generalize Al s (s.size+2) {p with r:=Aa s p.r}=z at *;obtain⟨M,a,B,b⟩:=F v E H J;have P:Jn s {q with r:=Aa s p.r} {p with r:=Aa s p.r}:=B.r (by rw[j.r];exact HD _ _) (Ze G.le);obtain⟨u,R,Q,C⟩:=V h M.oe M.os P;have u:Mo p z.1:=⟨u.ex,u.sm,u.oe,u.os⟩
   have C:y.ss=q.ss++fl p.vs z.1.ex z.1.sm z.2 (-1) q.ss.length:=C;have b:q.ss=c.ss++CL d.vs p.ex p.sm l (-1) c.ss.length:=b;have U:p.vs=d.vs:=j.fp.vs;refine⟨M.trans u,λn o=>?_,Q,?_⟩
   ·rw[QI,QA]at o;rcases o with o|o
    ·exact u.lt (a n o)
    ·rw[o];exact R
   ·rw[C];show _=c.ss++Ch (fl d.vs z.1.ex z.1.sm) (l++[z.2]) (-1) c.ss.length;rw[Px];have S:Ch (fl d.vs z.1.ex z.1.sm) l (-1) c.ss.length=CL d.vs p.ex p.sm l (-1) c.ss.length:=u.fls M.oe M.os _ a _ _;rw[S,U,b,QE,Qe]
  | false=>
   rw[if_neg (show ¬(false=true) from by simp)];by_cases O:p.r.er=0∧(Aa s p.r).a<s.size
   ·rw[if_pos O]at t;exfalso;have hd:=Lp (s:=s) (k:=s.size+1) (ou:=-1) (q:={q with r:=Aa s p.r}) (by show CU (Ae s (Aa s p.r))=false;rw[Zs];exact h);have A:(Am s (s.size+2) (-1) {q with r:=Aa s p.r}).r=Bi (Aa s p.r) 11:=by rw[hd.1];show Bi (Aa s (Aa s p.r)) 11=_;rw[Z3]
    have N:(Bi (Aa s p.r) 11).er≠0:=Dr (by omega);generalize Am s (s.size+2) (-1) {q with r:=Aa s p.r}=y at *;rw[Sl (by rw[A];exact N),A]at t;exact N t
   ·rw[if_neg O];intro h E H J;obtain⟨M,a,B,b⟩:=F (by rw[<-Zl s];exact h) E H J;refine⟨⟨M.ex,M.sm,M.oe,M.os⟩,a,?_,b⟩;exact B.r (r:=Aa s p.r) (by rw[j.r];exact HD _ _) (Ze G.le)
theorem Zsf(s:ZB)(G:Gp s (Aw s))(j:(BF s).er=0):Jn s (Ai s) (Af s).1∧(Ai s).ss=CL (Aw s).vs (Af s).1.ex (Af s).1.sm (Af s).2 (-1) 0:=by
 have i:=To s;have H:=FK s;have t:(Af s).1.r.er=0:=by
  unfold BF at j;split at j
  ·exact absurd j (Dr (by omega))
  ·exact j
 have I:(Aw s).r.er=0:=by
  by_cases c:(Aw s).r.er=0
  ·exact c
  ·exfalso;have B:Af s=(Aw s,[]):=NQ c _;rw[B]at t;exact c t
 obtain⟨u,L,F,D,O,P⟩:=i.ok I;have w:(Aw s).ls.length=(Aw s).vs.length:=by
  have z:∀k r (o vs:List Int),o.length=vs.length->(DC s (nP s) k r o vs).2.1.length=(DC s (nP s) k r o vs).2.2.length:=by
   intro k;induction k with
   | zero=>intro r o vs h;exact h
   | succ k N=>
    intro r o vs h;simp only[DC];split
    ·split
     ·exact h
     ·exact N _ _ _ (by simp[h])
    ·exact h
  exact z _ _ _ _ rfl
 have A:Jn s (Br s Ak) (Aw s):=by
  refine⟨by rw[u.r];exact G.le,by rw[i.cd];rfl,i.h,by rw[i.hi];exact QP _,λe h=>?_,.inl i.hi,λx d=>?_,λx d=>?_,by rw[i.ss];exact List.Pairwise.nil,λx d=>?_,O,w⟩
  ·simp[Aw]at h
  ·simp[Aw]at d
  ·simp[Aw]at d
  ·rw[i.ss]at d;simp at d
 have y:(Ai s).r.er=0:=by rw[H.r];exact j
 have v:=UU s (s.size+1) (Br s Ak) (Aw s) (Br s Ak) (Aw s) [] u (CX.refl u.r) G (λ_ C E J=>⟨⟨⟨[],by simp⟩,⟨[],by simp⟩,C,E⟩,λn K=>by simp at K,J,by simp[CL,Ch]⟩) (by have:=Z5 s (Aw s).r;omega) y;have v:Kt s (-1) (Br s Ak) (Aw s) (Ai s) (Af s):=v;obtain⟨M,a,J,b⟩:=v t (λe x d=>by simp[Aw]at d) (λe x d=>by simp[Aw]at d) A;refine⟨J,?_⟩;rw[b,i.ss];rfl
def BJ(s:ZB)(n a:Int):Bool:=ZA (λb=>le s n a b) n.toNat
def By(s:ZB)(n:Int):Int:=(ZI (BJ s n) n.toNat).getD 0
theorem SV{f:Int->Bool}:∀{k i:Nat},i<k->f i=true->∃x,ZI f k=some x:=by
 intro k;induction k with
 | zero=>intro i t;omega
 | succ k v=>
  intro i t h;by_cases d:∃j:Nat,j<k∧f j=true
  ·obtain⟨j,b,r⟩:=d;obtain⟨x,u⟩:=v b r;exact⟨x,Ra (by omega) u⟩
  ·have o:∀j:Nat,j<k->f j=false:=λj b=>by
    cases c:f j
    ·rfl
    ·exact absurd ⟨j,b,c⟩ d
   have a:i=k:=by
    by_cases c:i<k
    ·exact absurd h (by rw[o i c];simp)
    ·omega
   rw[a]at h;exact⟨k,IN (by omega) o h⟩
theorem Lw(H:Cs s n):Lv n (By s n)∧∀a,Lv n a->le s n (By s n) a=true:=by
 obtain⟨b,h,c⟩:=H.bot;have t:BJ s n (b.toNat:Nat)=true:=by rw[Qj h.1];exact Zb.2 (λi v=>c i ⟨by omega,by omega⟩)
 obtain⟨x,j⟩:=SV (f:=BJ s n) (k:=n.toNat) (i:=b.toNat) (by have:=h.1;have:=h.2;omega) t;obtain⟨o,u,r⟩:=HY j;unfold By;rw[j];refine⟨⟨o,by show x<n;omega⟩,λa d=>?_⟩;have:=Zb.1 r a.toNat (by have:=d.1;have:=d.2;omega)
 rw[Qj d.1]at this;exact this
def Bl(T:ZB)(n:Int)(vs:List Int)(ex:List Ex)(e:Nat):Int:=Ec 0 (λx=>if x.op=0 then By T n else FE vs x) (jn T n) ex e
def Bq(T:ZB)(n c:Int)(ex:List Ex)(e:Nat):Bool:=Ec true (λx=>if x.op=10 then le T n c x.v else true) (λa b=>a&&b) ex e
def BO(T:ZB)(n:Int)(m:Nat->Bool):Nat->Int
 | 0=>By T n
 | k+1=>if m k=true then jn T n (BO T n m k) k else BO T n m k
def CZ(T:ZB)(n:Int)(m:Nat->Bool)(c:Int):Bool:=!(ZA (λj=>!(m j.toNat)||le T n c j) n.toNat)
def Ev(n:Int)(vs:List Int):Prop:=∀v,v∈vs->Lv n v
theorem Ev.at(h:Ev n vs){i:Nat}(a:i<vs.length):Lv n (vs.getD i 0):=by rw[Qs,Qn a];exact h _ (Ua a)
theorem UV(v:BA ex)(P:Nat->Prop)(t:∀e x,ex[e]?=some x->(x.op=0∨x.op=1∨x.op=10)->P e)(u:∀e x,ex[e]?=some x->¬(x.op=0∨x.op=1∨x.op=10)->P x.l->P x.r->P e):∀e,e<ex.length->P e:=by
 have j:∀k e,e<k->e<ex.length->P e:=by
  intro k;induction k with
  | zero=>intro e h;omega
  | succ k o=>
   intro e w a;have i:ex[e]?=some ex[e]:=Qn a;by_cases b:ex[e].op=0∨ex[e].op=1∨ex[e].op=10
   ·exact t e _ i b
   ·rcases v e _ i with c|⟨c,d⟩
    ·exact absurd c b
    ·exact u e _ i b (o _ (by omega) (by omega)) (o _ (by omega) (by omega))
 exact λe a=>j _ e (Nat.lt_succ_self e) a
theorem ZqX{x:Ex}(h:Ev n vs)(a:XB n vs.length x)(b:x.op≠0)(i:x.op=0∨x.op=1∨x.op=10):Lv n (FE vs x):=by
 unfold FE;rcases i with c|c|c
 ·exact absurd c b
 ·rw[if_pos c];rcases a with d|⟨_,j,k⟩|d|d
  ·omega
  ·exact h.at (by omega)
  ·omega
  ·omega
 ·rw[if_neg (by omega)];rcases a with d|d|⟨_,d⟩|d
  ·omega
  ·omega
  ·exact d
  ·omega
theorem Nh(H:Cs T n)(v:BA ex)(F:Dw n vs.length ex)(G:Ev n vs):∀e,e<ex.length->
  Lv n (Bl T n vs ex e)∧(∀u,Lv n u->(le T n (Bl T n vs ex e) u=true↔∀j:Nat,Bh vs ex e j=true->le T n j u=true))∧∀j:Nat,Bh vs ex e j=true->(j:Int)<n:=by
 obtain⟨D,E⟩:=Lw H;refine UV v _ (λe x t o=>?_) (λe x t o J K=>?_)
 ·have I:=F x (Qw t);have A:Bl T n vs ex e=if x.op=0 then By T n else FE vs x:=by unfold Bl;rw[EM _ _ _ v t,if_pos o]
  have d:∀j,Bh vs ex e j=FA vs x j:=λj=>by unfold Bh;rw[EM _ _ _ v t,if_pos o]
  rw[A];by_cases k:x.op=0
  ·rw[if_pos k];refine⟨D,λu i=>⟨λ_ j a=>?_,λ_=>E u i⟩,λj a=>?_⟩
   ·rw[d]at a;unfold FA at a;rw[k]at a;simp at a
   ·rw[d]at a;unfold FA at a;rw[k]at a;simp at a
  ·rw[if_neg k];have z:=ZqX G I k o;refine⟨z,λu i=>⟨λh j a=>?_,λh=>?_⟩,λj a=>?_⟩
   ·rw[d]at a;unfold FA at a;rw[Qr]at a;rw[QB a.2];exact h
   ·have:=h (FE vs x).toNat (by rw[d];unfold FA;rw[Qr];exact⟨Qv k,Qv (Qj z.1)⟩)
    rw[Qj z.1]at this;exact this
   ·rw[d]at a;unfold FA at a;rw[Qr]at a;rw[QB a.2];exact z.2
 ·have A:Bl T n vs ex e=jn T n (Bl T n vs ex x.l) (Bl T n vs ex x.r):=by unfold Bl;rw[EM _ _ _ v t,if_neg o]
  have d:∀j,Bh vs ex e j=(Bh vs ex x.l j||Bh vs ex x.r j):=λj=>by unfold Bh;rw[EM _ _ _ v t,if_neg o]
  obtain⟨w,B,L⟩:=J;obtain⟨y,C,M⟩:=K;rw[A];have a:=H.jin _ _ w y;refine⟨a,λu i=>⟨λh j b=>?_,λh=>?_⟩,λj b=>?_⟩
  ·rw[d,QJ]at b;rcases b with c|c
   ·exact(B u i).1 (H.trans _ _ _ w a i (H.jl _ _ w y) h) j c
   ·exact(C u i).1 (H.trans _ _ _ y a i (H.jr _ _ w y) h) j c
  ·exact H.jm _ _ _ w y i ((B u i).2 λj c=>h j (by rw[d,c];rfl)) ((C u i).2 λj c=>h j (by rw[d,c,Bool.or_true]))
  ·rw[d,QJ]at b;rcases b with c|c
   ·exact L j c
   ·exact M j c
theorem Ni(H:Cs T n)(m:Nat->Bool):∀k:Nat,(k:Int)<=n->Lv n (BO T n m k)∧∀u,Lv n u->(le T n (BO T n m k) u=true↔∀j:Nat,j<k->m j=true->le T n j u=true)
 | 0,_=>⟨(Lw H).1,λu b=>⟨λ_ j o=>by omega,λ_=>(Lw H).2 u b⟩⟩
 | k+1,v=>by
  obtain⟨i,r⟩:=Ni H m k (by omega);have a:Lv n (k:Int):=⟨by omega,by omega⟩
  simp only[BO];by_cases c:m k=true
  ·rw[if_pos c];have o:=H.jin _ _ i a;refine⟨o,λu b=>⟨λh j t d=>?_,λh=>?_⟩⟩
   ·by_cases e:j=k
    ·rw[e];exact H.trans _ _ _ a o b (H.jr _ _ i a) h
    ·exact(r u b).1 (H.trans _ _ _ i o b (H.jl _ _ i a) h) j (by omega) d
   ·exact H.jm _ _ _ i a b ((r u b).2 λj t d=>h j (by omega) d) (h k (by omega) c)
  ·rw[if_neg c];refine⟨i,λu b=>⟨λh j o d=>?_,λh=>(r u b).2 λj o d=>h j (by omega) d⟩⟩;by_cases e:j=k
   ·rw[e]at d;exact absurd d c
   ·exact(r u b).1 h j (by omega) d
theorem ZqY(H:Cs T n)(v:0<=n)(o:BA ex)(k:Dw n vs.length ex)(r:Ev n vs)(t:e<ex.length):BO T n (Bh vs ex e) n.toNat=Bl T n vs ex e:=by
 obtain⟨a,d,i⟩:=Nh H o k r e t;obtain⟨b,h⟩:=Ni H (Bh vs ex e) n.toNat (by omega)
 refine H.anti _ _ b a ((h _ a).2 λj u c=>(d _ a).1 (H.refl _ a) j c) ((d _ b).2 λj c=>(h _ b).1 (H.refl _ b) j ?_ c);have:=i j c;omega
theorem ZoS(k:BA ex)(z:Dw n m ex)(c:Int):∀e,e<ex.length->(Bq T n c ex e=true↔∀j:Nat,AY ex e j=true->le T n c j=true)∧∀j:Nat,AY ex e j=true->(j:Int)<n:=by
 refine UV k _ (λe x i o=>?_) (λe x i o B C=>?_)
 ·have A:=z x (Qw i);have w:Bq T n c ex e=if x.op=10 then le T n c x.v else true:=by unfold Bq;rw[EM _ _ _ k i,if_pos o]
  have b:∀j,AY ex e j=FY x j:=λj=>by unfold AY;rw[EM _ _ _ k i,if_pos o]
  rw[w];by_cases u:x.op=10
  ·rw[if_pos u];have y:0<=x.v∧x.v<n:=by
    rcases A with d|d|⟨_,d⟩|d
    ·omega
    ·omega
    ·exact d
    ·omega
   refine⟨⟨λh j a=>?_,λh=>?_⟩,λj a=>?_⟩
   ·rw[b]at a;unfold FY at a;rw[Qr]at a;rw[QB a.2];exact h
   ·have:=h x.v.toNat (by rw[b];unfold FY;rw[Qr];exact⟨Qv u,Qv (Qj y.1)⟩)
    rw[Qj y.1]at this;exact this
   ·rw[b]at a;unfold FY at a;rw[Qr]at a;rw[QB a.2];exact y.2
  ·rw[if_neg u];have t:∀j,AY ex e j≠true:=λj a=>by rw[b]at a;unfold FY at a;rw[Qr]at a;exact u (QB a.1)
   exact⟨⟨λ_ j a=>absurd a (t j),λ_=>rfl⟩,λj a=>absurd a (t j)⟩
 ·have w:Bq T n c ex e=(Bq T n c ex x.l&&Bq T n c ex x.r):=by unfold Bq;rw[EM _ _ _ k i,if_neg o]
  have b:∀j,AY ex e j=(AY ex x.l j||AY ex x.r j):=λj=>by unfold AY;rw[EM _ _ _ k i,if_neg o]
  obtain⟨D,E⟩:=B;obtain⟨F,G⟩:=C;rw[w,Qr,D,F];refine⟨⟨λh j a=>?_,λh=>⟨λj a=>h j (by rw[b,a];rfl),λj a=>h j (by rw[b,a,Bool.or_true])⟩⟩,λj a=>?_⟩
  ·rw[b,QJ]at a;rcases a with d|d
   ·exact h.1 j d
   ·exact h.2 j d
  ·rw[b,QJ]at a;rcases a with d|d
   ·exact E j d
   ·exact G j d
theorem SW(k:BA ex)(i:Dw n m ex)(c:Int)(o:e<ex.length):CZ T n (AY ex e) c=!Bq T n c ex e:=by
 obtain⟨b,d⟩:=ZoS (T:=T) k i c e o;unfold CZ;congr 1;have:ZA (λj=>!(AY ex e j.toNat)||le T n c j) n.toNat=true↔Bq T n c ex e=true:=by
  rw[Zb,b];constructor
  ·intro h j a;have:=h j (by have:=d j a;omega);rw[QC,a]at this;simpa using this
  ·intro h j a;rw[QC];cases r:AY ex e j with
   | false=>simp
   | true=>simp[h j r]
 cases t:ZA (λj=>!(AY ex e j.toNat)||le T n c j) n.toNat<;>cases hd:Bq T n c ex e<;>simp_all
def D5(T:ZB)(n:Int)(vs:List Int)(ex:List Ex)(x:Sm)(c v:Int):Bool:=
 if x.k=61 then Bq T n c ex x.e&&le T n v (vs.getD x.v.toNat 0)
 else if x.k=62 then Bq T n c ex x.e&&le T n v x.v
 else if x.k=64 then Bq T n v ex x.e else Bq T n c ex x.e
def CA(a b:Int):Int:=if a<0∨(0<=b∧b<a) then b else a
def D4(f:Nat->Int->Int->Int):List Nat->Int->Int->Int
 | [],_,m=>m
 | i::l,c,m=>D4 f l c (f i c m)
def ES(T:ZB)(n:Int)(vs:List Int)(ex:List Ex)(sm:List Sm):Nat->Nat->Int->Int->Int
 | 0,_,_,m=>m
 | k+1,i,c,m=>match sm[i]? with
  | none=>m
  | some x=>CA (CA (if D5 T n vs ex x c (jn T n c (Bl T n vs ex x.e))=true then m else CA m x.a) (D4 (ES T n vs ex sm k) x.bo (jn T n c (Bl T n vs ex x.e)) (-1))) (D4 (ES T n vs ex sm k) x.el (jn T n c (Bl T n vs ex x.e)) (-1))
def Mg(T:ZB)(n:Int)(vs:List Int)(ex:List Ex)(sm:List Sm)(i:Nat)(c m:Int):Int:=ES T n vs ex sm (i+1) i c m
def Cx(T:ZB)(n:Int)(vs:List Int)(ex:List Ex)(sm:List Sm)(l:List Nat)(c m:Int):Int:=D4 (Mg T n vs ex sm) l c m
theorem KJ{f g:Nat->Int->Int->Int}(c:Int):∀(l:List Nat) (m:Int),(∀i,i∈l->∀m,f i c m=g i c m)->D4 f l c m=D4 g l c m
 | [],m,h=>rfl
 | i::l,m,h=>by simp only[D4];rw[h i (by simp) m,KJ c l _ (λj a=>h j (by simp[a]))]
theorem MH(o:BY ex sm):∀(k i a:Nat) (c m:Int),i<k->i<a->ES T n vs ex sm k i c m=ES T n vs ex sm a i c m
 | 0,i,a,c,m,h,_=>by omega
 | k+1,i,0,c,m,_,h=>by omega
 | k+1,i,a+1,c,m,y,z=>by
  simp only[ES];cases w:sm[i]? with
  | none=>rfl
  | some x=>
   dsimp only;obtain⟨A,r,t⟩:=o i x w;have u:∀d,D4 (ES T n vs ex sm k) x.bo d (-1)=D4 (ES T n vs ex sm a) x.bo d (-1):=λd=>KJ _ _ _ λj b m=>MH o k j a _ m (by have:=r j b;omega) (by have:=r j b;omega);have v:∀d,D4 (ES T n vs ex sm k) x.el d (-1)=D4 (ES T n vs ex sm a) x.el d (-1):=λd=>KJ _ _ _ λj b m=>MH o k j a _ m (by have:=t j b;omega) (by have:=t j b;omega)
   rw[u,v]
theorem Zsg{i:Nat}(b:BY ex sm)(k:sm[i]?=some x)(c m:Int) :
  Mg T n vs ex sm i c m=CA (CA (if D5 T n vs ex x c (jn T n c (Bl T n vs ex x.e))=true then m else CA m x.a) (Cx T n vs ex sm x.bo (jn T n c (Bl T n vs ex x.e)) (-1))) (Cx T n vs ex sm x.el (jn T n c (Bl T n vs ex x.e)) (-1)):=by
 obtain⟨v,t,u⟩:=b i x k;have o:∀d,D4 (ES T n vs ex sm i) x.bo d (-1)=Cx T n vs ex sm x.bo d (-1):=λd=>KJ _ _ _ λj h m=>MH b i j (j+1) _ m (t j h) (by omega);have r:∀d,D4 (ES T n vs ex sm i) x.el d (-1)=Cx T n vs ex sm x.el d (-1):=λd=>KJ _ _ _ λj h m=>MH b i j (j+1) _ m (u j h) (by omega)
 unfold Mg;rw[ES,k];dsimp only;rw[o,r]
def BZ(f:Nat->Int->List Int):List Nat->Int->List Int
 | [],_=>[]
 | i::l,c=>f i c++BZ f l c
def Db(T:ZB)(n:Int)(vs:List Int)(ex:List Ex)(sm:List Sm):Nat->Nat->Int->List Int
 | 0,_,_=>[]
 | k+1,i,c=>match sm[i]? with
  | none=>[]
  | some x=>(if D5 T n vs ex x c (jn T n c (Bl T n vs ex x.e))=true then [] else [(x.a:Int)])++(BZ (Db T n vs ex sm k) x.bo (jn T n c (Bl T n vs ex x.e))++BZ (Db T n vs ex sm k) x.el (jn T n c (Bl T n vs ex x.e)))
def DO(m:Int)(l:List Int):Int:=l.foldl CA m
theorem O7{a b:Int}(c:-1<=a)(d:-1<=b):-1<=CA a b:=by unfold CA;split<;>assumption
theorem Xe{m a b:Int}(h:-1<=m)(c:-1<=a)(d:-1<=b):CA (CA m a) b=CA m (CA a b):=by
 unfold CA
 repeat' split
 all_goals omega
theorem Yu{m:Int}(a:-1<=m):CA m (-1)=m:=by unfold CA;split<;>omega
theorem SF(a:Int):CA (-1) a=a:=if_pos (.inl (by omega))
theorem J4:∀(l:List Int) {m:Int},-1<=m->(∀a,a∈l->0<=a)->-1<=DO m l
 | [],m,c,h=>c
 | a::l,m,c,h=>J4 l (O7 c (by have:=h a (by simp);omega)) (λb d=>h b (by simp[d]))
theorem JJ:∀(l:List Int) {m:Int},-1<=m->(∀a,a∈l->0<=a)->CA m (DO (-1) l)=DO m l
 | [],m,c,h=>Yu c
 | a::l,m,c,h=>by
  have j:=h a (by simp);have d:∀b,b∈l->0<=b:=λb i=>h b (by simp[i]);show CA m (DO (CA (-1) a) l)=DO (CA m a) l
  rw[SF,<-JJ l (m:=a) (by omega) d,<-JJ l (m:=CA m a) (O7 c (by omega)) d,Xe c (by omega) (J4 l (by omega) d)]
theorem NG(m:Int)(a b:List Int):DO m (a++b)=DO (DO m a) b:=by unfold DO;rw[List.foldl_append]
theorem Jc{f:Nat->Int->List Int}(b:∀i c a,a∈f i c->0<=a)(c:Int):∀(l:List Nat) (a:Int),a∈BZ f l c->0<=a
 | [],a,h=>by simp[BZ]at h
 | i::l,a,h=>by
  simp only[BZ,QI]at h;rcases h with h|h
  ·exact b _ _ _ h
  ·exact Jc b c l a h
theorem GU(T:ZB)(n:Int)(vs:List Int)(ex:List Ex)(sm:List Sm):∀(k i:Nat) (c a:Int),a∈Db T n vs ex sm k i c->0<=a
 | 0,i,c,a,h=>by simp[Db]at h
 | k+1,i,c,a,h=>by
  simp only[Db]at h;cases b:sm[i]? with
  | none=>rw[b]at h;simp at h
  | some x=>
   rw[b]at h;simp only[QI]at h;rcases h with h|h|h
   ·split at h
    ·simp at h
    ·simp at h;omega
   ·exact Jc (GU T n vs ex sm k) _ _ _ h
   ·exact Jc (GU T n vs ex sm k) _ _ _ h
theorem Lh{f:Nat->Int->Int->Int}(c:Int)(d:∀i a,a∈g i c->0<=a)(h:∀i m,-1<=m->f i c m=DO m (g i c)):∀(l:List Nat) (m:Int),-1<=m->D4 f l c m=DO m (BZ g l c)
 | [],m,b=>rfl
 | i::l,m,b=>by simp only[D4,BZ];rw[h i m b,NG,Lh c d h l _ (J4 _ b (d i))]
theorem MO(T:ZB)(n:Int)(vs:List Int)(ex:List Ex)(sm:List Sm):∀(k i:Nat) (c m:Int),-1<=m->ES T n vs ex sm k i c m=DO m (Db T n vs ex sm k i c)
 | 0,i,c,m,d=>rfl
 | k+1,i,c,m,d=>by
  simp only[ES,Db];cases r:sm[i]? with
  | none=>rfl
  | some x=>
   dsimp only;generalize jn T n c (Bl T n vs ex x.e)=v;have b:=Jc (GU T n vs ex sm k) v x.bo;have h:=Jc (GU T n vs ex sm k) v x.el;rw[Lh v (λi a=>GU T n vs ex sm k i v a) (λi m d=>MO T n vs ex sm k i v m d) x.bo (-1) (by omega),Lh v (λi a=>GU T n vs ex sm k i v a) (λi m d=>MO T n vs ex sm k i v m d) x.el (-1) (by omega)];rw[NG,NG];by_cases j:D5 T n vs ex x c v=true
   ·rw[if_pos j,if_pos j];show _=DO (DO m _) _;rw[JJ _ d b,JJ _ (J4 _ d b) h]
   ·rw[if_neg j,if_neg j];have o:-1<=CA m x.a:=O7 d (by omega);show _=DO (DO (CA m x.a) _) _;rw[JJ _ o b,JJ _ (J4 _ o b) h]
def BQ(T:ZB)(n:Int)(inn:List Int)(ou:Int):Int:=if ou<0∨(inn.length:Int)<=ou then By T n else inn.getD ou.toNat 0
def He(T:ZB)(n:Int)(x:Sq)(c v:Int):Bool:=
 if x.k=1∨x.k=2 then !(le T n v x.ta)||CZ T n x.tp c else if x.k=4 then CZ T n x.tp v else CZ T n x.tp c
def BH(T:ZB)(n:Int):List Sq->List Int->Int
 | [],_=>-1
 | x::l,inn=>if He T n x (BQ T n inn x.ou) (jn T n (BQ T n inn x.ou) (BO T n x.rd n.toNat))=true then x.pl else BH T n l (inn++[jn T n (BQ T n inn x.ou) (BO T n x.rd n.toNat)])
theorem SG{a:List Int}(h:ou<a.length)(more:List Int):BQ T n (a++more) ou=BQ T n a ou:=by
 unfold BQ;by_cases b:ou<0
 ·rw[if_pos (.inl b),if_pos (.inl b)]
 ·rw[if_neg (by rw[Qe];omega),if_neg (by omega),Qs,Qs,QD (by omega)]
theorem SX(a:List Int)(v:Int):BQ T n (a++[v]) (a.length:Nat)=v:=by unfold BQ;rw[if_neg (by rw[Qe];simp;omega),Qs,QC];simp
theorem ZqZ(b:BA ex)(a:Dw n vs.length ex)(d:x.e<ex.length)(i:x.k=61∨x.k=62∨x.k=63∨x.k=64)(ou c v:Int):He T n (Em vs ex x ou) c v=!D5 T n vs ex x c v:=by
 unfold He D5 Em;dsimp only;rw[SW b a c d,SW b a v d];rcases i with h|h|h|h
 ·rw[if_pos h,if_pos (.inl rfl),if_pos h,if_pos h];cases Bq T n c ex x.e<;>cases le T n v (vs.getD x.v.toNat 0)<;>rfl
 ·rw[if_neg (show ¬x.k=61 by omega),if_pos h,if_pos (.inr rfl),if_neg (show ¬x.k=61 by omega),if_pos h,if_neg (show ¬x.k=61 by omega),if_pos h];cases Bq T n c ex x.e<;>cases le T n v x.v<;>rfl
 ·rw[if_neg (show ¬x.k=61 by omega),if_neg (show ¬x.k=62 by omega),if_pos h,if_neg (by omega),if_neg (by omega),if_neg (show ¬x.k=61 by omega),if_neg (show ¬x.k=62 by omega),if_neg (show ¬x.k=64 by omega)]
 ·rw[if_neg (show ¬x.k=61 by omega),if_neg (show ¬x.k=62 by omega),if_neg (show ¬x.k=63 by omega),if_neg (by omega),if_pos rfl,if_neg (show ¬x.k=61 by omega),if_neg (show ¬x.k=62 by omega),if_pos h]
def B8(T:ZB)(n:Int)(inn:List Int)(row:List Sq)(bad:List Int):Prop:=
 ∃more:List Int,more.length=row.length∧∀rest,BH T n (row++rest) inn=match bad with
  | []=>BH T n rest (inn++more)
  | a::_=>a
theorem B8.nil(T:ZB)(n:Int)(a:List Int):B8 T n a [] []:=⟨[],rfl,λb=>by simp⟩
theorem B8.append{c:List Int}{h o:List Sq}{d i:List Int}(v:B8 T n c h d)(w:∀b:List Int,b.length=h.length->B8 T n (c++b) o i):B8 T n c (h++o) (d++i):=by
 obtain⟨k,j,t⟩:=v;obtain⟨z,y,u⟩:=w k j;refine⟨k++z,by rw[Qe,Qe,j,y],λr=>?_⟩;rw[QE,t];cases d with
 | cons a d=>rfl
 | nil=>dsimp only;rw[u,List.nil_append,QE]
theorem MI(ou c:Int):∀(l:List Nat) (a:List Int),ou<a.length->BQ T n a ou=c->
  (∀i,i∈l->∀a:List Int,ou<a.length->BQ T n a ou=c->B8 T n a (f i ou a.length) (g i c))->B8 T n a (Ch f l ou a.length) (BZ g l c)
 | [],a,d,k,h=>B8.nil T n a
 | i::l,a,d,k,h=>by
  simp only[Ch,BZ];refine(h i (by simp) a d k).append λb r=>?_;have:=MI ou c l (a++b) (by rw[List.length_append];omega) (by rw[SG d];exact k) (λj o=>h j (by simp[o]))
  rw[Qe,r]at this;exact this
theorem NU(H:Cs T n)(I:0<=n)(z:BA ex)(C:BY ex sm)(y:Dw n vs.length ex)(E:Ev n vs)(B:∀x,x∈sm->x.k=61∨x.k=62∨x.k=63∨x.k=64) :
  ∀(k i:Nat) (ou c:Int) (d:List Int),ou<d.length->BQ T n d ou=c->B8 T n d (CK vs ex sm k i ou d.length) (Db T n vs ex sm k i c)
 | 0,i,ou,c,d,Q,N=>B8.nil T n d
 | k+1,i,ou,c,d,Q,N=>by
  simp only[CK,Db];cases O:sm[i]? with
  | none=>exact B8.nil T n d
  | some x=>
   dsimp only;obtain⟨P,X,Y⟩:=C i x O;have G:BO T n (Em vs ex x ou).rd n.toNat=Bl T n vs ex x.e:=ZqY H I z y E P;have F:=ZqZ (T:=T) z y P (B x (Qw O)) ou c (jn T n c (Bl T n vs ex x.e));have K:(Em vs ex x ou).pl=x.a:=rfl;have J:(Em vs ex x ou).ou=ou:=rfl;generalize W:Em vs ex x ou=q at *;generalize V:jn T n c (Bl T n vs ex x.e)=v at *;have u:∀o,BH T n (q::o) d=if D5 T n vs ex x c v=true then BH T n o (d++[v]) else (x.a:Int):=λo=>by
    simp only[BH];rw[J,N,G,V,F];by_cases t:D5 T n vs ex x c v=true
    ·rw[if_pos t,t];rfl
    ·rw[if_neg t,if_pos (by rw[QW]at t;rw[t];rfl)];exact K
   have h:(d++[v]).length=d.length+1:=by simp
   have A:B8 T n (d++[v]) (Ch (CK vs ex sm k) x.bo d.length (d.length+1)++Ch (CK vs ex sm k) x.el d.length (d.length+1+(Ch (CK vs ex sm k) x.bo d.length (d.length+1)).length)) (BZ (Db T n vs ex sm k) x.bo v++BZ (Db T n vs ex sm k) x.el v):=by
    have L:=MI (T:=T) (n:=n) (f:=CK vs ex sm k) (g:=Db T n vs ex sm k) (d.length:Nat) v x.bo (d++[v]) (by rw[h];omega) (SX d v) (λj S r a b=>NU H I z C y E B k j _ v r a b);rw[h]at L;refine L.append λw U=>?_;have M:=MI (T:=T) (n:=n) (f:=CK vs ex sm k) (g:=Db T n vs ex sm k) (d.length:Nat) v x.el (d++[v]++w) (by rw[Qe,h];omega) (by rw[SG (by rw[h];omega)];exact SX d v) (λj S r a b=>NU H I z C y E B k j _ v r a b)
    rw[Qe,h,U]at M;exact M
   generalize Ch (CK vs ex sm k) x.bo d.length (d.length+1)++Ch (CK vs ex sm k) x.el d.length (d.length+1+(Ch (CK vs ex sm k) x.bo d.length (d.length+1)).length)=R at *;generalize BZ (Db T n vs ex sm k) x.bo v++BZ (Db T n vs ex sm k) x.el v=D at *;by_cases t:D5 T n vs ex x c v=true
   ·rw[if_pos t];obtain⟨m,l,f⟩:=A;refine⟨v::m,by simp[l],λo=>?_⟩;rw[Uj,u,if_pos t,f,QE];rfl
   ·rw[if_neg t];refine⟨List.replicate (q::R).length 0,List.length_replicate,λo=>?_⟩;rw[Uj,u,if_neg t];rfl
theorem Zq0:∀(l:List Int),(∀a,a∈l->0<=a)->l.Pairwise (λa b=>a<=b)->DO (-1) l=match l with
  | []=>-1
  | a::_=>a
 | [],h,j=>rfl
 | a::l,h,j=>by
  have i:∀(l:List Int),(∀b,b∈l->a<=b)->DO a l=a:=by
   intro l;induction l with
   | nil=>intro _;rfl
   | cons b l o=>intro d;show DO (CA a b) l=a;have r:=h a (by simp);have t:=d b (by simp);rw[show CA a b=a from by unfold CA;rw[if_neg (by omega)]];exact o λc k=>d c (by simp[k])
  show DO (CA (-1) a) l=a;rw[SF];exact i l λb d=>(List.pairwise_cons.1 j).1 b d
theorem MP(c:Int):∀(l:List Nat) (ou:Int) (b:Nat),(∀i,i∈l->∀ou b,(g i c).Sublist ((f i ou b).map Sq.pl))->(BZ g l c).Sublist ((Ch f l ou b).map Sq.pl)
 | [],ou,b,h=>List.nil_sublist _
 | i::l,ou,b,h=>by simp only[BZ,Ch,QK];exact(h i (by simp) ou b).append (MP c l ou _ λj a=>h j (by simp[a]))
theorem OL:∀(k i:Nat) (c ou:Int) (b:Nat),(Db T n vs ex sm k i c).Sublist ((CK vs ex sm k i ou b).map Sq.pl)
 | 0,i,c,ou,b=>List.nil_sublist _
 | k+1,i,c,ou,b=>by
  simp only[Db,CK];cases t:sm[i]? with
  | none=>exact List.nil_sublist _
  | some x=>
   dsimp only;rw[List.map_cons,QK];generalize jn T n c (Bl T n vs ex x.e)=v;have h:=MP (f:=CK vs ex sm k) (g:=Db T n vs ex sm k) v x.bo (b:Nat) (b+1) (λj r ou b=>OL k j v ou b);have o:=MP (f:=CK vs ex sm k) (g:=Db T n vs ex sm k) v x.el (b:Nat) (b+1+(Ch (CK vs ex sm k) x.bo b (b+1)).length) (λj r ou b=>OL k j v ou b);have a:=h.append o;by_cases d:D5 T n vs ex x c v=true
   ·rw[if_pos d];exact a.cons _
   ·rw[if_neg d];exact a.cons_cons _
theorem Xf(H:Cs T n)(C:0<=n)(t:BA ex)(w:BY ex sm)(r:Dw n vs.length ex)(y:Ev n vs)(u:∀x,x∈sm->x.k=61∨x.k=62∨x.k=63∨x.k=64)
  (D:(CL vs ex sm l (-1) 0).Pairwise λa b=>a.pl<=b.pl):BH T n (CL vs ex sm l (-1) 0) []=Cx T n vs ex sm l (By T n) (-1):=by
 have z:BQ T n [] (-1)=By T n:=if_pos (.inl (by omega));have hF:B8 T n [] (CL vs ex sm l (-1) 0) (BZ (λi c=>Db T n vs ex sm (i+1) i c) l (By T n)):=
  MI (f:=fl vs ex sm) (-1) (By T n) l [] (by simp) z (λi A o a b=>NU H C t w r y u (i+1) i (-1) (By T n) o a b)
 have v:Cx T n vs ex sm l (By T n) (-1)=DO (-1) (BZ (λi c=>Db T n vs ex sm (i+1) i c) l (By T n)):=
  Lh _ (λi a=>GU T n vs ex sm (i+1) i _ a) (λi m B=>MO T n vs ex sm (i+1) i _ m B) l (-1) (by omega)
 have d:(BZ (λi c=>Db T n vs ex sm (i+1) i c) l (By T n)).Sublist ((CL vs ex sm l (-1) 0).map Sq.pl):=MP (f:=fl vs ex sm) _ l (-1) 0 (λi A ou b=>OL (i+1) i _ ou b);have h:=Jc (f:=λi c=>Db T n vs ex sm (i+1) i c) (λi c a=>GU T n vs ex sm (i+1) i c a) (By T n) l;have j:(BZ (λi c=>Db T n vs ex sm (i+1) i c) l (By T n)).Pairwise (λa b=>a<=b):=List.Pairwise.sublist d (List.pairwise_map.2 D);rw[v,Zq0 _ h j];obtain⟨m,E,f⟩:=hF;have:=f [];rw[QS]at this;rw[this];cases BZ (λi c=>Db T n vs ex sm (i+1) i c) l (By T n) with
 | nil=>rfl
 | cons a b=>rfl
end Go.Proofs.YtcnbifdlkalimabGreat
