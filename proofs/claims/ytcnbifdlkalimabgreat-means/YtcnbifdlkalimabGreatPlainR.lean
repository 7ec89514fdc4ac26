import Derived.Test.YtcnbifdlkalimabGreatPlnB
import Derived.Test.YtcnbifdlkalimabGreatPlnA
/- Lemmas for the statement Means; their conditions stand in each. -/
namespace Go.Proofs.YtcnbifdlkalimabGreat
open Go.RowKit Go.Proofs.Tryz
variable{n:Int}{T:Int->ZB}{k:Nat}{h:Nat->Int}{c s t v:ZB}
structure Hnd where
 pl:Int
 sp:Int
 st:Int->Int
 va:Int->Int
 po:Int->Nat
 lo:Int->List Int
def up{α:Type}(f:Int->α)(k:Int)(x:α):Int->α:=λi=>if i=k then x else f i
theorem Zcq{α:Type}(f:Int->α)(k:Int)(x:α):up f k x k=x:=if_pos rfl
theorem Zcf{α:Type}{f:Int->α}{k i:Int}{x:α}(h:i≠k):up f k x i=f i:=if_neg h
def reckon(op a b:Int):Int:=if op=3 then (a+b)%256 else if op=4 then (a+256-b)%256 else if op=5 then a*b%256 else if op=6 then (if a<b then 1 else 0) else (if a=b then 1 else 0)
def Zy(c:ZB)(T:Int->ZB)(m:Hnd):Hnd:=
 if bv c (2*m.pl)=0 then {m with pl:=m.pl+1,sp:=m.sp+1,st:=up m.st m.sp (bv c (2*m.pl+1))}
 else if bv c (2*m.pl)=1 then {m with pl:=m.pl+1,sp:=m.sp+1,st:=up m.st m.sp (m.va (bv c (2*m.pl+1)))}
 else if bv c (2*m.pl)=2 then {m with pl:=m.pl+1,sp:=m.sp-1,va:=up m.va (bv c (2*m.pl+1)) (m.st (m.sp-1))}
 else if bv c (2*m.pl)=8 then {m with pl:=bv c (2*m.pl+1)}
 else if bv c (2*m.pl)=9 then {m with pl:=if m.st (m.sp-1)=0 then bv c (2*m.pl+1) else m.pl+1,sp:=m.sp-1}
 else if bv c (2*m.pl)=10 then {m with pl:=m.pl+1,sp:=m.sp+1,st:=up m.st m.sp (bv (T (bv c (2*m.pl+1))) (m.po (bv c (2*m.pl+1)))),po:=up m.po (bv c (2*m.pl+1)) (m.po (bv c (2*m.pl+1))+1)}
 else if bv c (2*m.pl)=11 then {m with pl:=m.pl+1,sp:=m.sp-1,lo:=up m.lo (bv c (2*m.pl+1)) (m.lo (bv c (2*m.pl+1))++[m.st (m.sp-1)])}
 else {m with pl:=m.pl+1,sp:=m.sp-1,st:=up m.st (m.sp-2) (reckon (bv c (2*m.pl)) (m.st (m.sp-2)) (m.st (m.sp-1)))}
theorem ZhP{m:Hnd}(h:bv c (2*m.pl)=0):Zy c T m={m with pl:=m.pl+1,sp:=m.sp+1,st:=up m.st m.sp (bv c (2*m.pl+1))}:=by
 unfold Zy;rw[if_pos h]
theorem ZhQ{m:Hnd}(h:bv c (2*m.pl)=1):Zy c T m={m with pl:=m.pl+1,sp:=m.sp+1,st:=up m.st m.sp (m.va (bv c (2*m.pl+1)))}:=by
 unfold Zy;rw[if_neg (by omega),if_pos h]
theorem ZhR{m:Hnd}(h:bv c (2*m.pl)=2):Zy c T m={m with pl:=m.pl+1,sp:=m.sp-1,va:=up m.va (bv c (2*m.pl+1)) (m.st (m.sp-1))}:=by
 unfold Zy;rw[if_neg (by omega),if_neg (by omega),if_pos h]
theorem Zge{m:Hnd}(h:bv c (2*m.pl)=8):Zy c T m={m with pl:=bv c (2*m.pl+1)}:=by
 unfold Zy;rw[if_neg (by omega),if_neg (by omega),if_neg (by omega),if_pos h]
theorem Zdw{m:Hnd}(h:bv c (2*m.pl)=9):Zy c T m={m with pl:=if m.st (m.sp-1)=0 then bv c (2*m.pl+1) else m.pl+1,sp:=m.sp-1}:=by
 unfold Zy;rw[if_neg (by omega),if_neg (by omega),if_neg (by omega),if_neg (by omega),if_pos h]
theorem Ze7{m:Hnd}(h:bv c (2*m.pl)=10):Zy c T m={m with pl:=m.pl+1,sp:=m.sp+1,st:=up m.st m.sp (bv (T (bv c (2*m.pl+1))) (m.po (bv c (2*m.pl+1)))),po:=up m.po (bv c (2*m.pl+1)) (m.po (bv c (2*m.pl+1))+1)}:=by
 unfold Zy;rw[if_neg (by omega),if_neg (by omega),if_neg (by omega),if_neg (by omega),if_neg (by omega),if_pos h]
theorem Ze8{m:Hnd}(h:bv c (2*m.pl)=11):Zy c T m={m with pl:=m.pl+1,sp:=m.sp-1,lo:=up m.lo (bv c (2*m.pl+1)) (m.lo (bv c (2*m.pl+1))++[m.st (m.sp-1)])}:=by
 unfold Zy;rw[if_neg (by omega),if_neg (by omega),if_neg (by omega),if_neg (by omega),if_neg (by omega),if_neg (by omega),if_pos h]
theorem Zbf{m:Hnd}(h:3<=bv c (2*m.pl)∧bv c (2*m.pl)<=7):Zy c T m={m with pl:=m.pl+1,sp:=m.sp-1,st:=up m.st (m.sp-2) (reckon (bv c (2*m.pl)) (m.st (m.sp-2)) (m.st (m.sp-1)))}:=by
 unfold Zy;rw[if_neg (by omega),if_neg (by omega),if_neg (by omega),if_neg (by omega),if_neg (by omega),if_neg (by omega),if_neg (by omega)]
structure Through(c v t:ZB)(n:Int)(h:Nat->Int):Prop where
 ops:∀i:Int,0<=i->i<half c->bv c (2*i)<=11
 rng:Ranged c
 ht:Zr c h
 vr:∀i:Int,0<=i->i<half c->bv c (2*i)=1∨bv c (2*i)=2->bv c (2*i+1)<v.size∧Lv n (bv v (bv c (2*i+1)))
 lv:∀i:Int,0<=i->i<half c->bv c (2*i)=10∨bv c (2*i)=11->Lv n (bv c (2*i+1))
 tr:∀a b d:Int,Lv n a->Lv n b->Lv n d->le t n a b=true->le t n b d=true->le t n a d=true
 nb:∀q,¬Breaks c v t n h q
 nt:∀q,¬Trap c q
structure Sound(c:ZB)(h:Nat->Int)(m:Hnd):Prop where
 live:Live c m.pl
 r0:0<=m.pl
 r1:m.pl<=half c
 sp:m.sp=h m.pl.toNat
theorem Zmb{m:Hnd}(h11:bv c (2*m.pl)<=11):(Zy c T m).pl∈nxt c m.pl:=by
 have h0:=(Zag c (2*m.pl)).1
 have other:bv c (2*m.pl)≠8->m.pl+1∈nxt c m.pl:=λe=>by
  unfold nxt
  rw[if_neg e]
  split<;>simp
 have hcs:bv c (2*m.pl)=0∨bv c (2*m.pl)=1∨bv c (2*m.pl)=2∨(3<=bv c (2*m.pl)∧bv c (2*m.pl)<=7)∨bv c (2*m.pl)=8∨bv c (2*m.pl)=9∨bv c (2*m.pl)=10∨bv c (2*m.pl)=11:=by omega
 rcases hcs with k|k|k|k|k|k|k|k
 ·rw[ZhP k];exact other (by omega)
 ·rw[ZhQ k];exact other (by omega)
 ·rw[ZhR k];exact other (by omega)
 ·rw[Zbf k];exact other (by omega)
 ·rw[Zge k];unfold nxt;rw[if_pos k];simp
 ·rw[Zdw k]
  show (if m.st (m.sp-1)=0 then bv c (2*m.pl+1) else m.pl+1)∈nxt c m.pl
  split
  ·unfold nxt
   rw[if_neg (by omega)]
   by_cases e:bv c (2*m.pl+1)=m.pl+1
   ·rw[if_neg (λx=>x.2 e),e];simp
   ·rw[if_pos ⟨k,e⟩];simp
  ·exact other (by omega)
 ·rw[Ze7 k];exact other (by omega)
 ·rw[Ze8 k];exact other (by omega)
theorem Zmc{m:Hnd}(h11:bv c (2*m.pl)<=11):(Zy c T m).sp=m.sp-takesAt c m.pl+givesAt c m.pl:=by
 have h0:=(Zag c (2*m.pl)).1
 unfold takesAt givesAt takesF givesF
 have hcs:bv c (2*m.pl)=0∨bv c (2*m.pl)=1∨bv c (2*m.pl)=2∨(3<=bv c (2*m.pl)∧bv c (2*m.pl)<=7)∨bv c (2*m.pl)=8∨bv c (2*m.pl)=9∨bv c (2*m.pl)=10∨bv c (2*m.pl)=11:=by omega
 rcases hcs with k|k|k|k|k|k|k|k
 ·rw[ZhP k,k];show m.sp+1=_;simp
 ·rw[ZhQ k,k];show m.sp+1=_;simp
 ·rw[ZhR k,k];show m.sp-1=_;simp
 ·rw[Zbf k,if_neg (by omega),if_neg (by omega),if_neg (by omega)];show m.sp-1=_;omega
 ·rw[Zge k,k];show m.sp=_;simp
 ·rw[Zdw k,k];show m.sp-1=_;simp
 ·rw[Ze7 k,k];show m.sp+1=_;simp
 ·rw[Ze8 k,k];show m.sp-1=_;simp
theorem Zgf{m:Hnd}(P:Through c v t n h)(S:Sound c h m)(hlt:m.pl<half c):Sound c h (Zy c T m)∧Edge c m.pl (Zy c T m).pl:=by
 have h11:=P.ops m.pl S.r0 hlt
 have hn:=Zmb (T:=T) h11
 have he:Edge c m.pl (Zy c T m).pl:=⟨S.r0,hlt,hn⟩
 have hr:=P.rng _ _ he
 have e:((m.pl.toNat:Nat):Int)=m.pl:=Qj S.r0
 refine⟨⟨Reach.step S.live he (by omega),hr.1,hr.2,?_⟩,he⟩
 rw[Zmc h11,S.sp]
 have:=P.ht.step m.pl.toNat (by rw[e];exact hlt) (by rw[e];exact S.live) (Zy c T m).pl (by rw[e];exact hn)
 rw[this,e]
def Za6(c:ZB)(T:Int->ZB):Nat->Hnd->Hnd
 | 0,m=>m
 | k+1,m=>if m.pl=half c then m else Za6 c T k (Zy c T m)
theorem Zbg{m:Hnd}(h:m.pl=half c):∀k,Za6 c T k m=m
 | 0=>rfl
 | k+1=>by unfold Za6;rw[if_pos h]
theorem Zcg{m:Hnd}(h:m.pl≠half c)(k:Nat):Za6 c T (k+1) m=Za6 c T k (Zy c T m):=by
 show (if m.pl=half c then m else Za6 c T k (Zy c T m))=_
 rw[if_neg h]
def numM(c:ZB)(T:Int->ZB):Nat->Hnd->Nat
 | 0,_=>0
 | k+1,m=>if m.pl=half c then 0 else numM c T k (Zy c T m)+1
theorem ZaP{m:Hnd}(h:m.pl=half c):∀k,numM c T k m=0
 | 0=>rfl
 | k+1=>by unfold numM;rw[if_pos h]
theorem Zbs{m:Hnd}(h:m.pl≠half c)(k:Nat):numM c T (k+1) m=numM c T k (Zy c T m)+1:=by
 show (if m.pl=half c then 0 else numM c T k (Zy c T m)+1)=_
 rw[if_neg h]
theorem Zdx(c:ZB)(T:Int->ZB):∀(a b:Nat) (m:Hnd),Za6 c T (a+b) m=Za6 c T b (Za6 c T a m)
 | 0,b,m=>by rw[QT];rfl
 | a+1,b,m=>by
  by_cases h:m.pl=half c
  ·rw[Zbg h,Zbg h,Zbg h]
  ·rw[show a+1+b=(a+b)+1 from by omega,Zcg h,Zcg h];exact Zdx c T a b _
theorem Ze9(c:ZB)(T:Int->ZB):∀(a b:Nat) (m:Hnd),(Za6 c T a m).pl=half c->numM c T (a+b) m=numM c T a m
 | 0,b,m,h=>by
  have h':m.pl=half c:=h
  rw[ZaP h',ZaP h']
 | a+1,b,m,h=>by
  by_cases e:m.pl=half c
  ·rw[ZaP e,ZaP e]
  ·rw[Zcg e]at h
   rw[show a+1+b=(a+b)+1 from by omega,Zbs e,Zbs e,Ze9 c T a b _ h]
def start:Hnd:=⟨0,0,λ_=>0,λ_=>0,λ_=>0,λ_=>[]⟩
theorem ZiZ(P:Through c v t n h):Sound c h start:=
 ⟨Reach.start rfl (by show (0:Int)≠-1;omega),QP _,(Z4 c).1,P.ht.zero.symm⟩
structure Vals(m:Hnd):Prop where
 st:∀d,0<=m.st d∧m.st d<=255
 va:∀x,0<=m.va x∧m.va x<=255
 lo:∀l x,x∈m.lo l->0<=x∧x<=255
theorem Zgg:Vals start:=⟨λ_=>by show (0:Int)<=0∧(0:Int)<=255;omega,λ_=>by show (0:Int)<=0∧(0:Int)<=255;omega,λl x hx=>absurd hx (by show ¬x∈([]:List Int);simp)⟩
theorem Zgh{p:Int->Prop}{f:Int->Int}{k x:Int}(h:∀d,p (f d))(hx:p x):∀d,p (up f k x d):=λd=>by
 by_cases e:d=k
 ·subst e;rw[Zcq];exact hx
 ·rw[Zcf e];exact h d
theorem Zgi(op a b:Int):0<=reckon op a b∧reckon op a b<=255:=by
 unfold reckon
 split
 ·omega
 split
 ·omega
 split
 ·have:=Int.emod_nonneg (a*b) (show (256:Int)≠0 by omega)
  have:=Int.emod_lt_of_pos (a*b) (show (0:Int)<256 by omega)
  omega
 split
 ·split<;>omega
 ·split<;>omega
theorem Zmd{m:Hnd}(V:Vals m):Vals (Zy c T m):=by
 have hb:∀(s:ZB) (k:Int),0<=bv s k∧bv s k<=255:=λs k=>by have:=Zag s k;omega
 unfold Zy
 split
 ·exact⟨Zgh (p:=λx=>0<=x∧x<=255) V.st (hb _ _),V.va,V.lo⟩
 split
 ·exact⟨Zgh (p:=λx=>0<=x∧x<=255) V.st (V.va _),V.va,V.lo⟩
 split
 ·exact⟨V.st,Zgh (p:=λx=>0<=x∧x<=255) V.va (V.st _),V.lo⟩
 split
 ·exact⟨V.st,V.va,V.lo⟩
 split
 ·exact⟨V.st,V.va,V.lo⟩
 split
 ·exact⟨Zgh (p:=λx=>0<=x∧x<=255) V.st (hb _ _),V.va,V.lo⟩
 split
 ·refine⟨V.st,V.va,λl x hx=>?_⟩
  by_cases e:l=bv c (2*m.pl+1)
  ·subst e
   have hx:x∈up m.lo (bv c (2*m.pl+1)) (m.lo (bv c (2*m.pl+1))++[m.st (m.sp-1)]) (bv c (2*m.pl+1)):=hx
   rw[Zcq,QI,QA]at hx
   rcases hx with hx|hx
   ·exact V.lo _ x hx
   ·rw[hx];exact V.st _
  ·have hx:x∈up m.lo (bv c (2*m.pl+1)) (m.lo (bv c (2*m.pl+1))++[m.st (m.sp-1)]) l:=hx
   rw[Zcf e]at hx;exact V.lo l x hx
 ·exact⟨Zgh (p:=λx=>0<=x∧x<=255) V.st (Zgi _ _ _),V.va,V.lo⟩
theorem Zme{m:Hnd}{l:Int}(P:Through c v t n h)(S:Sound c h m)(hlt:m.pl<half c)(hl:¬Lv n l):(Zy c T m).lo l=m.lo l:=by
 by_cases e:bv c (2*m.pl)=11
 ·rw[Ze8 e]
  exact Zcf (λk=>hl (by rw[k];exact P.lv m.pl S.r0 hlt (.inr e)))
 ·have h11:=P.ops m.pl S.r0 hlt
  have h0:=(Zag c (2*m.pl)).1
  have hcs:bv c (2*m.pl)=0∨bv c (2*m.pl)=1∨bv c (2*m.pl)=2∨(3<=bv c (2*m.pl)∧bv c (2*m.pl)<=7)∨bv c (2*m.pl)=8∨bv c (2*m.pl)=9∨bv c (2*m.pl)=10:=by omega
  rcases hcs with z|z|z|z|z|z|z
  ·rw[ZhP z]
  ·rw[ZhQ z]
  ·rw[ZhR z]
  ·rw[Zbf z]
  ·rw[Zge z]
  ·rw[Zdw z]
  ·rw[Ze7 z]
theorem ZhS{c v t:ZB}{T:Int->ZB}{n:Int}{h:Nat->Int}(P:Through c v t n h):∀(k:Nat) (m:Hnd),Sound c h m->Vals m->Sound c h (Za6 c T k m)∧Vals (Za6 c T k m)∧∀l,¬Lv n l->(Za6 c T k m).lo l=m.lo l
 | 0,m,S,V=>⟨S,V,λ_ _=>rfl⟩
 | k+1,m,S,V=>by
  by_cases e:m.pl=half c
  ·rw[Zbg e];exact⟨S,V,λ_ _=>rfl⟩
  ·have r1:=S.r1
   have hlt:m.pl<half c:=by omega
   rw[Zcg e]
   obtain⟨a,b,d⟩:=ZhS (T:=T) P k _ (Zgf (T:=T) P S hlt).1 (Zmd (c:=c) (T:=T) V)
   exact⟨a,b,λl hl=>(d l hl).trans (Zme P S hlt hl)⟩
def lst(f:Int->Int)(k:Nat):List Int:=(List.range k).map λi=>f (i:Nat)
theorem Zmf(f:Int->Int)(k:Nat):(lst f k).length=k:=by simp[lst]
theorem ZjZ(f:Int->Int)(k:Nat):lst f (k+1)=lst f k++[f k]:=by
 unfold lst;rw[List.range_succ];simp
theorem Zsn(s:ZB)(k:Nat):tl (tl s k) 1=tl s ((k+1:Nat):Int):=by
 unfold tl
 rw[ByteArray.extract_extract]
 congr 1
 have:(s.extract (k:Int).toNat s.size).size=s.size-k:=by rw[QX];simp
 rw[this]
 omega
theorem Zmg{k:Int}(h:(s.size:Int)<=k):bv s k=0:=by
 unfold bv byt
 have:s.data.toList.length=s.size:=by simp
 rw[List.getD,Uh (by rw[this];omega)]
 rfl
theorem Zso(h:k<s.size):bv (tl s k) 0=bv s k:=by
 unfold bv tl
 have:=ZiN s k s.size 0 (Qb _) (by omega)
 simp at this ⊢
 rw[this]
theorem Zi0(h:s.size<=k):tl s k={data:=#[]}:=by
 apply ByteArray.ext
 unfold tl
 rw[Up]
 have:s.data.size<=k:=h
 simp
 omega
theorem Zp5(s:ZB):tl s 0=s:=by
 unfold tl
 simp
theorem Zi1(s:ZB)(k:Nat):(tl s k).size=s.size-k:=by
 unfold tl;rw[QX];simp
def endOf(c:ZB)(T:Int->ZB)(f:Nat):Int:=if (Za6 c T f start).pl=half c then 1 else 2
def logOf(c:ZB)(T:Int->ZB)(f:Nat)(l:Int):ZB:=bs ((Za6 c T f start).lo l)
def varsOf(c v:ZB)(T:Int->ZB)(f:Nat):ZB:=bs (lst (Za6 c T f start).va v.size)
def cntOf(c:ZB)(T:Int->ZB)(f:Nat):Int:=(numM c T f start:Nat)
def ZoY(c v:ZB)(T:Int->ZB)(f:Nat):Value:=.agg #[.int .i64 (endOf c T f),.int .i64 (cntOf c T f),.string (logOf c T f 0),.string (logOf c T f 1),.string (logOf c T f 2),.string (logOf c T f 3),.string (logOf c T f 4),.string (logOf c T f 5),.string (varsOf c v T f)]
def ZjG:Value:=.agg #[.int .i64 0,.int .i64 0,.string {data:=#[]},.string {data:=#[]},.string {data:=#[]},.string {data:=#[]},.string {data:=#[]},.string {data:=#[]},.string {data:=#[]}]
def Zhu(T:Int->ZB):Value:=.agg #[.string (T 0),.string (T 1),.string (T 2),.string (T 3),.string (T 4),.string (T 5)]
theorem Zn7(c:ZB)(T:Int->ZB)(m:Hnd)(l:Int):((Zy c T m).lo l).length<=(m.lo l).length+1:=by
 unfold Zy
 split
 ·show (m.lo l).length<=_;omega
 split
 ·show (m.lo l).length<=_;omega
 split
 ·show (m.lo l).length<=_;omega
 split
 ·show (m.lo l).length<=_;omega
 split
 ·show (m.lo l).length<=_;omega
 split
 ·show (m.lo l).length<=_;omega
 split
 ·show (up m.lo (bv c (2*m.pl+1)) (m.lo (bv c (2*m.pl+1))++[m.st (m.sp-1)]) l).length<=_
  by_cases e:l=bv c (2*m.pl+1)
  ·subst e;rw[Zcq];simp
  ·rw[Zcf e];omega
 ·show (m.lo l).length<=_;omega
theorem Zmh(c:ZB)(T:Int->ZB)(l:Int):∀(k:Nat) (m:Hnd),((Za6 c T k m).lo l).length<=(m.lo l).length+k
 | 0,m=>Qb _
 | k+1,m=>by
  by_cases e:m.pl=half c
  ·rw[Zbg e];omega
  ·rw[Zcg e]
   have a:=Zmh c T l k (Zy c T m)
   have b:=Zn7 c T m l
   omega
theorem Zmi{m:Hnd}(h:(Za6 c T k m).pl≠half c):Za6 c T (k+1) m=Zy c T (Za6 c T k m):=by
 rw[Zdx c T k 1 m,Zcg h]
 rfl
theorem Zmj{m:Hnd}(h:(Za6 c T k m).pl=half c)(f:Nat)(hk:k<=f):Za6 c T f m=Za6 c T k m∧numM c T f m=numM c T k m:=by
 have e:f=k+(f-k):=by omega
 constructor
 ·rw[e,Zdx,Zbg h]
 ·rw[e,Ze9 c T k (f-k) m h]
end Go.Proofs.YtcnbifdlkalimabGreat
