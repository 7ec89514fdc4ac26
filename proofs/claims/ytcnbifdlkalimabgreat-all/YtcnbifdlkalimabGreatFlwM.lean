/- Lemmas; their conditions stand in each. -/
import Derived.Test.YtcnbifdlkalimabGreatSrcC
import Derived.Test.YtcnbifdlkalimabGreatTrnE
namespace Go.Proofs.YtcnbifdlkalimabGreat
open Go.RowKit Go.Proofs.Tryz
set_option linter.all false
set_option maxRecDepth 100000
set_option maxHeartbeats 6400000
variable{n:Int}{inn:List Int}{B:Nat}{v:Value}{w w1 wr:World}{T:ZB}
theorem Wo{s:ZB}(r:Cf s n)(a:Int)(w:World)(z:0<=a)(l:a<n) :
  Calls prog 169 #[.agg #[.int .i64 n,.string s],.int .i64 a] w λe A=>e=.returned (.bool (BJ s n a))∧Below w.heap.size w A:=by
 obtain⟨D,E,-⟩:=id r;go_in;go_wp2;go_loopw [5] (λc wr=>∃k:Nat,(k:Int)<=n∧c=.int .i64 k∧Kp (∀i:Nat,i<k->le s n a i=true)∧Bz w wr (.int .i64 n) (.string s)) (λc _=>n.toNat-(intOf c).toNat);case atStart=>exact⟨0,by omega,rfl,⟨λi q=>absurd q (by omega)⟩,Bz.mk' w _ _ _⟩
 case round=>
  obtain⟨k,C,rfl,f,d⟩:=hrel;obtain⟨j,t,u,y⟩:=id d;by_cases m:(k:Int)<n
  ·go_wp2_with fail;refine(ZL r a k wr z l (by omega) m).mono ?_;rintro e w1 ⟨rfl,g⟩;replace d:=d.step g;clear j t u y g;obtain⟨j,t,u,y⟩:=id d;obtain⟨x,h⟩:∃x,le s n a k=x:=⟨_,rfl⟩
   rw[h];replace h:=Z_ h;cases x
   ·go_wp2;go_ret;exact⟨Za (Zm (i:=k) (by omega) h.o).symm,j⟩
   ·go_wp2;go_roundw;case rel=>exact⟨k+1,by omega,by go_num,⟨ZC (p:=λb=>le s n a b) f.o h.o⟩,d⟩
    case measure=>simp[intOf];omega
  ·go_wp2;go_ret;exact⟨Za (Zb.2 (λi q=>f.o i (by omega))).symm,j⟩
theorem NO{s:ZB}(l:Cf s n)(w:World) :
  Calls prog 98 #[.agg #[.int .i64 n,.string s]] w λe t=>e=.returned (.int .i64 (By s n))∧Below w.heap.size w t:=by
 obtain⟨y,z,-⟩:=id l;go_in;go_wp2;go_loopw [3] (λc wr=>∃k:Nat,(k:Int)<=n∧c=.int .i64 k∧Kp (∀i:Nat,i<k->BJ s n i=false)∧Bz w wr (.int .i64 n) (.string s)) (λc _=>n.toNat-(intOf c).toNat);case atStart=>exact⟨0,by omega,rfl,⟨λi j=>absurd j (by omega)⟩,Bz.mk' w _ _ _⟩
 case round=>
  obtain⟨k,u,rfl,b,a⟩:=hrel;obtain⟨g,m,q,r⟩:=id a;by_cases h:(k:Int)<n
  ·go_wp2_with fail;refine(Wo l k wr (by omega) h).mono ?_;rintro e w1 ⟨rfl,d⟩;replace a:=a.step d;clear g m q r d;obtain⟨g,m,q,r⟩:=id a;obtain⟨x,f⟩:∃x,BJ s n k=x:=⟨_,rfl⟩
   rw[f];replace f:=Z_ f;cases x
   ·go_wp2;go_roundw;case rel=>exact⟨k+1,by omega,by go_num,⟨JI (p:=BJ s n) b.o f.o⟩,a⟩
    case measure=>simp[intOf];omega
   ·go_wp2;go_ret;exact⟨ZG (by unfold By;rw[IN (i:=k) (by omega) b.o f.o];rfl),g⟩
  ·go_wp2;go_ret;exact⟨ZG (by unfold By;rw[JG (λi j=>b.o i (by omega))];rfl),g⟩
def JD(m:Nat->Bool):List Value:=[.bool (m 0),.bool (m 1),.bool (m 2),.bool (m 3),.bool (m 4),.bool (m 5)]
def FH(m:Nat->Bool):Value:=.agg #[.bool (m 0),.bool (m 1),.bool (m 2),.bool (m 3),.bool (m 4),.bool (m 5)]
theorem GI(w:World)(b c d f g h:Value)(t:TypeId):AF (w.alloc (.cells #[b,c,d,f,g,h] t)) w.heap.size [b,c,d,f,g,h]:=by
 refine⟨by simp,?_,?_⟩
 ·intro i v a;have j:i<6:=by have:=(List.getElem?_eq_some_iff.1 a).1;simpa using this
  have e:(w.alloc (.cells #[b,c,d,f,g,h] t)).cell? ⟨w.heap.size,i,none⟩=([b,c,d,f,g,h]:List Value)[i]?:=by
   match i,j with
   | 0,_=>simp[go_sem]
   | 1,_=>simp[go_sem]
   | 2,_=>simp[go_sem]
   | 3,_=>simp[go_sem]
   | 4,_=>simp[go_sem]
   | 5,_=>simp[go_sem]
  rw[e];exact a
 ·intro i v a;have j:i<6:=by have:=(List.getElem?_eq_some_iff.1 a).1;simpa using this
  match i,j with
  | 0,_=>simp[go_sem]
  | 1,_=>simp[go_sem]
  | 2,_=>simp[go_sem]
  | 3,_=>simp[go_sem]
  | 4,_=>simp[go_sem]
  | 5,_=>simp[go_sem]
theorem ZqJ(m:Nat->Bool){l:Nat}(h:l<6):(JD m)[l]?=some (.bool (m l)):=by
 match l,h with
 | 0,_=>rfl
 | 1,_=>rfl
 | 2,_=>rfl
 | 3,_=>rfl
 | 4,_=>rfl
 | 5,_=>rfl
theorem Rr(g l:Nat)(m:Nat->Bool)(w:World)(W:AF w g (JD m))(a:l<6) :
  Calls prog 99 #[.pointer (some ⟨g,0,none⟩),.int .i64 l] w λe d=>e=.returned (.bool (m l))∧d=w:=by
 have f:=W.c l _ (ZqJ m a);have b:(l:Int)<6:=by omega
 clear W;generalize m l=x at *;go_in;go_wp2;go_ret;exact⟨by simp,rfl⟩
structure Jt(w wr:World)(tb sb:Nat)(n:Int)(T:ZB)(m:Nat->Bool):Prop where
 b:Below w.heap.size w wr
 t:AF wr tb [.int .i64 n,.string T]
 s:AF wr sb (JD m)
theorem Jt.step{c sb:Nat}{m:Nat->Bool}(h:Jt w wr c sb n T m)(a:Below wr.heap.size wr w1):Jt w w1 c sb n T m:=
 ⟨h.b.trans (a.mono h.b.size),h.t.step a,h.s.step a⟩
theorem WT(r:Cf T n)(G:Ee T n=true)(H:Cs T n)(m:Nat->Bool)(w:World) :
  Calls prog 44 #[.agg #[.int .i64 n,.string T],FH m] w λe U=>e=.returned (.int .i64 (BO T n m n.toNat))∧Below w.heap.size w U:=by
 have X:n<=6:=r.2;have V:1<=n:=r.1;have h:∀k:Nat,(k:Int)<=n->Lv n (BO T n m k):=λk q=>(Ni H m k q).1;have N:BO T n m 0=By T n:=rfl
 replace G:=Z_ G;replace h:=Z_ h;unfold FH;go_in;go_wp2_with fail;obtain⟨C,g⟩:∃C,(w.alloc (.cells #[.int .i64 n,.string T] 54)).alloc (.cells #[.bool (m 0),.bool (m 1),.bool (m 2),.bool (m 3),.bool (m 4),.bool (m 5)] 107)=C:=⟨_,rfl⟩
 have j:Jt w C w.heap.size (w.heap.size+1) n T m:=by rw[<-g];have Q:Below w.heap.size w (w.alloc (.cells #[.int .i64 n,.string T] 54)):=(Qh _ _).alloc (Qb _) _;refine⟨Q.alloc (by simp) _,(AF.new2 w _ _ _).alloc _,?_⟩;have:=GI (w.alloc (.cells #[.int .i64 n,.string T] 54)) (.bool (m 0)) (.bool (m 1)) (.bool (m 2)) (.bool (m 3)) (.bool (m 4)) (.bool (m 5)) 107;rw[show (w.alloc (.cells #[.int .i64 n,.string T] 54)).heap.size=w.heap.size+1 from by simp]at this;exact this
 have l:=λW=>NO r W;replace l:=Z_ l;replace j:=Z_ j;rw[g];refine(l.o C).mono ?_;rintro e w1 ⟨rfl,K⟩;have D:=j.o.step K
 clear K j g l;go_wp2_with fail;go_loopw [5,6] (λc d wr=>∃k:Nat,(k:Int)<=n∧c=.int .i64 (BO T n m k)∧d=.int .i64 k∧Jt w wr w.heap.size (w.heap.size+1) n T m) (λ_ d _=>n.toNat-(intOf d).toNat);case atStart=>exact⟨0,by omega,rfl,rfl,D⟩
 case round=>
  obtain⟨k,q,rfl,rfl,A⟩:=hrel;have R:=A.t.c 0 _ rfl;have S:=A.t.c 1 _ rfl;by_cases F:(k:Int)<n
  ·have p:=Rr (w.heap.size+1) k m wr A.s (by omega);have f:=λW=>Le r (BO T n m k) k W (h.o k q).1 (h.o k q).2 (by omega) F;have M:(D0 T n (BO T n m k) k).getD 0=jn T n (BO T n m k) k:=by unfold jn;rw[KR G.o]
   rw[M]at f;obtain⟨x,J⟩:∃x,m k=x:=⟨_,rfl⟩
   rw[J]at p;have a:BO T n m (k+1)=if x=true then jn T n (BO T n m k) k else BO T n m k:=by rw[<-J];rfl
   generalize jn T n (BO T n m k) k=y at *;generalize BO T n m k=z at *;generalize (D0 T n z k).isSome=u at *;replace p:=Z_ p;replace f:=Z_ f;replace a:=Z_ a;replace A:=Z_ A;clear D h M J;go_wp2_with fail;refine p.o.mono ?_;rintro e Y ⟨rfl,i⟩;have I:=i.symm;clear i;subst I;cases x
   ·go_wp2_with fail;go_roundw;case rel=>exact⟨k+1,by omega,by rw[a.o];rfl,by go_num,A.o⟩
    case measure=>simp[intOf];omega
   ·go_wp2_with fail;refine(f.o _).mono ?_;rintro e Z ⟨rfl,L⟩;have P:=A.o.step L;clear L A R S;go_wp2_with fail;go_roundw;case rel=>exact⟨k+1,by omega,by rw[a.o];rfl,by go_num,P⟩
    case measure=>simp[intOf];omega
  ·have E:Kp (k=n.toNat):=⟨by omega⟩
   have O:Kp _:=⟨A⟩
   clear A D;go_wp2;go_ret;exact⟨ZG (by rw[E.o]),O.o.b⟩
theorem RN(C:Cf T n)(m:Nat->Bool)(c:Int)(G:Lv n c)(w:World) :
  Calls prog 102 #[FH m,.agg #[.int .i64 n,.string T],.int .i64 c] w λe M=>e=.returned (.bool (CZ T n m c))∧Below w.heap.size w M:=by
 have O:n<=6:=C.2;have N:1<=n:=C.1;have h:=λ(k:Nat) (I:(k:Int)<n) W=>ZL C c k W G.1 G.2 (by omega) I;replace h:=Z_ h;unfold FH;have g:Jt w ((w.alloc (.cells #[.bool (m 0),.bool (m 1),.bool (m 2),.bool (m 3),.bool (m 4),.bool (m 5)] 107)).alloc (.cells #[.int .i64 n,.string T] 54)) (w.heap.size+1) w.heap.size n T m:=by have J:Below w.heap.size w (w.alloc (.cells #[.bool (m 0),.bool (m 1),.bool (m 2),.bool (m 3),.bool (m 4),.bool (m 5)] 107)):=(Qh _ _).alloc (Qb _) _;refine⟨J.alloc (by simp) _,?_,(GI w _ _ _ _ _ _ _).alloc _⟩;have:=AF.new2 (w.alloc (.cells #[.bool (m 0),.bool (m 1),.bool (m 2),.bool (m 3),.bool (m 4),.bool (m 5)] 107)) (.int .i64 n) (.string T) 54;rw[show (w.alloc (.cells #[.bool (m 0),.bool (m 1),.bool (m 2),.bool (m 3),.bool (m 4),.bool (m 5)] 107)).heap.size=w.heap.size+1 from by simp]at this;exact this
 replace g:=Z_ g;go_in;go_wp2_with fail;go_loopw [7] (λd wr=>∃k:Nat,(k:Int)<=n∧d=.int .i64 k∧Kp (∀j:Nat,j<k->(!(m (j:Int).toNat)||le T n c j)=true)∧Jt w wr (w.heap.size+1) w.heap.size n T m) (λd _=>n.toNat-(intOf d).toNat);case atStart=>exact⟨0,by omega,rfl,⟨λi H=>absurd H (by omega)⟩,g.o⟩
 case round=>
  obtain⟨k,I,rfl,a,A⟩:=hrel;have K:=A.t.c 0 _ rfl;have L:=A.t.c 1 _ rfl;by_cases z:(k:Int)<n
  ·have u:=Rr w.heap.size k m wr A.s (by omega);have f:=h.o k z;obtain⟨x,q⟩:∃x,m k=x:=⟨_,rfl⟩
   obtain⟨y,r⟩:∃y,le T n c k=y:=⟨_,rfl⟩
   rw[q]at u;rw[r]at f;replace u:=Z_ u;replace f:=Z_ f;replace q:=Z_ q;replace r:=Z_ r;replace A:=Z_ A;clear g h;go_wp2_with fail;refine u.o.mono ?_;rintro e P ⟨rfl,l⟩;have D:=l.symm;clear l;subst D;cases x
   ·go_wp2_with fail;go_roundw;case rel=>exact⟨k+1,by omega,by go_num,⟨ZC (p:=λj=>!(m j.toNat)||le T n c j) a.o (by rw[QC,q.o];rfl)⟩,A.o⟩
    case measure=>simp[intOf];omega
   ·go_wp2_with fail;refine(f.o _).mono ?_;rintro e Q ⟨rfl,F⟩;have E:Kp _:=⟨A.o.step F⟩
    clear F A K L;cases y
    ·go_wp2;go_ret;refine⟨Za ?_,E.o.b⟩;unfold CZ;rw[Zm (i:=k) (by omega) (by rw[QC,q.o,r.o];rfl)];rfl
    ·go_wp2_with fail;go_roundw;case rel=>exact⟨k+1,by omega,by go_num,⟨ZC (p:=λj=>!(m j.toNat)||le T n c j) a.o (by rw[r.o,Bool.or_true])⟩,E.o⟩
     case measure=>simp[intOf];omega
  ·replace A:=Z_ A;clear g h;go_wp2;go_ret;refine⟨Za ?_,A.o.b⟩;unfold CZ;rw[Zb.2 (λi H=>a.o i (by omega))];rfl
theorem Y7{e:TypeId}{l:List Int}(h:w.ownsRow B e 1 v l.length (l.map (Value.int .i64))){i:Nat}{x:Int}(d:l[i]?=some x):∃g c,v=.slice (some ⟨g,0,none⟩) l.length c∧g<w.heap.size∧w.cell? ⟨g,i,none⟩=some (.int .i64 x):=by
 have j:i<l.length:=(Ql.1 d).1;obtain⟨g,c,b⟩:∃g c,v=.slice (some ⟨g,0,none⟩) l.length c:=by
  rcases h.2 with h|⟨g,a,f,h,_⟩
  ·omega
  ·exact⟨g,a,h⟩
 rw[b]at h;refine⟨g,c,b,(h.lt g rfl).2,?_⟩;rw[h.cellAt i (by omega),Ui,d];rfl
structure Ju(w wr:World)(n:Int)(T:ZB)(x:Sq):Prop where
 b:Below w.heap.size w wr
 s:AF wr w.heap.size (BS x)
 t:AF wr (w.heap.size+1) [.int .i64 n,.string T]
theorem Ju.step{x:Sq}(h:Ju w wr n T x)(a:Below wr.heap.size wr w1):Ju w w1 n T x:=
 ⟨h.b.trans (a.mono h.b.size),h.s.step a,h.t.step a⟩
theorem Ju.new(w:World)(n:Int)(T:ZB)(x:Sq)(a b:TypeId) :
  Ju w ((w.alloc (.cells #[.int .i64 x.k,.int .i64 x.pl,.int .i64 x.ou,.int .i64 x.ta,.bool (x.rd 0),.bool (x.rd 1),.bool (x.rd 2),.bool (x.rd 3),.bool (x.rd 4),.bool (x.rd 5),.bool (x.tp 0),.bool (x.tp 1),.bool (x.tp 2),.bool (x.tp 3),.bool (x.tp 4),.bool (x.tp 5)] a)).alloc (.cells #[.int .i64 n,.string T] b)) n T x:=by
 have o:=Ep w x a;have c:Below w.heap.size w (w.alloc (.cells #[.int .i64 x.k,.int .i64 x.pl,.int .i64 x.ou,.int .i64 x.ta,.bool (x.rd 0),.bool (x.rd 1),.bool (x.rd 2),.bool (x.rd 3),.bool (x.rd 4),.bool (x.rd 5),.bool (x.tp 0),.bool (x.tp 1),.bool (x.tp 2),.bool (x.tp 3),.bool (x.tp 4),.bool (x.tp 5)] a)):=(Qh _ _).alloc (Qb _) _;have d:(w.alloc (.cells #[.int .i64 x.k,.int .i64 x.pl,.int .i64 x.ou,.int .i64 x.ta,.bool (x.rd 0),.bool (x.rd 1),.bool (x.rd 2),.bool (x.rd 3),.bool (x.rd 4),.bool (x.rd 5),.bool (x.tp 0),.bool (x.tp 1),.bool (x.tp 2),.bool (x.tp 3),.bool (x.tp 4),.bool (x.tp 5)] a)).heap.size=w.heap.size+1:=by simp
 generalize w.alloc (.cells #[.int .i64 x.k,.int .i64 x.pl,.int .i64 x.ou,.int .i64 x.ta,.bool (x.rd 0),.bool (x.rd 1),.bool (x.rd 2),.bool (x.rd 3),.bool (x.rd 4),.bool (x.rd 5),.bool (x.tp 0),.bool (x.tp 1),.bool (x.tp 2),.bool (x.tp 3),.bool (x.tp 4),.bool (x.tp 5)] a)=w1 at *;refine⟨c.alloc (by omega) _,o.alloc _,?_⟩;have:=AF.new2 w1 (.int .i64 n) (.string T) b;rw[d]at this;exact this
theorem ZqK(D:Cf T n)(x:Sq)(inn:List Int)(v:Value)(B:Nat)(w:World)(f:w.ownsRow B 3 1 v inn.length (inn.map (Value.int .i64)))(H:inn.length<=100000) :
  Calls prog 43 #[D6 x,v,.agg #[.int .i64 n,.string T]] w λe E=>e=.returned (.int .i64 (BQ T n inn x.ou))∧Below w.heap.size w E:=by
 have A:=Ju.new w n T x 109 54;have c:=λW=>NO D W;replace c:=Z_ c;obtain⟨I,F,r⟩:=Zc f;unfold D6;by_cases l:x.ou<0
 ·have a:BQ T n inn x.ou=By T n:=if_pos (.inl l);rw[a];subst r;have z:(x.ou<0)=True:=by simp[l]
  clear f a;generalize inn.length=m at *;replace A:=Z_ A;go_in;go_wp2_with fail;refine(c.o _).mono ?_;rintro e w1 ⟨rfl,d⟩;have k:Kp _:=⟨A.o.step d⟩
  clear d A c;go_wp2;go_ret;exact⟨rfl,k.o.b⟩
 ·by_cases t:(inn.length:Int)<=x.ou
  ·have a:BQ T n inn x.ou=By T n:=if_pos (.inr t);rw[a];subst r;clear f a;generalize inn.length=m at *;replace A:=Z_ A;go_in;go_wp2_with fail;refine(c.o _).mono ?_;rintro e w1 ⟨rfl,d⟩;have k:Kp _:=⟨A.o.step d⟩
   clear d A c;go_wp2;go_ret;exact⟨rfl,k.o.b⟩
  ·obtain⟨i,j⟩:∃i:Nat,x.ou=i:=⟨x.ou.toNat,by omega⟩
   have h:i<inn.length:=by omega
   have a:BQ T n inn x.ou=inn[i]:=by unfold BQ;rw[if_neg (by omega),j,QC,Qs,Qn h];rfl
   rw[a];obtain⟨g,u,s,G,p⟩:=Y7 f (Qn h);subst s;clear f a r;have q:(0:Int)<=x.ou:=by omega
   have C:(i:Int)<(inn.length:Int):=by omega
   generalize inn[i]=y at *;generalize inn.length=m at *;replace A:=Z_ A;rw[j];rw[j]at A;clear l t j q;go_in;go_wp2;go_ret;exact⟨rfl,A.o.b⟩
theorem Xb(L:Cf T n)(x:Sq)(c v:Int)(S:Lv n c)(M:Lv n v)(i:x.k=1∨x.k=2->Lv n x.ta)(w:World) :
  Calls prog 46 #[D6 x,.agg #[.int .i64 n,.string T],.int .i64 c,.int .i64 v] w λe Z=>e=.returned (.bool (He T n x c v))∧Below w.heap.size w Z:=by
 have A:=Ju.new w n T x 109 54;have f:=λW=>RN L x.tp c S W;have g:=λW=>RN L x.tp v M W
 unfold FH at f g;unfold D6;have r:=A.t.c 0 _ rfl;have u:=A.t.c 1 _ rfl;replace A:=Z_ A;replace f:=Z_ f;replace g:=Z_ g;by_cases a:x.k=1∨x.k=2
 ·have Q:=i a;have m:=λW=>ZL L v x.ta W M.1 M.2 Q.1 Q.2;have j:He T n x c v=(!(le T n v x.ta)||CZ T n x.tp c):=if_pos a
  rw[j];obtain⟨y,R⟩:∃y,le T n v x.ta=y:=⟨_,rfl⟩
  rw[R]at m ⊢;generalize CZ T n x.tp c=z at *;replace m:=Z_ m;clear i j R g r u;have K:x.k=1∨x.k=2:=a;rcases K with O|P
  ·rw[O]at A ⊢;clear a O;go_in;go_wp2_with fail;refine(m.o _).mono ?_;rintro e w1 ⟨rfl,p⟩;have d:Kp _:=⟨A.o.step p⟩
   have C:=d.o.s.c 10 _ rfl;have D:=d.o.s.c 11 _ rfl;have E:=d.o.s.c 12 _ rfl;have F:=d.o.s.c 13 _ rfl;have G:=d.o.s.c 14 _ rfl;have H:=d.o.s.c 15 _ rfl;have I:=d.o.t.c 0 _ rfl;have J:=d.o.t.c 1 _ rfl;clear p A m;cases y
   ·go_wp2;go_ret;exact⟨by simp,d.o.b⟩
   ·go_wp2_with fail;refine(f.o _).mono ?_;rintro e N ⟨rfl,h⟩;have l:Kp _:=⟨d.o.step h⟩
    clear h d C D E F G H I J;go_wp2;go_ret;exact⟨by simp,l.o.b⟩
  ·rw[P]at A ⊢;clear a P;go_in;go_wp2_with fail;refine(m.o _).mono ?_;rintro e w1 ⟨rfl,p⟩;have d:Kp _:=⟨A.o.step p⟩
   have C:=d.o.s.c 10 _ rfl;have D:=d.o.s.c 11 _ rfl;have E:=d.o.s.c 12 _ rfl;have F:=d.o.s.c 13 _ rfl;have G:=d.o.s.c 14 _ rfl;have H:=d.o.s.c 15 _ rfl;have I:=d.o.t.c 0 _ rfl;have J:=d.o.t.c 1 _ rfl;clear p A m;cases y
   ·go_wp2;go_ret;exact⟨by simp,d.o.b⟩
   ·go_wp2_with fail;refine(f.o _).mono ?_;rintro e N ⟨rfl,h⟩;have l:Kp _:=⟨d.o.step h⟩
    clear h d C D E F G H I J;go_wp2;go_ret;exact⟨by simp,l.o.b⟩
 ·have U:(x.k==1)=false:=Qf.2 λe=>a (.inl e);have V:(x.k==2)=false:=Qf.2 λe=>a (.inr e)
  have X:¬x.k=1:=λe=>a (.inl e);have Y:¬x.k=2:=λe=>a (.inr e)
  by_cases q:x.k=4
  ·have j:He T n x c v=CZ T n x.tp v:=by unfold He;rw[if_neg a,if_pos q]
   rw[j];generalize CZ T n x.tp v=z at *;rw[q]at A ⊢;clear i j f a U V X Y q r u;go_in;go_wp2_with fail;refine(g.o _).mono ?_;rintro e N ⟨rfl,h⟩;have l:Kp _:=⟨A.o.step h⟩
   clear h A g;go_wp2;go_ret;exact⟨rfl,l.o.b⟩
  ·have j:He T n x c v=CZ T n x.tp c:=by unfold He;rw[if_neg a,if_neg q]
   rw[j];generalize CZ T n x.tp c=z at *;have k4:(x.k==4)=false:=Qf.2 q;clear i j g a r u;go_in;go_wp2_with fail;refine(f.o _).mono ?_;rintro e N ⟨rfl,h⟩;have l:Kp _:=⟨A.o.step h⟩
   clear h A f;go_wp2;go_ret;exact⟨rfl,l.o.b⟩
theorem GH:∀(l:List Sq) (e i:Nat) (x:Sq),l[e]?=some x->i<16->(l.flatMap BS)[e*16+i]?=(BS x)[i]?
 | [],e,i,x,h,a=>by simp at h
 | y::l,0,i,x,h,a=>by
  have b:y=x:=by simpa using h
  subst b;rw[Uu,QD (by show 0*16+i<16;omega)];simp
 | y::l,e+1,i,x,h,a=>by rw[Uu,QF (by show 16<=(e+1)*16+i;omega)];rw[show (e+1)*16+i-(BS y).length=e*16+i from by show (e+1)*16+i-16=_;omega];exact GH l e i x (by simpa using h) a
theorem ZqL{l:List Sq}(h:w.ownsRow B 109 16 v l.length (l.flatMap BS)){k:Nat}{x:Sq}(f:l[k]?=some x):∃g c,v=.slice (some ⟨g,0,none⟩) l.length c∧g<w.heap.size∧∀i u,(BS x)[i]?=some u->w.cell? ⟨g,k*16+i,none⟩=some u:=by
 have m:k<l.length:=(Ql.1 f).1;obtain⟨g,c,d⟩:∃g c,v=.slice (some ⟨g,0,none⟩) l.length c:=by
  rcases h.2 with h|⟨g,a,j,h,_⟩
  ·omega
  ·exact⟨g,a,h⟩
 rw[d]at h;refine⟨g,c,d,(h.lt g rfl).2,λi u e=>?_⟩;have b:i<16:=by have:=(List.getElem?_eq_some_iff.1 e).1;simpa [BS] using this
 rw[h.cellAt (k*16+i) (by omega),GH l k i x f b];exact e
structure IC(w wr:World)(n:Int)(T:ZB)(B:Nat)(v:Value)(ss:List Sq)(iv:Value)(inn:List Int):Prop where
 b:Below w.heap.size w wr
 t:AF wr w.heap.size [.int .i64 n,.string T]
 r:wr.ownsRow B 109 16 v ss.length (ss.flatMap BS)
 i:wr.ownsRow (w.heap.size+1) 3 1 iv inn.length (inn.map (Value.int .i64))
 v:∀g,v.ownBlock=some g->g<w.heap.size
theorem IC.step{d:List Sq}{c:Value}(h:IC w wr n T B v d c inn)(a:Below wr.heap.size wr w1):IC w w1 n T B v d c inn:=
 ⟨h.b.trans (a.mono h.b.size),h.t.step a,Zo h.r a,Zo h.i a,h.v⟩
theorem ZqM:(prog.info? 3).map (λi=>(i.zero,i.size,i.bytes))=some (some (.int .i64 0),1,8):=by kernel_rfl
theorem IC.add{C l:World}{E:List Sq}{z F:Value}{y:Int}{o:Obj}(A:IC w C n T B v E z inn)(q:(C.alloc o).grownBy l z.ownBlock)(j:l.ownsRow (w.heap.size+1) 3 1 F (inn.length+1) (inn.map (Value.int .i64)++[.int .i64 y])):IC w l n T B v E F (inn++[y]):=by
 have a:=A.step ((Qh _ _).alloc (Qb _) o);generalize C.alloc o=m at *;have D:∀k,z.ownBlock=some k->w.heap.size+1<=k:=λk s=>(A.i.lt k s).1;have p:∀k,k<m.heap.size->k<=w.heap.size->l.heap[k]?=m.heap[k]?:=λk G H=>q.block k G (λe=>by have:=D k e.symm;omega)
 have d:=a.t.lt;refine⟨a.b.grown q (a.b.size) (λk s=>by have:=D k s;omega),?_,?_,?_,A.v⟩
 ·refine⟨Qq d q.size,λi u x=>?_,λi u x=>?_⟩
  ·rw[Qo (w:=m) (p _ d (Qb _))];exact a.t.c i u x
  ·rw[Qz (w:=m) (p _ d (Qb _))];exact a.t.f i u x
 ·exact ZQ a.r (λg h=>p g (by have:=(a.r.lt g h).2;omega) (by have:=A.v g h;omega))
 ·rw[Qe,QK];exact j
theorem Zr9(H:Cs T n)(b:∀y,y∈inn->Lv n y)(ou:Int):Lv n (BQ T n inn ou):=by
 unfold BQ;split
 ·exact(Lw H).1
 ·rename_i h;have a:ou.toNat<inn.length:=by omega
  rw[Qs,Qn a];exact b _ (Ua a)
theorem X8(ht:Cf T n)(hp:Ee T n=true)(H:Cs T n)(f:List Sq)(v:Value)(B:Nat)(w:World)(hR:w.ownsRow B 109 16 v f.length (f.flatMap BS))(hl:f.length<=10000)
  (V:∀x,x∈f->(x.k=1∨x.k=2->Lv n x.ta)) (S:∀x,x∈f->0<=x.pl) :
  Calls prog 18 #[.agg #[.int .i64 n,.string T],v] w λe w'=>e=.returned (.tuple #[.int .i64 (if BH T n f []=-1 then 0 else BH T n f []),.bool (BH T n f [] != -1)])∧Below w.heap.size w w':=by
 obtain⟨p1,c1,hv⟩:=Zc hR;obtain⟨i0,ag,al,am,an⟩:=AX ZqM;obtain⟨l,s⟩:∃r,BH T n f []=r:=⟨_,rfl⟩
 rw[s];obtain⟨r1,K⟩:∃r,(if l=-1 then 0 else l)=r:=⟨_,rfl⟩
 obtain⟨r2,L⟩:∃r,(l != -1)=r:=⟨_,rfl⟩
 rw[K,L];replace K:=Z_ K;replace L:=Z_ L;have b0:Below w.heap.size w (w.alloc (.cells #[.int .i64 n,.string T] 54)):=(Qh _ _).alloc (Qb _) _;have b1:=b0.alloc (b0.size) (.cells #[] 3);have A0:IC w ((w.alloc (.cells #[.int .i64 n,.string T] 54)).alloc (.cells #[] 3)) n T B v f (.slice (some ⟨w.heap.size+1,0,none⟩) 0 0) []:=by
  refine⟨b1,(AF.new2 w _ _ _).alloc _,Zo hR b1,?_,λg hg=>(hR.lt g hg).2⟩;refine⟨rfl,.inr ⟨w.heap.size+1,0,#[],rfl,Qb _,?_,Qb _,by unfold maxLen;omega,rfl,rfl⟩⟩;have e0:(w.alloc (.cells #[.int .i64 n,.string T] 54)).heap.size=w.heap.size+1:=by simp
  rw[<-e0];exact Array.getElem?_push_size ..
 replace A0:=Z_ A0;have ap:(f.length:Int)<=10000:=by omega
 subst hv;replace hp:=Z_ hp;replace H:=Z_ H;replace V:=Z_ V;replace S:=Z_ S;replace s:=Z_ s;clear hR b0 b1;go_in;go_wp2_with fail;go_loopw [6,7] (λiv d wr=>∃(k:Nat) (inn:List Int) (v0:Value),v0=iv∧d=.int .i64 k∧k<=f.length∧inn.length=k∧Kp (IC w wr n T B (.slice p1 f.length c1) f v0 inn)∧Kp (∀y,y∈inn->Lv n y)∧Kp (BH T n (f.drop k) inn=l)) (λ_ d _=>f.length-(intOf d).toNat);case atStart=>exact⟨0,[],_,rfl,rfl,Q8 _,rfl,A0,⟨λy hy=>by simp at hy⟩,⟨s.o⟩⟩
 case round=>
  obtain⟨k,inn,v0,M,rfl,hk,ai,A,aa,hF⟩:=hrel;subst M;subst ai;clear A0;have X:=A.o.t.c 0 _ rfl;have Y:=A.o.t.c 1 _ rfl;have Z:=A.o.t.lt;by_cases R:inn.length<f.length
  ·have hx:f[inn.length]?=some f[inn.length]:=Qn R;have q:f[inn.length]∈f:=Ua R;have I:f.drop inn.length=f[inn.length]::f.drop (inn.length+1):=List.drop_eq_getElem_cons R;generalize f[inn.length]=x at *;have hc:=Zr9 H.o aa.o x.ou;have O:=(Ni H.o x.rd n.toNat (by have:=ht.1;omega)).1;have P:=H.o.jin _ _ hc O;have z:=λ(W:World) (hI:W.ownsRow (w.heap.size+1) 3 1 v0 inn.length (inn.map (Value.int .i64)))=>ZqK ht x inn v0 (w.heap.size+1) W hI (by omega);have F:=λW=>WT ht hp.o H.o x.rd W
   have E:=λW=>Le ht (BQ T n inn x.ou) (BO T n x.rd n.toNat) W hc.1 hc.2 O.1 O.2;have e1:(D0 T n (BQ T n inn x.ou) (BO T n x.rd n.toNat)).getD 0=jn T n (BQ T n inn x.ou) (BO T n x.rd n.toNat):=by unfold jn;rw[KR hp.o]
   rw[e1]at E;have G:=λW=>Xb ht x (BQ T n inn x.ou) (jn T n (BQ T n inn x.ou) (BO T n x.rd n.toNat)) hc P (V.o x q) W;rw[I]at hF;have m:=hF.o
   simp only[BH]at m;replace m:=Z_ m;obtain⟨g,cp,ad,hg,h⟩:=ZqL A.o.r hx;obtain⟨rfl,rfl⟩:p1=some ⟨g,0,none⟩∧c1=cp:=by have:=ad;injection this with a b c;exact⟨a,c⟩
   have ah:(inn.length:Int)<(f.length:Int):=by omega
   generalize jn T n (BQ T n inn x.ou) (BO T n x.rd n.toNat)=lv at *;generalize (D0 T n (BQ T n inn x.ou) (BO T n x.rd n.toNat)).isSome=ok at *;generalize BO T n x.rd n.toNat=jr at *;generalize BQ T n inn x.ou=cx at *;generalize aj:He T n x cx lv=lk at *;unfold D6 at z G;unfold FH at F;replace z:=Z_ z;replace F:=Z_ F;replace E:=Z_ E;replace G:=Z_ G;replace q:=Z_ q;replace P:=Z_ P;clear ad hx I hF hc O e1 aj;obtain⟨pi,ci,M⟩:=Zc A.o.i;subst M;obtain⟨k,C⟩:∃k,Kp (inn.length=k):=⟨_,⟨rfl⟩⟩
   rw[C.o]at A z h ah m;simp only[C.o];replace h:=Z_ h;go_wp2_with (first|(refine ws16 rfl rfl rfl rfl rfl rfl (by simp[Value.oneCell']) ?_;simp only[Act.put,List.setIfInBounds_toArray,List.set_cons_zero,List.set_cons_succ])|(refine wa16 rfl rfl rfl rfl ?_;simp only[Act.put,List.setIfInBounds_toArray,List.set_cons_zero,List.set_cons_succ])|(refine wl16 rfl rfl rfl h.o ?_;simp only[Act.put,List.setIfInBounds_toArray,List.set_cons_zero,List.set_cons_succ]))
   have S1:=Ep wr x 109;have bA:Below wr.heap.size wr (wr.alloc (.cells #[.int .i64 x.k,.int .i64 x.pl,.int .i64 x.ou,.int .i64 x.ta,.bool (x.rd 0),.bool (x.rd 1),.bool (x.rd 2),.bool (x.rd 3),.bool (x.rd 4),.bool (x.rd 5),.bool (x.tp 0),.bool (x.tp 1),.bool (x.tp 2),.bool (x.tp 3),.bool (x.tp 4),.bool (x.tp 5)] 109)):=(Qh _ _).alloc (Qb _) _;have A1:=A.o.step bA;obtain⟨sb,U⟩:∃sb,Kp (wr.heap.size=sb):=⟨_,⟨rfl⟩⟩
   replace S1:=Z_ S1;replace A1:=Z_ A1;clear bA;refine(z.o _ (by have:=A1.o.i;rw[C.o]at this;exact this)).mono ?_;rintro e w2 ⟨rfl,b2⟩;have A2:Kp _:=⟨A1.o.step b2⟩
   have N:Kp _:=⟨S1.o.step b2⟩
   rw[U.o]at N;simp only[U.o];clear b2 A1 S1 A U X Y Z h hg z;have s4:=N.o.c 4 _ rfl;have s5:=N.o.c 5 _ rfl;have s6:=N.o.c 6 _ rfl;have s7:=N.o.c 7 _ rfl;have s8:=N.o.c 8 _ rfl;have s9:=N.o.c 9 _ rfl;have X:=A2.o.t.c 0 _ rfl;have Y:=A2.o.t.c 1 _ rfl;have Z:=A2.o.t.lt;have q3:=N.o.lt;go_wp2_with fail;refine(F.o _).mono ?_;rintro e w3 ⟨rfl,b3⟩;have A3:Kp _:=⟨A2.o.step b3⟩
   have S3:Kp _:=⟨N.o.step b3⟩
   clear b3 A2 N F s4 s5 s6 s7 s8 s9 X Y Z q3;have X:=A3.o.t.c 0 _ rfl;have Y:=A3.o.t.c 1 _ rfl;have Z:=A3.o.t.lt;have q3:=S3.o.lt;go_wp2_with fail;refine(E.o _).mono ?_;rintro e w4 ⟨rfl,b4⟩;have A4:Kp _:=⟨A3.o.step b4⟩
   have S4:Kp _:=⟨S3.o.step b4⟩
   clear b4 A3 S3 E X Y Z q3;have X:=A4.o.t.c 0 _ rfl;have Y:=A4.o.t.c 1 _ rfl;have Z:=A4.o.t.lt;have q3:=S4.o.lt;go_wp2_with (refine wl16 rfl rfl rfl (own0 S4.o) ?_;simp only[Act.put,Qa,Qc,Qd])
   refine(G.o _).mono ?_;rintro e w5 ⟨rfl,b5⟩;have A5:Kp _:=⟨A4.o.step b5⟩
   have S5:Kp _:=⟨S4.o.step b5⟩
   clear b5 A4 S4 G X Y Z q3;have s1:=S5.o.c 1 _ rfl;have p:=m.o;cases lk
   ·rw[if_neg (by simp)]at p;replace p:=Z_ p;clear m;have D:=A5.o.i;rw[C.o]at D;have ao:=A5.o.t.lt;have ae:Kp (∀y,y∈inn++[lv]->Lv n y):=⟨λy hy=>by
     rw[QI,QA]at hy;rcases hy with c|c
     ·exact aa.o y c
     ·rw[c];exact P.o⟩
    have aq:k<=10000:=by omega
    replace D:=Z_ D;clear s1 S5;go_wp2_with (at_builtin;refine wpList_append_own_at _ rfl _ _ 69 rfl (w.heap.size+1) 3 i0 (.int .i64 0) 1 8 Tryz.underlying69 ag al am an rfl (by decide) _ k (inn.map (Value.int .i64)) rfl (D.o.alloc _) ⟨w5.heap.size,0,none⟩ 1 1 [.int .i64 lv] rfl rfl ?a1 ?a2 ?a3 ?a4 ?a5 ?_)
    case a1=>
     intro j u O;match j,O with
     | 0,O=>simp at O;subst O;simp[Addr.add]
    case a2=>intro u hu;simp at hu;subst hu;rfl
    case a3=>unfold maxLen;omega
    case a4=>omega
    case a5=>simp;omega
    intro v' w6 Q J _ af;have A6:Kp _:=⟨A5.o.add J (by rw[C.o];exact Q)⟩
    clear Q J af A5 D;go_wp2_with fail;go_roundw;case rel=>exact⟨k+1,inn++[lv],v',rfl,by go_num,by omega,by rw[Qe,C.o];rfl,A6,ae,p⟩
    case measure=>simp[intOf];omega
   ·rw[if_pos rfl]at p;have ak:=S.o x q.o;have hr:Kp ((if l=-1 then 0 else l)=x.pl∧(l != -1)=true):=⟨by
     rw[<-p];exact⟨if_neg (by omega),by rw[QO];omega⟩⟩
    clear p m ak;go_wp2;go_ret2;exact⟨by rw[<-K.o,<-L.o,hr.o.1,hr.o.2];rfl,A5.o.b⟩
  ·have e0:Kp (l=-1):=⟨by
    have:=hF.o;rw[List.drop_of_length_le (by omega)]at this;exact this.symm⟩
   have A':Kp _:=⟨A.o.b⟩
   obtain⟨pi,ci,M⟩:=Zc A.o.i;subst M;have ab:inn.length=f.length:=by omega
   replace ab:=Z_ ab;have ar:¬(inn.length:Int)<(f.length:Int):=by omega
   clear A hF;generalize inn.length=k at *;go_wp2;go_ret2;exact⟨by rw[<-K.o,<-L.o,e0.o];rfl,A'.o⟩
end Go.Proofs.YtcnbifdlkalimabGreat
