/- Lemmas; their conditions stand in each. -/
import Derived.Test.YtcnbifdlkalimabGreatPlnA
namespace Go.Proofs.YtcnbifdlkalimabGreat
open Go.RowKit Go.Proofs.Tryz
set_option maxHeartbeats 6400000
variable{n:Int}{s:ZB}
theorem ZL(h:Cf s n)(a b:Int)(w:World)(g:0<=a)(c:a<n)(q:0<=b)(d:b<n) :
  Calls prog 101 #[.agg #[.int .i64 n,.string s],.int .i64 a,.int .i64 b] w λe k=>e=.returned (.bool (le s n a b))∧Below w.heap.size w k:=by
 obtain⟨i,j,r⟩:=h;obtain⟨l,m⟩:=Nv n a b g c d;have o:a*n+b<s.size:=by omega
 have p:=Fu n i j;have HL:=U8 s n a b (by omega);have f:Hid _:=HL;clear HL;go_in;go_wp2;go_ret;exact⟨Za f.out,(Qh _ _).alloc (Qb _) _⟩
theorem WV(A:Cf s n)(a b:Int)(w:World)(C:0<=a)(v:a<n)(D:0<=b)(z:b<n) :
  Calls prog 218 #[.agg #[.int .i64 n,.string s],.int .i64 a,.int .i64 b] w λe E=>e=.returned (.bool (Hb s n a b))∧Below w.heap.size w E:=by
 obtain⟨H,I,-⟩:=id A;go_in;go_wp2;go_loopw [7] (λc wr=>∃k:Nat,(k:Int)<=n∧c=.int .i64 k∧Hid (∀i:Nat,i<k->(!(le s n b i)||le s n a i)=true)∧Bz w wr (.int .i64 n) (.string s)) (λc _=>n.toNat-(intOf c).toNat);case atStart=>exact⟨0,by omega,rfl,λi B=>absurd B (by omega),Bz.mk' w _ _ _⟩
 case round=>
  obtain⟨k,G,rfl,g,d⟩:=hrel;obtain⟨j,r,t,u⟩:=id d;by_cases m:(k:Int)<n
  ·go_wp2_with fail;refine(ZL A b k wr D z (by omega) m).mono ?_;rintro e F ⟨rfl,f⟩;replace d:=d.step f;clear j r t u f;obtain⟨j,r,t,u⟩:=id d;go_wp2_with fail;refine(ZL A a k F C v (by omega) m).mono ?_;rintro e J ⟨rfl,f⟩;replace d:=d.step f;clear j r t u f;obtain⟨j,r,t,u⟩:=id d;generalize o:le s n b k=x;generalize q:le s n a k=y;have o:Hid _:=o;have q:Hid _:=q;have l:Hid ((!x||y)=true->∀i:Nat,i<k+1->(!(le s n b i)||le s n a i)=true):=
    λh=>ZC (p:=λc=>!(le s n b c)||le s n a c) g.out (by rw[o.out,q.out];exact h)
   cases x<;>cases y<;>go_wp2;rotate_left 2
   ·go_ret;refine⟨Za ?_,j⟩;exact(Zm (i:=k) (by omega) (by simp[o.out,q.out])).symm
   all_goals
    go_roundw;case rel=>exact⟨k+1,by omega,by go_num,l.out rfl,d⟩
    case measure=>simp[intOf];omega
  ·go_wp2;go_ret;exact⟨Za (Zb.2 (λi B=>g i (by omega))).symm,j⟩
theorem ZoN(d:Int)(w:World)(_h0:0<=d) :
  Calls prog 167 #[.int .i64 d] w λe v=>e=.returned (.int .i64 (Bs d))∧v=w:=by
 go_in;go_wp2;go_loop [3] (λc=>∃k:Int,1<=k∧k<=7∧c=.int .i64 k∧Hid (∀j:Int,1<=j->j<k->j*j≠d)) (λc=>(7-intOf c).toNat);case atStart=>exact⟨1,by omega,by omega,rfl,λj x q=>absurd q (by omega)⟩
 case round=>
  obtain⟨k,i,t,rfl,f⟩:=hrel;by_cases l:k<=6
  ·have u:=Fu k i l;have p:0<=k*k:=QY (by omega) (by omega);by_cases h:k*k=d
   ·have o:(k*k==d)=true:=by simpa using h
    have g:Hid _:=h;clear h;go_wp2;go_ret;exact⟨ZG (Oj i l g.out).symm,rfl⟩
   ·have o:(k*k==d)=false:=by simpa using h
    have g:Hid _:=h;clear h;go_wp2;go_round;case rel=>
     refine⟨k+1,by omega,by omega,by go_num,?_⟩;intro j m r;by_cases e:j=k
     ·rw[e];exact g.out
     ·exact f.out j m (by omega)
    case measure=>simp[intOf];omega
  ·go_wp2;go_ret;exact⟨ZG (Zov (λj a b=>f.out j a (by omega))).symm,rfl⟩
theorem ZoO(s:ZB)(w:World)(f:s.size<=maxLen) :
  Calls prog 168 #[.string s] w λe g=>e=.returned (.bool (Dn s))∧g=w:=by
 unfold maxLen at f;go_in;go_wp2;go_loop [3] (λc=>∃k:Nat,k<=s.size∧c=.int .i64 k∧Hid (∀i:Nat,i<k->Hd s i=true)) (λc=>s.size-(intOf c).toNat);case atStart=>exact⟨0,by omega,rfl,λi d=>absurd d (by omega)⟩
 case round=>
  obtain⟨k,h,rfl,a⟩:=hrel;by_cases b:k<s.size
  ·go_wp2
   ·go_round;case rel=>exact⟨k+1,by omega,by go_num,ZC a.out ((ML b).2 (.inl (by assumption)))⟩
    case measure=>simp[intOf];omega
   ·go_ret;exact⟨Za (Zm b (Tx b (by assumption))).symm,rfl⟩
   ·go_round;case rel=>exact⟨k+1,by omega,by go_num,ZC a.out (Ty b (by assumption))⟩
    case measure=>simp[intOf];omega
  ·go_wp2;go_ret;exact⟨Za (Zb.2 (λi d=>a.out i (by omega))).symm,rfl⟩
theorem ZoP(o:Cf s n)(w:World) :
  Calls prog 175 #[.agg #[.int .i64 n,.string s]] w λe u=>e=.returned (.bool (LV s n))∧Below w.heap.size w u:=by
 obtain⟨y,z,-⟩:=id o;go_in;go_wp2;go_loopw [3] (λc wr=>∃k:Nat,(k:Int)<=n∧c=.int .i64 k∧Hid (∀i:Nat,i<k->le s n i i=true)∧Bz w wr (.int .i64 n) (.string s)) (λc _=>n.toNat-(intOf c).toNat);case atStart=>exact⟨0,by omega,rfl,λi m=>absurd m (by omega),Bz.mk' w _ _ _⟩
 case round=>
  obtain⟨k,v,rfl,d,b⟩:=hrel;obtain⟨l,q,r,t⟩:=id b;by_cases h:(k:Int)<n
  ·go_wp2_with fail;refine(ZL o k k wr (by omega) h (by omega) h).mono ?_;rintro e A ⟨rfl,g⟩;replace b:=b.step g;clear l q r t g;obtain⟨l,q,r,t⟩:=id b;generalize j:le s n k k=x;have j:Hid _:=j;cases x<;>go_wp2
   ·go_ret;exact⟨Za (Zm (f:=λa=>le s n a a) (i:=k) (by omega) j.out).symm,l⟩
   ·go_roundw;case rel=>exact⟨k+1,by omega,by go_num,ZC (p:=λa=>le s n a a) d.out j.out,b⟩
    case measure=>simp[intOf];omega
  ·go_wp2;go_ret;exact⟨Za (Zb.2 (λi m=>d.out i (by omega))).symm,l⟩
theorem ZoQ(C:Cf s n)(w:World) :
  Calls prog 176 #[.agg #[.int .i64 n,.string s]] w λe E=>e=.returned (.bool (Nx s n))∧Below w.heap.size w E:=by
 obtain⟨I,J,-⟩:=id C;go_in;go_wp2;go_loopw [3] (λc wr=>∃k:Nat,(k:Int)<=n∧c=.int .i64 k∧Hid (∀i:Nat,i<k->ZA (λb=>decide (b<=(i:Int))||!(le s n i b&&le s n b i)) n.toNat=true)∧Bz w wr (.int .i64 n) (.string s)) (λc _=>n.toNat-(intOf c).toNat);case atStart=>exact⟨0,by omega,rfl,λi z=>absurd z (by omega),Bz.mk' w _ _ _⟩
 case round=>
  obtain⟨k,G,rfl,j,d⟩:=hrel;obtain⟨o,q,r,t⟩:=id d;by_cases v:(k:Int)<n
  ·go_wp2_with fail;go_loopw [4] (λc wr=>∃m:Nat,k+1<=m∧(m:Int)<=n∧c=.int .i64 m∧Hid (∀i:Nat,i<m->(λb=>decide (b<=(k:Int))||!(le s n k b&&le s n b k)) i=true)∧Bz w wr (.int .i64 n) (.string s)) (λc _=>n.toNat-(intOf c).toNat);case atStart=>
    refine⟨k+1,by omega,by omega,by go_num,λi z=>?_,d⟩;have:(i:Int)<=k:=by omega
    simp[this]
   case round=>
    clear d o q r t;obtain⟨m,D,H,rfl,u,d⟩:=hrel;obtain⟨o,q,r,t⟩:=id d;by_cases l:(m:Int)<n
    ·go_wp2_with fail;refine(ZL C k m _ (by omega) v (by omega) l).mono ?_;rintro e F ⟨rfl,g⟩;replace d:=d.step g;clear o q r t g;obtain⟨o,q,r,t⟩:=id d;go_wp2_with fail;refine(ZL C m k _ (by omega) l (by omega) v).mono ?_;rintro e F ⟨rfl,g⟩;replace d:=d.step g;clear o q r t g;obtain⟨o,q,r,t⟩:=id d;generalize A:le s n k m=x;generalize B:le s n m k=y;have A:Hid _:=A;have B:Hid _:=B;have f:Hid ((!(x&&y))=true->∀i:Nat,i<m+1->(λb=>decide (b<=(k:Int))||!(le s n k b&&le s n b k)) i=true):=
      λh=>ZC (p:=(λb=>decide (b<=(k:Int))||!(le s n k b&&le s n b k))) u.out (by rw[A.out,B.out,h];simp)
     cases x<;>cases y<;>go_wp2;rotate_left 3
     ·go_ret;refine⟨Za ?_,o⟩;refine(Zm (i:=k) (by omega) ?_).symm;refine Zm (i:=m) (by omega) ?_;have:¬(m:Int)<=k:=by omega
      simp[A.out,B.out,this]
     all_goals
      go_roundw;case rel=>exact⟨m+1,by omega,by omega,by go_num,f.out rfl,d⟩
      case measure=>simp[intOf];omega
    ·have f:Hid (∀i:Nat,i<k+1->ZA (λb=>decide (b<=(i:Int))||!(le s n i b&&le s n b i)) n.toNat=true):=
      ZC (p:=λa=>ZA (λb=>decide (b<=a)||!(le s n a b&&le s n b a)) n.toNat) j.out (Zb.2 (λi z=>u.out i (by omega)))
     go_wp2;go_roundw;case rel=>exact⟨k+1,by omega,by go_num,f,d⟩
     case measure=>simp[intOf];omega
  ·go_wp2;go_ret;exact⟨Za (Zb.2 (λi z=>j.out i (by omega))).symm,o⟩
theorem XU(B:Cf s n)(w:World) :
  Calls prog 177 #[.agg #[.int .i64 n,.string s]] w λe C=>e=.returned (.bool (PF s n))∧Below w.heap.size w C:=by
 obtain⟨G,H,-⟩:=id B;go_in;go_wp2;go_loopw [3] (λc wr=>∃k:Nat,(k:Int)<=n∧c=.int .i64 k∧Hid (∀i:Nat,i<k->ZA (λb=>!(le s n i b)||Hb s n i b) n.toNat=true)∧Bz w wr (.int .i64 n) (.string s)) (λc _=>n.toNat-(intOf c).toNat);case atStart=>exact⟨0,by omega,rfl,λi u=>absurd u (by omega),Bz.mk' w _ _ _⟩
 case round=>
  obtain⟨k,E,rfl,g,d⟩:=hrel;obtain⟨j,o,q,r⟩:=id d;by_cases v:(k:Int)<n
  ·go_wp2_with fail;go_loopw [4] (λc wr=>∃m:Nat,(m:Int)<=n∧c=.int .i64 m∧Hid (∀i:Nat,i<m->(λb=>!(le s n k b)||Hb s n k b) i=true)∧Bz w wr (.int .i64 n) (.string s)) (λc _=>n.toNat-(intOf c).toNat);case atStart=>exact⟨0,by omega,rfl,λi u=>absurd u (by omega),d⟩
   case round=>
    clear d j o q r;obtain⟨m,F,rfl,l,d⟩:=hrel;obtain⟨j,o,q,r⟩:=id d;by_cases h:(m:Int)<n
    ·go_wp2_with fail;refine(ZL B k m _ (by omega) v (by omega) h).mono ?_;rintro e D ⟨rfl,f⟩;replace d:=d.step f;clear j o q r f;obtain⟨j,o,q,r⟩:=id d;generalize z:le s n k m=x;have z:Hid _:=z;cases x
     ·go_wp2;go_roundw;case rel=>exact⟨m+1,by omega,by go_num,ZC (p:=(λb=>!(le s n k b)||Hb s n k b)) l.out (by simp[z.out]),d⟩
      case measure=>simp[intOf];omega
     ·go_wp2_with fail;refine(WV B k m _ (by omega) v (by omega) h).mono ?_;rintro e D ⟨rfl,f⟩;replace d:=d.step f;clear j o q r f;obtain⟨j,o,q,r⟩:=id d;generalize A:Hb s n k m=y;have A:Hid _:=A;cases y<;>go_wp2
      ·go_ret;refine⟨Za ?_,j⟩;refine(Zm (i:=k) (by omega) ?_).symm;exact Zm (i:=m) (by omega) (by simp[z.out,A.out])
      ·go_roundw;case rel=>exact⟨m+1,by omega,by go_num,ZC (p:=(λb=>!(le s n k b)||Hb s n k b)) l.out (by simp[A.out]),d⟩
       case measure=>simp[intOf];omega
    ·have t:Hid (∀i:Nat,i<k+1->ZA (λb=>!(le s n i b)||Hb s n i b) n.toNat=true):=
      ZC (p:=λa=>ZA (λb=>!(le s n a b)||Hb s n a b) n.toNat) g.out (Zb.2 (λi u=>l.out i (by omega)))
     go_wp2;go_roundw;case rel=>exact⟨k+1,by omega,by go_num,t,d⟩
     case measure=>simp[intOf];omega
  ·go_wp2;go_ret;exact⟨Za (Zb.2 (λi u=>g.out i (by omega))).symm,j⟩
theorem XV(j:Cf s n)(w:World) :
  Calls prog 112 #[.agg #[.int .i64 n,.string s]] w λe l=>e=.returned (.bool (Ee s n))∧Below w.heap.size w l:=by
 have a:=Bz.mk' w (.int .i64 n) (.string s) 54;obtain⟨c,d,f,g⟩:=id a;go_in;go_wp2_with fail;refine(ZoP j _).mono ?_;rintro e k ⟨rfl,b⟩;replace a:=a.step b;clear c d f g b;obtain⟨c,d,f,g⟩:=id a;generalize h:LV s n=x;have h:Hid _:=h;cases x
 ·go_wp2;go_ret;exact⟨Za (by unfold Ee;rw[h.out];rfl),c⟩
 ·go_wp2_with fail;refine(ZoQ j _).mono ?_;rintro e k ⟨rfl,b⟩;replace a:=a.step b;clear c d f g b;obtain⟨c,d,f,g⟩:=id a;generalize i:Nx s n=y;have i:Hid _:=i;cases y
  ·go_wp2;go_ret;exact⟨Za (by unfold Ee;rw[h.out,i.out];rfl),c⟩
  ·go_wp2_with fail;refine(XU j _).mono ?_;rintro e k ⟨rfl,b⟩;replace a:=a.step b;clear c d f g b;obtain⟨c,d,f,g⟩:=id a;go_wp2;go_ret;exact⟨Za (by unfold Ee;rw[h.out,i.out];simp),c⟩
theorem SD(q:Cf s n)(a b c:Int)(w:World)(r:0<=a)(l:a<n)(t:0<=b)(m:b<n)(p:0<=c)(g:c<n) :
  Calls prog 170 #[.agg #[.int .i64 n,.string s],.int .i64 a,.int .i64 b,.int .i64 c] w λe u=>e=.returned (.bool (Ds s n a b c))∧Below w.heap.size w u:=by
 have d:=Bz.mk' w (.int .i64 n) (.string s) 54;obtain⟨h,i,j,k⟩:=id d;go_in;go_wp2_with fail;refine(ZL q a c _ r l p g).mono ?_;rintro e v ⟨rfl,f⟩;replace d:=d.step f;clear h i j k f;obtain⟨h,i,j,k⟩:=id d;go_wp2_with fail;refine(ZL q b c _ t m p g).mono ?_;rintro e v ⟨rfl,f⟩;replace d:=d.step f;clear h i j k f;obtain⟨h,i,j,k⟩:=id d;have hd:Ds s n a b c=(le s n a c&&le s n b c):=rfl;generalize le s n a c=x at hd ⊢;generalize le s n b c=y at hd ⊢;have o:Hid _:=hd;clear hd;cases x<;>cases y<;>go_wp2<;>go_ret<;>exact⟨Za o.out.symm,h⟩
theorem SE(q:Cf s n)(a b c:Int)(w:World)(r:0<=a)(l:a<n)(t:0<=b)(m:b<n)(p:0<=c)(g:c<n) :
  Calls prog 226 #[.agg #[.int .i64 n,.string s],.int .i64 a,.int .i64 b,.int .i64 c] w λe u=>e=.returned (.bool (Ez s n a b c))∧Below w.heap.size w u:=by
 have d:=Bz.mk' w (.int .i64 n) (.string s) 54;obtain⟨h,i,j,k⟩:=id d;go_in;go_wp2_with fail;refine(ZL q c a _ p g r l).mono ?_;rintro e v ⟨rfl,f⟩;replace d:=d.step f;clear h i j k f;obtain⟨h,i,j,k⟩:=id d;go_wp2_with fail;refine(ZL q c b _ p g t m).mono ?_;rintro e v ⟨rfl,f⟩;replace d:=d.step f;clear h i j k f;obtain⟨h,i,j,k⟩:=id d;have hd:Ez s n a b c=(le s n c a&&le s n c b):=rfl;generalize le s n c a=x at hd ⊢;generalize le s n c b=y at hd ⊢;have o:Hid _:=hd;clear hd;cases x<;>cases y<;>go_wp2<;>go_ret<;>exact⟨Za o.out.symm,h⟩
theorem Xc(F:Cf s n)(a b c:Int)(w:World)(J:0<=a)(u:a<n)(K:0<=b)(v:b<n)(L:0<=c)(A:c<n) :
  Calls prog 100 #[.agg #[.int .i64 n,.string s],.int .i64 a,.int .i64 b,.int .i64 c] w λe O=>e=.returned (.bool (Im s n a b c))∧Below w.heap.size w O:=by
 obtain⟨Q,R,-⟩:=id F;have f:=Bz.mk' w (.int .i64 n) (.string s) 54;obtain⟨o,q,r,t⟩:=id f;go_in;go_wp2_with fail;refine(SD F a b c _ J u K v L A).mono ?_;rintro e N ⟨rfl,g⟩;replace f:=f.step g;clear o q r t g;obtain⟨o,q,r,t⟩:=id f;generalize E:Ds s n a b c=z;have E:Hid _:=E;cases z
 ·go_wp2;go_ret;exact⟨Za (by unfold Im;rw[E.out];rfl),o⟩
 ·go_wp2_with fail;go_loopw [9] (λI wr=>∃k:Nat,(k:Int)<=n∧I=.int .i64 k∧Hid (∀i:Nat,i<k->(λd=>d==c||(!(Ds s n a b d)||le s n c d)) i=true)∧Bz w wr (.int .i64 n) (.string s)) (λI _=>n.toNat-(intOf I).toNat);case atStart=>exact⟨0,by omega,rfl,λi M=>absurd M (by omega),f⟩
  case round=>
   clear f o q r t;obtain⟨k,P,rfl,m,f⟩:=hrel;obtain⟨o,q,r,t⟩:=id f;by_cases D:(k:Int)<n
   ·go_wp2_with fail;refine(SD F a b k _ J u K v (by omega) D).mono ?_;rintro e N ⟨rfl,g⟩;replace f:=f.step g;clear o q r t g;obtain⟨o,q,r,t⟩:=id f;go_wp2_with fail;refine(ZL F c k _ L A (by omega) D).mono ?_;rintro e N ⟨rfl,g⟩;replace f:=f.step g;clear o q r t g;obtain⟨o,q,r,t⟩:=id f;generalize G:Ds s n a b k=x;generalize H:le s n c k=y;have G:Hid _:=G;have H:Hid _:=H;by_cases j:(k:Int)=c
    ·have B:((k:Int) != c)=false:=by simpa using j
     have l:Hid (∀i:Nat,i<k+1->(λd=>d==c||(!(Ds s n a b d)||le s n c d)) i=true):=ZC (p:=(λd=>d==c||(!(Ds s n a b d)||le s n c d))) m.out (by simp[j]);clear j;cases x<;>cases y<;>go_wp2;all_goals
      go_roundw;case rel=>exact⟨k+1,by omega,by go_num,l,f⟩
      case measure=>simp[intOf];omega
    ·have B:((k:Int) != c)=true:=by simpa using j
     have C:Hid _:=j;clear j;have l:Hid ((!x||y)=true->∀i:Nat,i<k+1->(λd=>d==c||(!(Ds s n a b d)||le s n c d)) i=true):=
      λh=>ZC (p:=(λd=>d==c||(!(Ds s n a b d)||le s n c d))) m.out (by rw[G.out,H.out,h];simp)
     cases x<;>cases y<;>go_wp2;rotate_left 2
     ·go_ret;refine⟨Za ?_,o⟩;unfold Im;rw[E.out,Zm (i:=k) (by omega) (by simp[G.out,H.out];exact C.out)];rfl
     all_goals
      go_roundw;case rel=>exact⟨k+1,by omega,by go_num,l.out rfl,f⟩
      case measure=>simp[intOf];omega
   ·go_wp2;go_ret;refine⟨Za ?_,o⟩;unfold Im;rw[E.out,Zb.2 (λi M=>m.out i (by omega))];rfl
theorem Le(q:Cf s n)(a b:Int)(w:World)(v:0<=a)(l:a<n)(y:0<=b)(m:b<n) :
  Calls prog 45 #[.agg #[.int .i64 n,.string s],.int .i64 a,.int .i64 b] w λe z=>e=.returned (.tuple #[.int .i64 ((D0 s n a b).getD 0),.bool (D0 s n a b).isSome])∧Below w.heap.size w z:=by
 obtain⟨B,C,-⟩:=id q;go_in;go_wp2;go_loopw [8] (λc wr=>∃k:Nat,(k:Int)<=n∧c=.int .i64 k∧Hid (∀i:Nat,i<k->Im s n a b i=false)∧Bz w wr (.int .i64 n) (.string s)) (λc _=>n.toNat-(intOf c).toNat);case atStart=>exact⟨0,by omega,rfl,λi p=>absurd p (by omega),Bz.mk' w _ _ _⟩
 case round=>
  obtain⟨k,A,rfl,f,d⟩:=hrel;obtain⟨j,r,t,u⟩:=id d;by_cases o:(k:Int)<n
  ·go_wp2_with fail;refine(Xc q a b k _ v l y m (by omega) o).mono ?_;rintro e D ⟨rfl,g⟩;replace d:=d.step g;clear j r t u g;obtain⟨j,r,t,u⟩:=id d;generalize h:Im s n a b k=x;have h:Hid _:=h;cases x<;>go_wp2
   ·go_roundw;case rel=>exact⟨k+1,by omega,by go_num,JI f.out h.out,d⟩
    case measure=>simp[intOf];omega
   ·go_ret2;have e:D0 s n a b=some (k:Int):=IN (by omega) f.out h.out;rw[e];exact⟨rfl,j⟩
  ·go_wp2;go_ret2;have e:D0 s n a b=none:=JG (λi p=>f.out i (by omega));rw[e];exact⟨rfl,j⟩
theorem Xd(F:Cf s n)(a b c:Int)(w:World)(J:0<=a)(u:a<n)(K:0<=b)(v:b<n)(L:0<=c)(A:c<n) :
  Calls prog 199 #[.agg #[.int .i64 n,.string s],.int .i64 a,.int .i64 b,.int .i64 c] w λe O=>e=.returned (.bool (Io s n a b c))∧Below w.heap.size w O:=by
 obtain⟨Q,R,-⟩:=id F;have f:=Bz.mk' w (.int .i64 n) (.string s) 54;obtain⟨o,q,r,t⟩:=id f;go_in;go_wp2_with fail;refine(SE F a b c _ J u K v L A).mono ?_;rintro e N ⟨rfl,g⟩;replace f:=f.step g;clear o q r t g;obtain⟨o,q,r,t⟩:=id f;generalize E:Ez s n a b c=z;have E:Hid _:=E;cases z
 ·go_wp2;go_ret;exact⟨Za (by unfold Io;rw[E.out];rfl),o⟩
 ·go_wp2_with fail;go_loopw [9] (λI wr=>∃k:Nat,(k:Int)<=n∧I=.int .i64 k∧Hid (∀i:Nat,i<k->(λd=>d==c||(!(Ez s n a b d)||le s n d c)) i=true)∧Bz w wr (.int .i64 n) (.string s)) (λI _=>n.toNat-(intOf I).toNat);case atStart=>exact⟨0,by omega,rfl,λi M=>absurd M (by omega),f⟩
  case round=>
   clear f o q r t;obtain⟨k,P,rfl,m,f⟩:=hrel;obtain⟨o,q,r,t⟩:=id f;by_cases D:(k:Int)<n
   ·go_wp2_with fail;refine(SE F a b k _ J u K v (by omega) D).mono ?_;rintro e N ⟨rfl,g⟩;replace f:=f.step g;clear o q r t g;obtain⟨o,q,r,t⟩:=id f;go_wp2_with fail;refine(ZL F k c _ (by omega) D L A).mono ?_;rintro e N ⟨rfl,g⟩;replace f:=f.step g;clear o q r t g;obtain⟨o,q,r,t⟩:=id f;generalize G:Ez s n a b k=x;generalize H:le s n k c=y;have G:Hid _:=G;have H:Hid _:=H;by_cases j:(k:Int)=c
    ·have B:((k:Int) != c)=false:=by simpa using j
     have l:Hid (∀i:Nat,i<k+1->(λd=>d==c||(!(Ez s n a b d)||le s n d c)) i=true):=ZC (p:=(λd=>d==c||(!(Ez s n a b d)||le s n d c))) m.out (by simp[j]);clear j;cases x<;>cases y<;>go_wp2;all_goals
      go_roundw;case rel=>exact⟨k+1,by omega,by go_num,l,f⟩
      case measure=>simp[intOf];omega
    ·have B:((k:Int) != c)=true:=by simpa using j
     have C:Hid _:=j;clear j;have l:Hid ((!x||y)=true->∀i:Nat,i<k+1->(λd=>d==c||(!(Ez s n a b d)||le s n d c)) i=true):=
      λh=>ZC (p:=(λd=>d==c||(!(Ez s n a b d)||le s n d c))) m.out (by rw[G.out,H.out,h];simp)
     cases x<;>cases y<;>go_wp2;rotate_left 2
     ·go_ret;refine⟨Za ?_,o⟩;unfold Io;rw[E.out,Zm (i:=k) (by omega) (by simp[G.out,H.out];exact C.out)];rfl
     all_goals
      go_roundw;case rel=>exact⟨k+1,by omega,by go_num,l.out rfl,f⟩
      case measure=>simp[intOf];omega
   ·go_wp2;go_ret;refine⟨Za ?_,o⟩;unfold Io;rw[E.out,Zb.2 (λi M=>m.out i (by omega))];rfl
theorem TG(q:Cf s n)(a b:Int)(w:World)(v:0<=a)(l:a<n)(y:0<=b)(m:b<n) :
  Calls prog 146 #[.agg #[.int .i64 n,.string s],.int .i64 a,.int .i64 b] w λe z=>e=.returned (.tuple #[.int .i64 ((Fb s n a b).getD 0),.bool (Fb s n a b).isSome])∧Below w.heap.size w z:=by
 obtain⟨B,C,-⟩:=id q;go_in;go_wp2;go_loopw [8] (λc wr=>∃k:Nat,(k:Int)<=n∧c=.int .i64 k∧Hid (∀i:Nat,i<k->Io s n a b i=false)∧Bz w wr (.int .i64 n) (.string s)) (λc _=>n.toNat-(intOf c).toNat);case atStart=>exact⟨0,by omega,rfl,λi p=>absurd p (by omega),Bz.mk' w _ _ _⟩
 case round=>
  obtain⟨k,A,rfl,f,d⟩:=hrel;obtain⟨j,r,t,u⟩:=id d;by_cases o:(k:Int)<n
  ·go_wp2_with fail;refine(Xd q a b k _ v l y m (by omega) o).mono ?_;rintro e D ⟨rfl,g⟩;replace d:=d.step g;clear j r t u g;obtain⟨j,r,t,u⟩:=id d;generalize h:Io s n a b k=x;have h:Hid _:=h;cases x<;>go_wp2
   ·go_roundw;case rel=>exact⟨k+1,by omega,by go_num,JI f.out h.out,d⟩
    case measure=>simp[intOf];omega
   ·go_ret2;have e:Fb s n a b=some (k:Int):=IN (by omega) f.out h.out;rw[e];exact⟨rfl,j⟩
  ·go_wp2;go_ret2;have e:Fb s n a b=none:=JG (λi p=>f.out i (by omega));rw[e];exact⟨rfl,j⟩
theorem ZqV(D:Cf s n)(w:World) :
  Calls prog 113 #[.agg #[.int .i64 n,.string s]] w λe E=>e=.returned (.bool (L4 s n))∧Below w.heap.size w E:=by
 obtain⟨I,J,-⟩:=id D;go_in;go_wp2;go_loopw [3] (λc wr=>∃k:Nat,(k:Int)<=n∧c=.int .i64 k∧Hid (∀i:Nat,i<k->ZA (λb=>(D0 s n i b).isSome&&(Fb s n i b).isSome) n.toNat=true)∧Bz w wr (.int .i64 n) (.string s)) (λc _=>n.toNat-(intOf c).toNat);case atStart=>exact⟨0,by omega,rfl,λi u=>absurd u (by omega),Bz.mk' w _ _ _⟩
 case round=>
  obtain⟨k,G,rfl,j,d⟩:=hrel;obtain⟨o,q,r,t⟩:=id d;by_cases z:(k:Int)<n
  ·go_wp2_with fail;go_loopw [4] (λc wr=>∃m:Nat,(m:Int)<=n∧c=.int .i64 m∧Hid (∀i:Nat,i<m->(λb=>(D0 s n k b).isSome&&(Fb s n k b).isSome) i=true)∧Bz w wr (.int .i64 n) (.string s)) (λc _=>n.toNat-(intOf c).toNat);case atStart=>exact⟨0,by omega,rfl,λi u=>absurd u (by omega),d⟩
   case round=>
    clear d o q r t;obtain⟨m,H,rfl,v,d⟩:=hrel;obtain⟨o,q,r,t⟩:=id d;by_cases l:(m:Int)<n
    ·go_wp2_with fail;refine(Le D k m _ (by omega) z (by omega) l).mono ?_;rintro e F ⟨rfl,g⟩;replace d:=d.step g;clear o q r t g;obtain⟨o,q,r,t⟩:=id d;go_wp2_with fail;refine(TG D k m _ (by omega) z (by omega) l).mono ?_;rintro e F ⟨rfl,g⟩;replace d:=d.step g;clear o q r t g;obtain⟨o,q,r,t⟩:=id d;generalize A:(D0 s n k m).isSome=x;generalize B:(Fb s n k m).isSome=y;have A:Hid _:=A;have B:Hid _:=B;have f:Hid ((x&&y)=true->∀i:Nat,i<m+1->(λb=>(D0 s n k b).isSome&&(Fb s n k b).isSome) i=true):=
      λh=>ZC (p:=(λb=>(D0 s n k b).isSome&&(Fb s n k b).isSome)) v.out (by rw[A.out,B.out,h])
     have C:Hid ((x&&y)=false->L4 s n=false):=by intro h;refine Zm (i:=k) (by omega) ?_;exact Zm (i:=m) (by omega) (by rw[A.out,B.out,h])
     cases x<;>cases y<;>go_wp2;rotate_left 3
     ·go_roundw;case rel=>exact⟨m+1,by omega,by go_num,f.out rfl,d⟩
      case measure=>simp[intOf];omega
     all_goals go_ret;exact⟨Za (C.out rfl).symm,o⟩
    ·have f:Hid (∀i:Nat,i<k+1->ZA (λb=>(D0 s n i b).isSome&&(Fb s n i b).isSome) n.toNat=true):=
      ZC (p:=λa=>ZA (λb=>(D0 s n a b).isSome&&(Fb s n a b).isSome) n.toNat) j.out (Zb.2 (λi u=>v.out i (by omega)))
     go_wp2;go_roundw;case rel=>exact⟨k+1,by omega,by go_num,f,d⟩
     case measure=>simp[intOf];omega
  ·go_wp2;go_ret;exact⟨Za (Zb.2 (λi u=>j.out i (by omega))).symm,o⟩
theorem MG(j:Cf s n)(w:World) :
  Calls prog 58 #[.agg #[.int .i64 n,.string s]] w λe k=>e=.returned (.int .i64 (CP s n))∧Below w.heap.size w k:=by
 have a:=Bz.mk' w (.int .i64 n) (.string s) 54;obtain⟨c,f,g,h⟩:=id a;go_in;go_wp2_with fail;refine(XV j _).mono ?_;rintro e l ⟨rfl,b⟩;replace a:=a.step b;clear c f g h b;obtain⟨c,f,g,h⟩:=id a;generalize d:Ee s n=x;have d:Hid _:=d;cases x
 ·go_wp2;go_ret;exact⟨ZG (by unfold CP;rw[d.out];rfl),c⟩
 ·go_wp2_with fail;refine(ZqV j _).mono ?_;rintro e l ⟨rfl,b⟩;replace a:=a.step b;clear c f g h b;obtain⟨c,f,g,h⟩:=id a;generalize i:L4 s n=y;have i:Hid _:=i;cases y<;>go_wp2<;>go_ret<;>exact⟨ZG (by unfold CP;rw[d.out,i.out];rfl),c⟩
theorem OG(s:ZB)(w:World)(g:s.size<=maxLen) :
  Calls prog 97 #[.string s] w λe j=>e=.returned (.tuple #[.agg #[.int .i64 (Ap s),.string (EO s)],.bool (!(Ap s==0))])∧Below w.heap.size w j:=by
 go_in;go_wp2_with fail;refine(ZoN s.size _ (by omega)).mono ?_;rintro e k ⟨rfl,rfl⟩;by_cases c:Bs s.size=0
 ·have f:Ap s=0:=by unfold Ap;rw[c];split<;>rfl
  have b:Hid (Ap s=0∧EO s={data:=#[]}):=⟨f,by unfold EO;rw[if_pos f]⟩
  rw[c];clear c f;go_wp2;exact bodyPost_ret (v:=.tuple #[.agg #[.int .i64 0,.string {data:=#[]}],.bool false]) (by simp[results,Tryz.results97,go_sem]) rfl ⟨by rw[b.out.1,b.out.2];rfl,(Below.refl _ _).alloc (Nat.le_refl _) _⟩
 ·have d:(Bs s.size==0)=false:=by simpa using c
  have b:Hid (Dn s=true->Ap s=Bs s.size∧EO s=s∧(Ap s==0)=false):=by
   intro h;have e:Ap s=Bs s.size:=by unfold Ap;rw[if_pos h]
   exact⟨e,by unfold EO;rw[if_neg (by omega)],by rw[e];exact d⟩
  have i:Hid (Dn s=false->Ap s=0∧EO s={data:=#[]}):=by
   intro h;have e:Ap s=0:=by unfold Ap;rw[h];rfl
   exact⟨e,by unfold EO;rw[if_pos e]⟩
  clear c;generalize Bs s.size=n at *;go_wp2_with fail;refine(ZoO s _ g).mono ?_;rintro e k ⟨rfl,rfl⟩;generalize a:Dn s=x;have a:Hid _:=a;cases x
  ·go_wp2;exact bodyPost_ret (v:=.tuple #[.agg #[.int .i64 0,.string {data:=#[]}],.bool false]) (by simp[results,Tryz.results97,go_sem]) rfl ⟨by rw[(i.out a.out).1,(i.out a.out).2];rfl,(Below.refl _ _).alloc (Nat.le_refl _) _⟩
  ·go_wp2;exact bodyPost_ret (v:=.tuple #[.agg #[.int .i64 n,.string s],.bool true]) (by simp[results,Tryz.results97,go_sem]) rfl ⟨by rw[(b.out a.out).2.1,(b.out a.out).2.2,(b.out a.out).1];rfl,(Below.refl _ _).alloc (Nat.le_refl _) _⟩
theorem OH(s:ZB)(w:World)(o:s.size<=maxLen) :
  Calls prog 41 #[.string s] w λe B=>e=.returned (.tuple #[.agg #[.int .i64 (BX s),.string (Dc s)],.int .i64 (Az s)])∧Below w.heap.size w B:=by
 have c:=Dh.new w (.int .i64 0) (.string {data:=#[]}) 54;have d:Below w.heap.size w (w.alloc (.cells #[.int .i64 0,.string {data:=#[]}] 54)):=(Qh _ _).alloc (Qb _) _;go_in;go_wp2_with fail;refine(OG s _ o).mono ?_;rintro e C ⟨rfl,a⟩;replace c:=c.step a;replace d:=d.trans (a.mono (by simp));clear a;by_cases f:Ap s=0
 ·have j:Hid (Az s=3):=by unfold Hid Az;rw[if_pos f]
  have r:Hid (BX s=0∧Dc s={data:=#[]}):=⟨GT j.out (by omega),by unfold Dc;rw[if_neg (by rw[j.out];omega)]⟩
  have b:EO s={data:=#[]}:=by unfold EO;rw[if_pos f]
  rw[b,f];clear f b;obtain⟨p,l,m,z,A⟩:=id c;go_wp2;exact bodyPost_ret (v:=.tuple #[.agg #[.int .i64 0,.string {data:=#[]}],.int .i64 3]) (by simp[results,Tryz.results41,go_sem,p,l,m]) rfl ⟨by rw[r.out.1,r.out.2,j.out],((d.setCell (Nat.le_refl _) _).setCell (Nat.le_refl _) _).alloc (by simp;omega) _⟩
 ·have y:=(GK f).1;have i:(Ap s==0)=false:=by simpa using f
  have b:EO s=s:=by unfold EO;rw[if_neg f]
  have j:Hid (Az s=CP s (Ap s)):=by have:=RV s;unfold Ny at this;rw[if_neg f]at this;exact this.symm
  rw[b,i];clear f b i;have x:Hid (Az s=0->BX s=Ap s∧Dc s=s):=λh=>⟨Jh h,by unfold Dc;rw[if_pos h]⟩
  have u:Hid (Az s≠0->BX s=0∧Dc s={data:=#[]}):=λh=>⟨GT rfl h,by unfold Dc;rw[if_neg h]⟩
  generalize Ap s=n at *;have q:=Dh.new C (.int .i64 n) (.string s) 54;replace d:=d.alloc (Uf c.lt) (.cells #[.int .i64 n,.string s] 54);have p:=c.lt;replace c:=c.alloc (.cells #[.int .i64 n,.string s] 54);go_wp2_with fail;refine(MG y _).mono ?_;rintro e I ⟨rfl,a⟩;rw[<-j.out];replace c:=c.step a;replace q:=q.step a;replace d:=d.trans (a.mono (by simp;omega));clear a;obtain⟨p,l,m,z,A⟩:=id c;obtain⟨D,E,F,G,H⟩:=id q;by_cases g:Az s=0
  ·have k:Hid _:=x.out g;have t:Hid _:=g;rw[g];clear g;go_wp2;exact bodyPost_ret (v:=.tuple #[.agg #[.int .i64 n,.string s],.int .i64 0]) (by simp[results,Tryz.results41,go_sem,l,m]) rfl ⟨by rw[k.out.1,k.out.2,t.out],((d.setCell (Nat.le_refl _) _).setCell (Nat.le_refl _) _)⟩
  ·have k:Hid _:=u.out g;have t:(Az s != 0)=true:=by simpa using g
   clear g;go_wp2;exact bodyPost_ret (v:=.tuple #[.agg #[.int .i64 0,.string {data:=#[]}],.int .i64 (Az s)]) (by simp[results,Tryz.results41,go_sem,l,m]) rfl ⟨by rw[k.out.1,k.out.2],((d.setCell (Nat.le_refl _) _).setCell (Nat.le_refl _) _)⟩
set_option linter.all false
set_option maxRecDepth 100000
theorem SU:∀(L:List Int) (r:ZB),L.foldl (λr n=>r.push (UInt8.ofNat n.toNat)) r=r++bs L
 | [],r=>by apply ByteArray.ext;rw[QU];simp[bs]
 | x::L,r=>by rw[List.foldl_cons,SU L];apply ByteArray.ext;rw[QU,QU];simp[bs,ByteArray.push]
theorem MN{w:World}{B:Nat}{v:Value}(L:List Int)(h:w.ownsRow B 5 1 v L.length (L.map (Value.int .u8))) :
  (convert 56 9 v).run prog w=.ok (.string (bs L)) w:=by
 rcases h.2 with ⟨rfl,m⟩|⟨g,a,e,rfl,f,k,d⟩
 ·have:L=[]:=Uk (by omega);subst this;exact run_convert_bytes_nil (w:=w) 56 5 Tryz.underlying56 Tryz.underlying5 _ _ 9 Tryz.underlying9
 ·rw[run_convert_bytes_string w 56 9 5 _ _ _ Tryz.underlying56 Tryz.underlying5 Tryz.underlying9];have c:=run_loadCells_list (P:=prog) w ⟨g,0,none⟩ (L.map (Value.int .u8)) (λj v l=>h.cells rfl j v l);rw[List.length_map]at c;rw[run_bytesToString w ⟨g,0,none⟩ L.length a L c,SU];have i:ByteArray.empty++bs L=bs L:=by apply ByteArray.ext;rw[QU];have b:ByteArray.empty.data=#[]:=rfl;rw[b];simp
  rw[i]
end Go.Proofs.YtcnbifdlkalimabGreat
