import Derived.Test.YtcnbifdlkalimabGreatPlnA
import Derived.Maps.AppendAt
import Derived.Laws.IdiomStrings
import Derived.Laws.BytesArg
/- Lemmas for the statement Means; their conditions stand in each. -/
namespace Go.Proofs.YtcnbifdlkalimabGreat
open Go.RowKit Go.Proofs.Tryz
set_option maxHeartbeats 6400000
variable{n:Int}{s:ZB}
theorem ZF(ht:Tab s n)(a b:Int)(w:World)(ha:0<=a)(ha':a<n)(hb:0<=b)(hb':b<n) :
  Calls prog 101 #[.agg #[.int .i64 n,.string s],.int .i64 a,.int .i64 b] w λe w'=>e=.returned (.bool (le s n a b))∧Below w.heap.size w w':=by
 obtain⟨t1,t2,t3⟩:=ht
 obtain⟨h1,h2⟩:=ZnV n a b ha ha' hb'
 have h3:a*n+b<s.size:=by omega
 have h4:=ZiM n t1 t2
 have HL:=Zo8 s n a b (by omega)
 have HH:Hid _:=HL
 clear HL
 go_enter func101,ntmps101
 go_wp2
 go_ret
 exact⟨Zd HH.out,(Qh _ _).alloc (Qb _) _⟩
theorem Zi2(ht:Tab s n)(a b:Int)(w:World)(ha:0<=a)(ha':a<n)(hb:0<=b)(hb':b<n) :
  Calls prog 218 #[.agg #[.int .i64 n,.string s],.int .i64 a,.int .i64 b] w λe w'=>e=.returned (.bool (Zc7 s n a b))∧Below w.heap.size w w':=by
 obtain⟨t1,t2,-⟩:=id ht
 go_enter func218,ntmps218
 go_wp2
 go_loopw [7] (λc wr=>∃k:Nat,(k:Int)<=n∧c=.int .i64 k∧Hid (∀i:Nat,i<k->(!(le s n b i)||le s n a i)=true)∧Box2 w wr (.int .i64 n) (.string s)) (λc _=>n.toNat-(intOf c).toNat)
 case atStart=>exact⟨0,by omega,rfl,λi hi=>absurd hi (by omega),Box2.mk' w _ _ _⟩
 case round=>
  obtain⟨k,hk,rfl,hall,hbox⟩:=hrel
  obtain⟨q0,q1,q2,q3⟩:=id hbox
  by_cases hlt:(k:Int)<n
  ·go_wp2_with fail
   refine(ZF ht b k wr hb hb' (by omega) hlt).mono ?_
   rintro e w1 ⟨rfl,hb1⟩
   replace hbox:=hbox.step hb1
   clear q0 q1 q2 q3 hb1
   obtain⟨q0,q1,q2,q3⟩:=id hbox
   go_wp2_with fail
   refine(ZF ht a k w1 ha ha' (by omega) hlt).mono ?_
   rintro e w2 ⟨rfl,hb1⟩
   replace hbox:=hbox.step hb1
   clear q0 q1 q2 q3 hb1
   obtain⟨q0,q1,q2,q3⟩:=id hbox
   generalize hx:le s n b k=x
   generalize hy:le s n a k=y
   have hx:Hid _:=hx
   have hy:Hid _:=hy
   have done:Hid ((!x||y)=true->∀i:Nat,i<k+1->(!(le s n b i)||le s n a i)=true):=
    λh=>ZC (p:=λc=>!(le s n b c)||le s n a c) hall.out (by rw[hx.out,hy.out];exact h)
   cases x<;>cases y<;>go_wp2
   rotate_left 2
   ·go_ret
    refine⟨Zd ?_,q0⟩
    exact(Zl (i:=k) (by omega) (by simp[hx.out,hy.out])).symm
   all_goals
    go_roundw
    case rel=>exact⟨k+1,by omega,by go_num,done.out rfl,hbox⟩
    case measure=>simp[intOf];omega
  ·go_wp2
   go_ret
   exact⟨Zd (Za.2 (λi hi=>hall i (by omega))).symm,q0⟩
theorem Zob(len:Int)(w:World)(_h0:0<=len) :
  Calls prog 167 #[.int .i64 len] w λe w'=>e=.returned (.int .i64 (sideF len))∧w'=w:=by
 go_enter func167,ntmps167
 go_wp2
 go_loop [3] (λc=>∃k:Int,1<=k∧k<=7∧c=.int .i64 k∧Hid (∀j:Int,1<=j->j<k->j*j≠len)) (λc=>(7-intOf c).toNat)
 case atStart=>exact⟨1,by omega,by omega,rfl,λj h1 h2=>absurd h2 (by omega)⟩
 case round=>
  obtain⟨k,hk1,hk2,rfl,hall⟩:=hrel
  by_cases hlt:k<=6
  ·have hsq:=ZiM k hk1 hlt
   have hsq0:0<=k*k:=QY (by omega) (by omega)
   by_cases hq:k*k=len
   ·have hq1:(k*k==len)=true:=by simpa using hq
    have hq2:Hid _:=hq
    clear hq
    go_wp2
    go_ret
    exact⟨ZR (ZgD hk1 hlt hq2.out).symm,rfl⟩
   ·have hq1:(k*k==len)=false:=by simpa using hq
    have hq2:Hid _:=hq
    clear hq
    go_wp2
    go_round
    case rel=>
     refine⟨k+1,by omega,by omega,by go_num,?_⟩
     intro j hj1 hj2
     by_cases e:j=k
     ·rw[e];exact hq2.out
     ·exact hall.out j hj1 (by omega)
    case measure=>simp[intOf];omega
  ·go_wp2
   go_ret
   exact⟨ZR (ZnW (λj a b=>hall.out j a (by omega))).symm,rfl⟩
theorem Zoc(s:ZB)(w:World)(hs:s.size<=maxLen) :
  Calls prog 168 #[.string s] w λe w'=>e=.returned (.bool (bits s))∧w'=w:=by
 unfold maxLen at hs
 go_enter func168,ntmps168
 go_wp2
 go_loop [3] (λc=>∃k:Nat,k<=s.size∧c=.int .i64 k∧Hid (∀i:Nat,i<k->Zf0 s i=true)) (λc=>s.size-(intOf c).toNat)
 case atStart=>exact⟨0,by omega,rfl,λi hi=>absurd hi (by omega)⟩
 case round=>
  obtain⟨k,hk,rfl,hall⟩:=hrel
  by_cases hlt:k<s.size
  ·go_wp2
   ·go_round
    case rel=>exact⟨k+1,by omega,by go_num,ZC hall.out ((Zdq hlt).2 (.inl (by assumption)))⟩
    case measure=>simp[intOf];omega
   ·go_ret
    exact⟨Zd (Zl hlt (ZjP hlt (by assumption))).symm,rfl⟩
   ·go_round
    case rel=>exact⟨k+1,by omega,by go_num,ZC hall.out (ZjQ hlt (by assumption))⟩
    case measure=>simp[intOf];omega
  ·go_wp2
   go_ret
   exact⟨Zd (Za.2 (λi hi=>hall.out i (by omega))).symm,rfl⟩
theorem Zod(ht:Tab s n)(w:World) :
  Calls prog 175 #[.agg #[.int .i64 n,.string s]] w λe w'=>e=.returned (.bool (Znw s n))∧Below w.heap.size w w':=by
 obtain⟨t1,t2,-⟩:=id ht
 go_enter func175,ntmps175
 go_wp2
 go_loopw [3] (λc wr=>∃k:Nat,(k:Int)<=n∧c=.int .i64 k∧Hid (∀i:Nat,i<k->le s n i i=true)∧Box2 w wr (.int .i64 n) (.string s)) (λc _=>n.toNat-(intOf c).toNat)
 case atStart=>exact⟨0,by omega,rfl,λi hi=>absurd hi (by omega),Box2.mk' w _ _ _⟩
 case round=>
  obtain⟨k,hk,rfl,hall,hbox⟩:=hrel
  obtain⟨q0,q1,q2,q3⟩:=id hbox
  by_cases hlt:(k:Int)<n
  ·go_wp2_with fail
   refine(ZF ht k k wr (by omega) hlt (by omega) hlt).mono ?_
   rintro e w1 ⟨rfl,hb1⟩
   replace hbox:=hbox.step hb1
   clear q0 q1 q2 q3 hb1
   obtain⟨q0,q1,q2,q3⟩:=id hbox
   generalize hx:le s n k k=x
   have hx:Hid _:=hx
   cases x<;>go_wp2
   ·go_ret
    exact⟨Zd (Zl (f:=λa=>le s n a a) (i:=k) (by omega) hx.out).symm,q0⟩
   ·go_roundw
    case rel=>exact⟨k+1,by omega,by go_num,ZC (p:=λa=>le s n a a) hall.out hx.out,hbox⟩
    case measure=>simp[intOf];omega
  ·go_wp2
   go_ret
   exact⟨Zd (Za.2 (λi hi=>hall.out i (by omega))).symm,q0⟩
theorem Zoe(ht:Tab s n)(w:World) :
  Calls prog 176 #[.agg #[.int .i64 n,.string s]] w λe w'=>e=.returned (.bool (ZoV s n))∧Below w.heap.size w w':=by
 obtain⟨t1,t2,-⟩:=id ht
 go_enter func176,ntmps176
 go_wp2
 go_loopw [3] (λc wr=>∃k:Nat,(k:Int)<=n∧c=.int .i64 k∧Hid (∀i:Nat,i<k->Zw (λb=>decide (b<=(i:Int))||!(le s n i b&&le s n b i)) n.toNat=true)∧Box2 w wr (.int .i64 n) (.string s)) (λc _=>n.toNat-(intOf c).toNat)
 case atStart=>exact⟨0,by omega,rfl,λi hi=>absurd hi (by omega),Box2.mk' w _ _ _⟩
 case round=>
  obtain⟨k,hk,rfl,hall,hbox⟩:=hrel
  obtain⟨q0,q1,q2,q3⟩:=id hbox
  by_cases hlt:(k:Int)<n
  ·go_wp2_with fail
   go_loopw [4] (λc wr=>∃m:Nat,k+1<=m∧(m:Int)<=n∧c=.int .i64 m∧Hid (∀i:Nat,i<m->(λb=>decide (b<=(k:Int))||!(le s n k b&&le s n b k)) i=true)∧Box2 w wr (.int .i64 n) (.string s)) (λc _=>n.toNat-(intOf c).toNat)
   case atStart=>
    refine⟨k+1,by omega,by omega,by go_num,λi hi=>?_,hbox⟩
    have:(i:Int)<=k:=by omega
    simp[this]
   case round=>
    clear hbox q0 q1 q2 q3
    obtain⟨m,hm0,hm,rfl,hin,hbox⟩:=hrel
    obtain⟨q0,q1,q2,q3⟩:=id hbox
    by_cases hlt2:(m:Int)<n
    ·go_wp2_with fail
     refine(ZF ht k m _ (by omega) hlt (by omega) hlt2).mono ?_
     rintro e w1 ⟨rfl,hb1⟩
     replace hbox:=hbox.step hb1
     clear q0 q1 q2 q3 hb1
     obtain⟨q0,q1,q2,q3⟩:=id hbox
     go_wp2_with fail
     refine(ZF ht m k _ (by omega) hlt2 (by omega) hlt).mono ?_
     rintro e w1 ⟨rfl,hb1⟩
     replace hbox:=hbox.step hb1
     clear q0 q1 q2 q3 hb1
     obtain⟨q0,q1,q2,q3⟩:=id hbox
     generalize hx:le s n k m=x
     generalize hy:le s n m k=y
     have hx:Hid _:=hx
     have hy:Hid _:=hy
     have done:Hid ((!(x&&y))=true->∀i:Nat,i<m+1->(λb=>decide (b<=(k:Int))||!(le s n k b&&le s n b k)) i=true):=
      λh=>ZC (p:=(λb=>decide (b<=(k:Int))||!(le s n k b&&le s n b k))) hin.out (by rw[hx.out,hy.out,h];simp)
     cases x<;>cases y<;>go_wp2
     rotate_left 3
     ·go_ret
      refine⟨Zd ?_,q0⟩
      refine(Zl (i:=k) (by omega) ?_).symm
      refine Zl (i:=m) (by omega) ?_
      have:¬(m:Int)<=k:=by omega
      simp[hx.out,hy.out,this]
     all_goals
      go_roundw
      case rel=>exact⟨m+1,by omega,by omega,by go_num,done.out rfl,hbox⟩
      case measure=>simp[intOf];omega
    ·have done:Hid (∀i:Nat,i<k+1->Zw (λb=>decide (b<=(i:Int))||!(le s n i b&&le s n b i)) n.toNat=true):=
      ZC (p:=λa=>Zw (λb=>decide (b<=a)||!(le s n a b&&le s n b a)) n.toNat) hall.out (Za.2 (λi hi=>hin.out i (by omega)))
     go_wp2
     go_roundw
     case rel=>exact⟨k+1,by omega,by go_num,done,hbox⟩
     case measure=>simp[intOf];omega
  ·go_wp2
   go_ret
   exact⟨Zd (Za.2 (λi hi=>hall.out i (by omega))).symm,q0⟩
theorem Zmn(ht:Tab s n)(w:World) :
  Calls prog 177 #[.agg #[.int .i64 n,.string s]] w λe w'=>e=.returned (.bool (Znx s n))∧Below w.heap.size w w':=by
 obtain⟨t1,t2,-⟩:=id ht
 go_enter func177,ntmps177
 go_wp2
 go_loopw [3] (λc wr=>∃k:Nat,(k:Int)<=n∧c=.int .i64 k∧Hid (∀i:Nat,i<k->Zw (λb=>!(le s n i b)||Zc7 s n i b) n.toNat=true)∧Box2 w wr (.int .i64 n) (.string s)) (λc _=>n.toNat-(intOf c).toNat)
 case atStart=>exact⟨0,by omega,rfl,λi hi=>absurd hi (by omega),Box2.mk' w _ _ _⟩
 case round=>
  obtain⟨k,hk,rfl,hall,hbox⟩:=hrel
  obtain⟨q0,q1,q2,q3⟩:=id hbox
  by_cases hlt:(k:Int)<n
  ·go_wp2_with fail
   go_loopw [4] (λc wr=>∃m:Nat,(m:Int)<=n∧c=.int .i64 m∧Hid (∀i:Nat,i<m->(λb=>!(le s n k b)||Zc7 s n k b) i=true)∧Box2 w wr (.int .i64 n) (.string s)) (λc _=>n.toNat-(intOf c).toNat)
   case atStart=>exact⟨0,by omega,rfl,λi hi=>absurd hi (by omega),hbox⟩
   case round=>
    clear hbox q0 q1 q2 q3
    obtain⟨m,hm,rfl,hin,hbox⟩:=hrel
    obtain⟨q0,q1,q2,q3⟩:=id hbox
    by_cases hlt2:(m:Int)<n
    ·go_wp2_with fail
     refine(ZF ht k m _ (by omega) hlt (by omega) hlt2).mono ?_
     rintro e w1 ⟨rfl,hb1⟩
     replace hbox:=hbox.step hb1
     clear q0 q1 q2 q3 hb1
     obtain⟨q0,q1,q2,q3⟩:=id hbox
     generalize hx:le s n k m=x
     have hx:Hid _:=hx
     cases x
     ·go_wp2
      go_roundw
      case rel=>exact⟨m+1,by omega,by go_num,ZC (p:=(λb=>!(le s n k b)||Zc7 s n k b)) hin.out (by simp[hx.out]),hbox⟩
      case measure=>simp[intOf];omega
     ·go_wp2_with fail
      refine(Zi2 ht k m _ (by omega) hlt (by omega) hlt2).mono ?_
      rintro e w1 ⟨rfl,hb1⟩
      replace hbox:=hbox.step hb1
      clear q0 q1 q2 q3 hb1
      obtain⟨q0,q1,q2,q3⟩:=id hbox
      generalize hy:Zc7 s n k m=y
      have hy:Hid _:=hy
      cases y<;>go_wp2
      ·go_ret
       refine⟨Zd ?_,q0⟩
       refine(Zl (i:=k) (by omega) ?_).symm
       exact Zl (i:=m) (by omega) (by simp[hx.out,hy.out])
      ·go_roundw
       case rel=>exact⟨m+1,by omega,by go_num,ZC (p:=(λb=>!(le s n k b)||Zc7 s n k b)) hin.out (by simp[hy.out]),hbox⟩
       case measure=>simp[intOf];omega
    ·have done:Hid (∀i:Nat,i<k+1->Zw (λb=>!(le s n i b)||Zc7 s n i b) n.toNat=true):=
      ZC (p:=λa=>Zw (λb=>!(le s n a b)||Zc7 s n a b) n.toNat) hall.out (Za.2 (λi hi=>hin.out i (by omega)))
     go_wp2
     go_roundw
     case rel=>exact⟨k+1,by omega,by go_num,done,hbox⟩
     case measure=>simp[intOf];omega
  ·go_wp2
   go_ret
   exact⟨Zd (Za.2 (λi hi=>hall.out i (by omega))).symm,q0⟩
theorem Zmo(ht:Tab s n)(w:World) :
  Calls prog 112 #[.agg #[.int .i64 n,.string s]] w λe w'=>e=.returned (.bool (ZaY s n))∧Below w.heap.size w w':=by
 have hbox:=Box2.mk' w (.int .i64 n) (.string s) 54
 obtain⟨q0,q1,q2,q3⟩:=id hbox
 go_enter func112,ntmps112
 go_wp2_with fail
 refine(Zod ht _).mono ?_
 rintro e w1 ⟨rfl,hb1⟩
 replace hbox:=hbox.step hb1
 clear q0 q1 q2 q3 hb1
 obtain⟨q0,q1,q2,q3⟩:=id hbox
 generalize hx:Znw s n=x
 have hx:Hid _:=hx
 cases x
 ·go_wp2
  go_ret
  exact⟨Zd (by unfold ZaY;rw[hx.out];rfl),q0⟩
 ·go_wp2_with fail
  refine(Zoe ht _).mono ?_
  rintro e w1 ⟨rfl,hb1⟩
  replace hbox:=hbox.step hb1
  clear q0 q1 q2 q3 hb1
  obtain⟨q0,q1,q2,q3⟩:=id hbox
  generalize hy:ZoV s n=y
  have hy:Hid _:=hy
  cases y
  ·go_wp2
   go_ret
   exact⟨Zd (by unfold ZaY;rw[hx.out,hy.out];rfl),q0⟩
  ·go_wp2_with fail
   refine(Zmn ht _).mono ?_
   rintro e w1 ⟨rfl,hb1⟩
   replace hbox:=hbox.step hb1
   clear q0 q1 q2 q3 hb1
   obtain⟨q0,q1,q2,q3⟩:=id hbox
   go_wp2
   go_ret
   exact⟨Zd (by unfold ZaY;rw[hx.out,hy.out];simp),q0⟩
theorem ZhV(ht:Tab s n)(a b c:Int)(w:World)(ha:0<=a)(ha':a<n)(hb:0<=b)(hb':b<n)(hc:0<=c)(hc':c<n) :
  Calls prog 170 #[.agg #[.int .i64 n,.string s],.int .i64 a,.int .i64 b,.int .i64 c] w λe w'=>e=.returned (.bool (Zap s n a b c))∧Below w.heap.size w w':=by
 have hbox:=Box2.mk' w (.int .i64 n) (.string s) 54
 obtain⟨q0,q1,q2,q3⟩:=id hbox
 go_enter func170,ntmps170
 go_wp2_with fail
 refine(ZF ht a c _ ha ha' hc hc').mono ?_
 rintro e w1 ⟨rfl,hb1⟩
 replace hbox:=hbox.step hb1
 clear q0 q1 q2 q3 hb1
 obtain⟨q0,q1,q2,q3⟩:=id hbox
 go_wp2_with fail
 refine(ZF ht b c _ hb hb' hc hc').mono ?_
 rintro e w1 ⟨rfl,hb1⟩
 replace hbox:=hbox.step hb1
 clear q0 q1 q2 q3 hb1
 obtain⟨q0,q1,q2,q3⟩:=id hbox
 have hd:Zap s n a b c=(le s n a c&&le s n b c):=rfl
 generalize le s n a c=x at hd ⊢
 generalize le s n b c=y at hd ⊢
 have hd':Hid _:=hd
 clear hd
 cases x<;>cases y<;>go_wp2<;>go_ret<;>exact⟨Zd hd'.out.symm,q0⟩
theorem ZhW(ht:Tab s n)(a b c:Int)(w:World)(ha:0<=a)(ha':a<n)(hb:0<=b)(hb':b<n)(hc:0<=c)(hc':c<n) :
  Calls prog 226 #[.agg #[.int .i64 n,.string s],.int .i64 a,.int .i64 b,.int .i64 c] w λe w'=>e=.returned (.bool (Zbd s n a b c))∧Below w.heap.size w w':=by
 have hbox:=Box2.mk' w (.int .i64 n) (.string s) 54
 obtain⟨q0,q1,q2,q3⟩:=id hbox
 go_enter func226,ntmps226
 go_wp2_with fail
 refine(ZF ht c a _ hc hc' ha ha').mono ?_
 rintro e w1 ⟨rfl,hb1⟩
 replace hbox:=hbox.step hb1
 clear q0 q1 q2 q3 hb1
 obtain⟨q0,q1,q2,q3⟩:=id hbox
 go_wp2_with fail
 refine(ZF ht c b _ hc hc' hb hb').mono ?_
 rintro e w1 ⟨rfl,hb1⟩
 replace hbox:=hbox.step hb1
 clear q0 q1 q2 q3 hb1
 obtain⟨q0,q1,q2,q3⟩:=id hbox
 have hd:Zbd s n a b c=(le s n c a&&le s n c b):=rfl
 generalize le s n c a=x at hd ⊢
 generalize le s n c b=y at hd ⊢
 have hd':Hid _:=hd
 clear hd
 cases x<;>cases y<;>go_wp2<;>go_ret<;>exact⟨Zd hd'.out.symm,q0⟩
theorem Zk0(ht:Tab s n)(a b c:Int)(w:World)(ha:0<=a)(ha':a<n)(hb:0<=b)(hb':b<n)(hc:0<=c)(hc':c<n) :
  Calls prog 100 #[.agg #[.int .i64 n,.string s],.int .i64 a,.int .i64 b,.int .i64 c] w λe w'=>e=.returned (.bool (ZcL s n a b c))∧Below w.heap.size w w':=by
 obtain⟨t1,t2,-⟩:=id ht
 have hbox:=Box2.mk' w (.int .i64 n) (.string s) 54
 obtain⟨q0,q1,q2,q3⟩:=id hbox
 go_enter func100,ntmps100
 go_wp2_with fail
 refine(ZhV ht a b c _ ha ha' hb hb' hc hc').mono ?_
 rintro e w1 ⟨rfl,hb1⟩
 replace hbox:=hbox.step hb1
 clear q0 q1 q2 q3 hb1
 obtain⟨q0,q1,q2,q3⟩:=id hbox
 generalize hz:Zap s n a b c=z
 have hz:Hid _:=hz
 cases z
 ·go_wp2
  go_ret
  exact⟨Zd (by unfold ZcL;rw[hz.out];rfl),q0⟩
 ·go_wp2_with fail
  go_loopw [9] (λc' wr=>∃k:Nat,(k:Int)<=n∧c'=.int .i64 k∧Hid (∀i:Nat,i<k->(λd=>d==c||(!(Zap s n a b d)||le s n c d)) i=true)∧Box2 w wr (.int .i64 n) (.string s)) (λc' _=>n.toNat-(intOf c').toNat)
  case atStart=>exact⟨0,by omega,rfl,λi hi=>absurd hi (by omega),hbox⟩
  case round=>
   clear hbox q0 q1 q2 q3
   obtain⟨k,hk,rfl,hall,hbox⟩:=hrel
   obtain⟨q0,q1,q2,q3⟩:=id hbox
   by_cases hlt:(k:Int)<n
   ·go_wp2_with fail
    refine(ZhV ht a b k _ ha ha' hb hb' (by omega) hlt).mono ?_
    rintro e w1 ⟨rfl,hb1⟩
    replace hbox:=hbox.step hb1
    clear q0 q1 q2 q3 hb1
    obtain⟨q0,q1,q2,q3⟩:=id hbox
    go_wp2_with fail
    refine(ZF ht c k _ hc hc' (by omega) hlt).mono ?_
    rintro e w1 ⟨rfl,hb1⟩
    replace hbox:=hbox.step hb1
    clear q0 q1 q2 q3 hb1
    obtain⟨q0,q1,q2,q3⟩:=id hbox
    generalize hx:Zap s n a b k=x
    generalize hy:le s n c k=y
    have hx:Hid _:=hx
    have hy:Hid _:=hy
    by_cases hkc:(k:Int)=c
    ·have hkc1:((k:Int) != c)=false:=by simpa using hkc
     have done:Hid (∀i:Nat,i<k+1->(λd=>d==c||(!(Zap s n a b d)||le s n c d)) i=true):=ZC (p:=(λd=>d==c||(!(Zap s n a b d)||le s n c d))) hall.out (by simp[hkc])
     clear hkc
     cases x<;>cases y<;>go_wp2
     all_goals
      go_roundw
      case rel=>exact⟨k+1,by omega,by go_num,done,hbox⟩
      case measure=>simp[intOf];omega
    ·have hkc1:((k:Int) != c)=true:=by simpa using hkc
     have hkc2:Hid _:=hkc
     clear hkc
     have done:Hid ((!x||y)=true->∀i:Nat,i<k+1->(λd=>d==c||(!(Zap s n a b d)||le s n c d)) i=true):=
      λh=>ZC (p:=(λd=>d==c||(!(Zap s n a b d)||le s n c d))) hall.out (by rw[hx.out,hy.out,h];simp)
     cases x<;>cases y<;>go_wp2
     rotate_left 2
     ·go_ret
      refine⟨Zd ?_,q0⟩
      unfold ZcL
      rw[hz.out,Zl (i:=k) (by omega) (by simp[hx.out,hy.out];exact hkc2.out)]
      rfl
     all_goals
      go_roundw
      case rel=>exact⟨k+1,by omega,by go_num,done.out rfl,hbox⟩
      case measure=>simp[intOf];omega
   ·go_wp2
    go_ret
    refine⟨Zd ?_,q0⟩
    unfold ZcL
    rw[hz.out,Za.2 (λi hi=>hall.out i (by omega))]
    rfl
theorem ZeM(ht:Tab s n)(a b:Int)(w:World)(ha:0<=a)(ha':a<n)(hb:0<=b)(hb':b<n) :
  Calls prog 45 #[.agg #[.int .i64 n,.string s],.int .i64 a,.int .i64 b] w λe w'=>e=.returned (.tuple #[.int .i64 ((Zcm s n a b).getD 0),.bool (Zcm s n a b).isSome])∧Below w.heap.size w w':=by
 obtain⟨t1,t2,-⟩:=id ht
 go_enter func45,ntmps45
 go_wp2
 go_loopw [8] (λc wr=>∃k:Nat,(k:Int)<=n∧c=.int .i64 k∧Hid (∀i:Nat,i<k->ZcL s n a b i=false)∧Box2 w wr (.int .i64 n) (.string s)) (λc _=>n.toNat-(intOf c).toNat)
 case atStart=>exact⟨0,by omega,rfl,λi hi=>absurd hi (by omega),Box2.mk' w _ _ _⟩
 case round=>
  obtain⟨k,hk,rfl,hall,hbox⟩:=hrel
  obtain⟨q0,q1,q2,q3⟩:=id hbox
  by_cases hlt:(k:Int)<n
  ·go_wp2_with fail
   refine(Zk0 ht a b k _ ha ha' hb hb' (by omega) hlt).mono ?_
   rintro e w1 ⟨rfl,hb1⟩
   replace hbox:=hbox.step hb1
   clear q0 q1 q2 q3 hb1
   obtain⟨q0,q1,q2,q3⟩:=id hbox
   generalize hx:ZcL s n a b k=x
   have hx:Hid _:=hx
   cases x<;>go_wp2
   ·go_roundw
    case rel=>exact⟨k+1,by omega,by go_num,ZbZ hall.out hx.out,hbox⟩
    case measure=>simp[intOf];omega
   ·go_ret2
    have e:Zcm s n a b=some (k:Int):=Zaq (by omega) hall.out hx.out
    rw[e]
    exact⟨rfl,q0⟩
  ·go_wp2
   go_ret2
   have e:Zcm s n a b=none:=ZaN (λi hi=>hall.out i (by omega))
   rw[e]
   exact⟨rfl,q0⟩
theorem Zk1(ht:Tab s n)(a b c:Int)(w:World)(ha:0<=a)(ha':a<n)(hb:0<=b)(hb':b<n)(hc:0<=c)(hc':c<n) :
  Calls prog 199 #[.agg #[.int .i64 n,.string s],.int .i64 a,.int .i64 b,.int .i64 c] w λe w'=>e=.returned (.bool (ZcM s n a b c))∧Below w.heap.size w w':=by
 obtain⟨t1,t2,-⟩:=id ht
 have hbox:=Box2.mk' w (.int .i64 n) (.string s) 54
 obtain⟨q0,q1,q2,q3⟩:=id hbox
 go_enter func199,ntmps199
 go_wp2_with fail
 refine(ZhW ht a b c _ ha ha' hb hb' hc hc').mono ?_
 rintro e w1 ⟨rfl,hb1⟩
 replace hbox:=hbox.step hb1
 clear q0 q1 q2 q3 hb1
 obtain⟨q0,q1,q2,q3⟩:=id hbox
 generalize hz:Zbd s n a b c=z
 have hz:Hid _:=hz
 cases z
 ·go_wp2
  go_ret
  exact⟨Zd (by unfold ZcM;rw[hz.out];rfl),q0⟩
 ·go_wp2_with fail
  go_loopw [9] (λc' wr=>∃k:Nat,(k:Int)<=n∧c'=.int .i64 k∧Hid (∀i:Nat,i<k->(λd=>d==c||(!(Zbd s n a b d)||le s n d c)) i=true)∧Box2 w wr (.int .i64 n) (.string s)) (λc' _=>n.toNat-(intOf c').toNat)
  case atStart=>exact⟨0,by omega,rfl,λi hi=>absurd hi (by omega),hbox⟩
  case round=>
   clear hbox q0 q1 q2 q3
   obtain⟨k,hk,rfl,hall,hbox⟩:=hrel
   obtain⟨q0,q1,q2,q3⟩:=id hbox
   by_cases hlt:(k:Int)<n
   ·go_wp2_with fail
    refine(ZhW ht a b k _ ha ha' hb hb' (by omega) hlt).mono ?_
    rintro e w1 ⟨rfl,hb1⟩
    replace hbox:=hbox.step hb1
    clear q0 q1 q2 q3 hb1
    obtain⟨q0,q1,q2,q3⟩:=id hbox
    go_wp2_with fail
    refine(ZF ht k c _ (by omega) hlt hc hc').mono ?_
    rintro e w1 ⟨rfl,hb1⟩
    replace hbox:=hbox.step hb1
    clear q0 q1 q2 q3 hb1
    obtain⟨q0,q1,q2,q3⟩:=id hbox
    generalize hx:Zbd s n a b k=x
    generalize hy:le s n k c=y
    have hx:Hid _:=hx
    have hy:Hid _:=hy
    by_cases hkc:(k:Int)=c
    ·have hkc1:((k:Int) != c)=false:=by simpa using hkc
     have done:Hid (∀i:Nat,i<k+1->(λd=>d==c||(!(Zbd s n a b d)||le s n d c)) i=true):=ZC (p:=(λd=>d==c||(!(Zbd s n a b d)||le s n d c))) hall.out (by simp[hkc])
     clear hkc
     cases x<;>cases y<;>go_wp2
     all_goals
      go_roundw
      case rel=>exact⟨k+1,by omega,by go_num,done,hbox⟩
      case measure=>simp[intOf];omega
    ·have hkc1:((k:Int) != c)=true:=by simpa using hkc
     have hkc2:Hid _:=hkc
     clear hkc
     have done:Hid ((!x||y)=true->∀i:Nat,i<k+1->(λd=>d==c||(!(Zbd s n a b d)||le s n d c)) i=true):=
      λh=>ZC (p:=(λd=>d==c||(!(Zbd s n a b d)||le s n d c))) hall.out (by rw[hx.out,hy.out,h];simp)
     cases x<;>cases y<;>go_wp2
     rotate_left 2
     ·go_ret
      refine⟨Zd ?_,q0⟩
      unfold ZcM
      rw[hz.out,Zl (i:=k) (by omega) (by simp[hx.out,hy.out];exact hkc2.out)]
      rfl
     all_goals
      go_roundw
      case rel=>exact⟨k+1,by omega,by go_num,done.out rfl,hbox⟩
      case measure=>simp[intOf];omega
   ·go_wp2
    go_ret
    refine⟨Zd ?_,q0⟩
    unfold ZcM
    rw[hz.out,Za.2 (λi hi=>hall.out i (by omega))]
    rfl
theorem Zof(ht:Tab s n)(a b:Int)(w:World)(ha:0<=a)(ha':a<n)(hb:0<=b)(hb':b<n) :
  Calls prog 146 #[.agg #[.int .i64 n,.string s],.int .i64 a,.int .i64 b] w λe w'=>e=.returned (.tuple #[.int .i64 ((Zek s n a b).getD 0),.bool (Zek s n a b).isSome])∧Below w.heap.size w w':=by
 obtain⟨t1,t2,-⟩:=id ht
 go_enter func146,ntmps146
 go_wp2
 go_loopw [8] (λc wr=>∃k:Nat,(k:Int)<=n∧c=.int .i64 k∧Hid (∀i:Nat,i<k->ZcM s n a b i=false)∧Box2 w wr (.int .i64 n) (.string s)) (λc _=>n.toNat-(intOf c).toNat)
 case atStart=>exact⟨0,by omega,rfl,λi hi=>absurd hi (by omega),Box2.mk' w _ _ _⟩
 case round=>
  obtain⟨k,hk,rfl,hall,hbox⟩:=hrel
  obtain⟨q0,q1,q2,q3⟩:=id hbox
  by_cases hlt:(k:Int)<n
  ·go_wp2_with fail
   refine(Zk1 ht a b k _ ha ha' hb hb' (by omega) hlt).mono ?_
   rintro e w1 ⟨rfl,hb1⟩
   replace hbox:=hbox.step hb1
   clear q0 q1 q2 q3 hb1
   obtain⟨q0,q1,q2,q3⟩:=id hbox
   generalize hx:ZcM s n a b k=x
   have hx:Hid _:=hx
   cases x<;>go_wp2
   ·go_roundw
    case rel=>exact⟨k+1,by omega,by go_num,ZbZ hall.out hx.out,hbox⟩
    case measure=>simp[intOf];omega
   ·go_ret2
    have e:Zek s n a b=some (k:Int):=Zaq (by omega) hall.out hx.out
    rw[e]
    exact⟨rfl,q0⟩
  ·go_wp2
   go_ret2
   have e:Zek s n a b=none:=ZaN (λi hi=>hall.out i (by omega))
   rw[e]
   exact⟨rfl,q0⟩
theorem Zp7(ht:Tab s n)(w:World) :
  Calls prog 113 #[.agg #[.int .i64 n,.string s]] w λe w'=>e=.returned (.bool (Zr9 s n))∧Below w.heap.size w w':=by
 obtain⟨t1,t2,-⟩:=id ht
 go_enter func113,ntmps113
 go_wp2
 go_loopw [3] (λc wr=>∃k:Nat,(k:Int)<=n∧c=.int .i64 k∧Hid (∀i:Nat,i<k->Zw (λb=>(Zcm s n i b).isSome&&(Zek s n i b).isSome) n.toNat=true)∧Box2 w wr (.int .i64 n) (.string s)) (λc _=>n.toNat-(intOf c).toNat)
 case atStart=>exact⟨0,by omega,rfl,λi hi=>absurd hi (by omega),Box2.mk' w _ _ _⟩
 case round=>
  obtain⟨k,hk,rfl,hall,hbox⟩:=hrel
  obtain⟨q0,q1,q2,q3⟩:=id hbox
  by_cases hlt:(k:Int)<n
  ·go_wp2_with fail
   go_loopw [4] (λc wr=>∃m:Nat,(m:Int)<=n∧c=.int .i64 m∧Hid (∀i:Nat,i<m->(λb=>(Zcm s n k b).isSome&&(Zek s n k b).isSome) i=true)∧Box2 w wr (.int .i64 n) (.string s)) (λc _=>n.toNat-(intOf c).toNat)
   case atStart=>exact⟨0,by omega,rfl,λi hi=>absurd hi (by omega),hbox⟩
   case round=>
    clear hbox q0 q1 q2 q3
    obtain⟨m,hm,rfl,hin,hbox⟩:=hrel
    obtain⟨q0,q1,q2,q3⟩:=id hbox
    by_cases hlt2:(m:Int)<n
    ·go_wp2_with fail
     refine(ZeM ht k m _ (by omega) hlt (by omega) hlt2).mono ?_
     rintro e w1 ⟨rfl,hb1⟩
     replace hbox:=hbox.step hb1
     clear q0 q1 q2 q3 hb1
     obtain⟨q0,q1,q2,q3⟩:=id hbox
     go_wp2_with fail
     refine(Zof ht k m _ (by omega) hlt (by omega) hlt2).mono ?_
     rintro e w1 ⟨rfl,hb1⟩
     replace hbox:=hbox.step hb1
     clear q0 q1 q2 q3 hb1
     obtain⟨q0,q1,q2,q3⟩:=id hbox
     generalize hx:(Zcm s n k m).isSome=x
     generalize hy:(Zek s n k m).isSome=y
     have hx:Hid _:=hx
     have hy:Hid _:=hy
     have done:Hid ((x&&y)=true->∀i:Nat,i<m+1->(λb=>(Zcm s n k b).isSome&&(Zek s n k b).isSome) i=true):=
      λh=>ZC (p:=(λb=>(Zcm s n k b).isSome&&(Zek s n k b).isSome)) hin.out (by rw[hx.out,hy.out,h])
     have bad:Hid ((x&&y)=false->Zr9 s n=false):=by
      intro h
      refine Zl (i:=k) (by omega) ?_
      exact Zl (i:=m) (by omega) (by rw[hx.out,hy.out,h])
     cases x<;>cases y<;>go_wp2
     rotate_left 3
     ·go_roundw
      case rel=>exact⟨m+1,by omega,by go_num,done.out rfl,hbox⟩
      case measure=>simp[intOf];omega
     all_goals
      go_ret
      exact⟨Zd (bad.out rfl).symm,q0⟩
    ·have done:Hid (∀i:Nat,i<k+1->Zw (λb=>(Zcm s n i b).isSome&&(Zek s n i b).isSome) n.toNat=true):=
      ZC (p:=λa=>Zw (λb=>(Zcm s n a b).isSome&&(Zek s n a b).isSome) n.toNat) hall.out (Za.2 (λi hi=>hin.out i (by omega)))
     go_wp2
     go_roundw
     case rel=>exact⟨k+1,by omega,by go_num,done,hbox⟩
     case measure=>simp[intOf];omega
  ·go_wp2
   go_ret
   exact⟨Zd (Za.2 (λi hi=>hall.out i (by omega))).symm,q0⟩
theorem Zdy(ht:Tab s n)(w:World) :
  Calls prog 58 #[.agg #[.int .i64 n,.string s]] w λe w'=>e=.returned (.int .i64 (judgeE s n))∧Below w.heap.size w w':=by
 have hbox:=Box2.mk' w (.int .i64 n) (.string s) 54
 obtain⟨q0,q1,q2,q3⟩:=id hbox
 go_enter func58,ntmps58
 go_wp2_with fail
 refine(Zmo ht _).mono ?_
 rintro e w1 ⟨rfl,hb1⟩
 replace hbox:=hbox.step hb1
 clear q0 q1 q2 q3 hb1
 obtain⟨q0,q1,q2,q3⟩:=id hbox
 generalize hx:ZaY s n=x
 have hx:Hid _:=hx
 cases x
 ·go_wp2
  go_ret
  exact⟨ZR (by unfold judgeE;rw[hx.out];rfl),q0⟩
 ·go_wp2_with fail
  refine(Zp7 ht _).mono ?_
  rintro e w1 ⟨rfl,hb1⟩
  replace hbox:=hbox.step hb1
  clear q0 q1 q2 q3 hb1
  obtain⟨q0,q1,q2,q3⟩:=id hbox
  generalize hy:Zr9 s n=y
  have hy:Hid _:=hy
  cases y<;>go_wp2<;>go_ret<;>exact⟨ZR (by unfold judgeE;rw[hx.out,hy.out];rfl),q0⟩
theorem ZgO(s:ZB)(w:World)(hsm:s.size<=maxLen) :
  Calls prog 97 #[.string s] w λe w'=>e=.returned (.tuple #[.agg #[.int .i64 (tabN s),.string (ZjE s)],.bool (!(tabN s==0))])∧Below w.heap.size w w':=by
 go_enter func97,ntmps97
 go_wp2_with fail
 refine(Zob s.size _ (by omega)).mono ?_
 rintro e w1 ⟨rfl,rfl⟩
 by_cases h0:sideF s.size=0
 ·have hT:tabN s=0:=by unfold tabN;rw[h0];split<;>rfl
  have hS:Hid (tabN s=0∧ZjE s={data:=#[]}):=⟨hT,by unfold ZjE;rw[if_pos hT]⟩
  rw[h0]
  clear h0 hT
  go_wp2
  exact bodyPost_ret (v:=.tuple #[.agg #[.int .i64 0,.string {data:=#[]}],.bool false]) (by simp[results,Tryz.results97,go_sem]) rfl ⟨by rw[hS.out.1,hS.out.2];rfl,(Below.refl _ _).alloc (Nat.le_refl _) _⟩
 ·have h00:(sideF s.size==0)=false:=by simpa using h0
  have hS:Hid (bits s=true->tabN s=sideF s.size∧ZjE s=s∧(tabN s==0)=false):=by
   intro h
   have e:tabN s=sideF s.size:=by unfold tabN;rw[if_pos h]
   exact⟨e,by unfold ZjE;rw[if_neg (by omega)],by rw[e];exact h00⟩
  have hN:Hid (bits s=false->tabN s=0∧ZjE s={data:=#[]}):=by
   intro h
   have e:tabN s=0:=by unfold tabN;rw[h];rfl
   exact⟨e,by unfold ZjE;rw[if_pos e]⟩
  clear h0
  generalize sideF s.size=n at *
  go_wp2_with fail
  refine(Zoc s _ hsm).mono ?_
  rintro e w1 ⟨rfl,rfl⟩
  generalize hx:bits s=x
  have hx:Hid _:=hx
  cases x
  ·go_wp2
   exact bodyPost_ret (v:=.tuple #[.agg #[.int .i64 0,.string {data:=#[]}],.bool false]) (by simp[results,Tryz.results97,go_sem]) rfl ⟨by rw[(hN.out hx.out).1,(hN.out hx.out).2];rfl,(Below.refl _ _).alloc (Nat.le_refl _) _⟩
  ·go_wp2
   exact bodyPost_ret (v:=.tuple #[.agg #[.int .i64 n,.string s],.bool true]) (by simp[results,Tryz.results97,go_sem]) rfl ⟨by rw[(hS.out hx.out).2.1,(hS.out hx.out).2.2,(hS.out hx.out).1];rfl,(Below.refl _ _).alloc (Nat.le_refl _) _⟩
theorem Zog(s:ZB)(w:World)(hsm:s.size<=maxLen) :
  Calls prog 41 #[.string s] w λe w'=>e=.returned (.tuple #[.agg #[.int .i64 (levN s),.string (levS s)],.int .i64 (levE s)])∧Below w.heap.size w w':=by
 have o0:=Own2.new w (.int .i64 0) (.string {data:=#[]}) 54
 have b0:Below w.heap.size w (w.alloc (.cells #[.int .i64 0,.string {data:=#[]}] 54)):=(Qh _ _).alloc (Qb _) _
 go_enter func41,ntmps41
 go_wp2_with fail
 refine(ZgO s _ hsm).mono ?_
 rintro e w1 ⟨rfl,hb1⟩
 replace o0:=o0.step hb1
 replace b0:=b0.trans (hb1.mono (by simp))
 clear hb1
 by_cases h0:tabN s=0
 ·have hE:Hid (levE s=3):=by unfold Hid levE;rw[if_pos h0]
  have hS:Hid (levN s=0∧levS s={data:=#[]}):=⟨Zdb hE.out (by omega),by unfold levS;rw[if_neg (by rw[hE.out];omega)]⟩
  have hS2:ZjE s={data:=#[]}:=by unfold ZjE;rw[if_pos h0]
  rw[hS2,h0]
  clear h0 hS2
  obtain⟨o1,o2,o3,o4,o5⟩:=id o0
  go_wp2
  exact bodyPost_ret (v:=.tuple #[.agg #[.int .i64 0,.string {data:=#[]}],.int .i64 3]) (by simp[results,Tryz.results41,go_sem,o1,o2,o3]) rfl ⟨by rw[hS.out.1,hS.out.2,hE.out],((b0.setCell (Nat.le_refl _) _).setCell (Nat.le_refl _) _).alloc (by simp;omega) _⟩
 ·have ht:=(Zce h0).1
  have h00:(tabN s==0)=false:=by simpa using h0
  have hS2:ZjE s=s:=by unfold ZjE;rw[if_neg h0]
  have hE:Hid (levE s=judgeE s (tabN s)):=by
   have:=ZhI s
   unfold ZoW at this
   rw[if_neg h0]at this
   exact this.symm
  rw[hS2,h00]
  clear h0 hS2 h00
  have hN:Hid (levE s=0->levN s=tabN s∧levS s=s):=λh=>⟨ZhH h,by unfold levS;rw[if_pos h]⟩
  have hM:Hid (levE s≠0->levN s=0∧levS s={data:=#[]}):=λh=>⟨Zdb rfl h,by unfold levS;rw[if_neg h]⟩
  generalize tabN s=n at *
  have p0:=Own2.new w1 (.int .i64 n) (.string s) 54
  replace b0:=b0.alloc (Uf o0.lt) (.cells #[.int .i64 n,.string s] 54)
  have o1:=o0.lt
  replace o0:=o0.alloc (.cells #[.int .i64 n,.string s] 54)
  go_wp2_with fail
  refine(Zdy ht _).mono ?_
  rintro e w2 ⟨rfl,hb1⟩
  rw[<-hE.out]
  replace o0:=o0.step hb1
  replace p0:=p0.step hb1
  replace b0:=b0.trans (hb1.mono (by simp;omega))
  clear hb1
  obtain⟨o1,o2,o3,o4,o5⟩:=id o0
  obtain⟨p1,p2,p3,p4,p5⟩:=id p0
  by_cases h1:levE s=0
  ·have hv:Hid _:=hN.out h1
   have he:Hid _:=h1
   rw[h1]
   clear h1
   go_wp2
   exact bodyPost_ret (v:=.tuple #[.agg #[.int .i64 n,.string s],.int .i64 0]) (by simp[results,Tryz.results41,go_sem,o2,o3]) rfl ⟨by rw[hv.out.1,hv.out.2,he.out],((b0.setCell (Nat.le_refl _) _).setCell (Nat.le_refl _) _)⟩
  ·have hv:Hid _:=hM.out h1
   have he:(levE s != 0)=true:=by simpa using h1
   clear h1
   go_wp2
   exact bodyPost_ret (v:=.tuple #[.agg #[.int .i64 0,.string {data:=#[]}],.int .i64 (levE s)]) (by simp[results,Tryz.results41,go_sem,o2,o3]) rfl ⟨by rw[hv.out.1,hv.out.2],((b0.setCell (Nat.le_refl _) _).setCell (Nat.le_refl _) _)⟩
set_option linter.unusedVariables false
set_option maxRecDepth 100000
theorem Zj0:∀(L:List Int) (r:ZB),L.foldl (λr n=>r.push (UInt8.ofNat n.toNat)) r=r++bs L
 | [],r=>by
  apply ByteArray.ext
  rw[QU]
  simp[bs]
 | x::L,r=>by
  rw[List.foldl_cons,Zj0 L]
  apply ByteArray.ext
  rw[QU,QU]
  simp[bs,ByteArray.push]
theorem ZeN{w:World}{B:Nat}{v:Value}(L:List Int)(h:w.ownsRow B 5 1 v L.length (L.map (Value.int .u8))) :
  (convert 56 9 v).run prog w=.ok (.string (bs L)) w:=by
 rcases h.2 with ⟨rfl,hn⟩|⟨g,cap,cur,rfl,hbb,hgg,rest⟩
 ·have:L=[]:=Uk (by omega)
  subst this
  exact run_convert_bytes_nil (w:=w) 56 5 Tryz.underlying56 Tryz.underlying5 _ _ 9 Tryz.underlying9
 ·rw[run_convert_bytes_string w 56 9 5 _ _ _ Tryz.underlying56 Tryz.underlying5 Tryz.underlying9]
  have hl:=run_loadCells_list (P:=prog) w ⟨g,0,none⟩ (L.map (Value.int .u8)) (λj v hj=>h.cells rfl j v hj)
  rw[List.length_map]at hl
  rw[run_bytesToString w ⟨g,0,none⟩ L.length cap L hl,Zj0]
  have he:ByteArray.empty++bs L=bs L:=by
   apply ByteArray.ext
   rw[QU]
   have he0:ByteArray.empty.data=#[]:=rfl
   rw[he0]
   simp
  rw[he]
end Go.Proofs.YtcnbifdlkalimabGreat
