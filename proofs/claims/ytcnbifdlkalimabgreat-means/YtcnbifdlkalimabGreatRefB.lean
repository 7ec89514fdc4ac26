import Derived.Test.YtcnbifdlkalimabGreatPlnA
/- Lemmas for the statement Means; their conditions stand in each. -/
namespace Go.Proofs.YtcnbifdlkalimabGreat
open Go.RowKit Go.Proofs.Tryz
set_option maxHeartbeats 6400000
variable{n:Int}{s:ZB}
theorem Zas(ht:Tab s n)(a b:Int)(w:World)(ha:0<=a)(ha':a<n)(hb:0<=b)(hb':b<n) :
  Calls prog 55 #[.string s,.int .i64 n,.int .i64 a,.int .i64 b] w λe w'=>e=.returned (.bool (le s n a b))∧w'=w:=by
 obtain⟨t1,t2,t3⟩:=ht
 obtain⟨h1,h2⟩:=ZnV n a b ha ha' hb'
 have h3:a*n+b<s.size:=by omega
 have h4:=ZiM n t1 t2
 have HL:=Zo8 s n a b (by omega)
 have HH:Hid _:=HL
 clear HL
 go_enter func55,ntmps55
 go_wp2
 go_ret
 exact⟨Zd HH.out,rfl⟩
theorem Zh4(ht:Tab s n)(a b c:Int)(w:World)(ha:0<=a)(ha':a<n)(hb:0<=b)(hb':b<n)(hc:0<=c)(hc':c<n) :
  Calls prog 108 #[.string s,.int .i64 n,.int .i64 a,.int .i64 b,.int .i64 c] w λe w'=>e=.returned (.bool (Zap s n a b c))∧w'=w:=by
 go_enter func108,ntmps108
 go_wp2_with fail
 refine(Zas ht a c _ ha ha' hc hc').mono ?_
 rintro e w1 ⟨rfl,rfl⟩
 go_wp2_with fail
 refine(Zas ht b c _ hb hb' hc hc').mono ?_
 rintro e w1 ⟨rfl,rfl⟩
 have hd:Zap s n a b c=(le s n a c&&le s n b c):=rfl
 generalize le s n a c=x at hd ⊢
 generalize le s n b c=y at hd ⊢
 have hd':Hid _:=hd
 clear hd
 cases x<;>cases y<;>go_wp2<;>go_ret<;>exact⟨Zd hd'.out.symm,rfl⟩
theorem ZcV(ht:Tab s n)(a b:Int)(w:World)(ha:0<=a)(ha':a<n)(hb:0<=b)(hb':b<n) :
  Calls prog 52 #[.string s,.int .i64 n,.int .i64 a,.int .i64 b] w λe w'=>e=.returned (.int .i64 ((Zbm s n a b).getD (-1)))∧w'=w:=by
 obtain⟨t1,t2,-⟩:=id ht
 go_enter func52,ntmps52
 go_wp2
 go_loop [9] (λc=>∃k:Nat,(k:Int)<=n∧c=.int .i64 k∧Hid (∀i:Nat,i<k->rIsJoin s n a b i=false)) (λc=>n.toNat-(intOf c).toNat)
 case atStart=>exact⟨0,by omega,rfl,λi hi=>absurd hi (by omega)⟩
 case round=>
  obtain⟨k,hk,rfl,hall⟩:=hrel
  by_cases hlt:(k:Int)<n
  ·go_wp2_with fail
   refine(Zh4 ht a b k _ ha ha' hb hb' (by omega) hlt).mono ?_
   rintro e w1 ⟨rfl,rfl⟩
   go_wp2_with fail
   go_loop [10,11] (λo c=>∃m:Nat,(m:Int)<=n∧c=.int .i64 m∧∃x:Bool,o=.bool x∧Hid (x=(Zap s n a b k&&Zw (λc=>!(Zap s n a b c)||le s n k c) m))) (λ_ c=>n.toNat-(intOf c).toNat)
   case atStart=>exact⟨0,by omega,rfl,_,rfl,by simp[Hid,Zw]⟩
   case round=>
    obtain⟨m,hm,rfl,x,rfl,hx⟩:=hrel
    by_cases hlt2:(m:Int)<n
    ·cases x
     ·have done:Hid (rIsJoin s n a b k=false):=by
       have h:=hx.out.symm
       unfold rIsJoin
       cases e:Zap s n a b k with
       | false=>rfl
       | true=>rw[e,Un]at h;rw[Un];exact Zf6 (by omega) h
      go_wp2
      go_round
      case rel=>exact⟨k+1,by omega,by go_num,ZbZ hall.out done.out⟩
      case measure=>simp[intOf];omega
     ·have hab:Hid (Zap s n a b k=true∧Zw (λc=>!(Zap s n a b c)||le s n k c) m=true):=by
       have h:=hx.out.symm
       rw[Qr]at h
       exact h
      go_wp2_with fail
      refine(Zh4 ht a b m _ ha ha' hb hb' (by omega) hlt2).mono ?_
      rintro e w1 ⟨rfl,rfl⟩
      generalize hz:Zap s n a b m=z
      have hz:Hid _:=hz
      cases z
      ·go_wp2
       go_round
       case rel=>exact⟨m+1,by omega,by go_num,true,rfl,by simp only[Hid,Zw,hab.out.1,hab.out.2,hz.out];rfl⟩
       case measure=>simp[intOf];omega
      ·go_wp2_with fail
       refine(Zas ht k m _ (by omega) hlt (by omega) hlt2).mono ?_
       rintro e w1 ⟨rfl,rfl⟩
       go_wp2
       go_round
       case rel=>exact⟨m+1,by omega,by go_num,le s n k m,rfl,by simp only[Hid,Zw,hab.out.1,hab.out.2,hz.out];simp⟩
       case measure=>simp[intOf];omega
    ·have hmn:m=n.toNat:=by omega
     have hx2:Hid (x=rIsJoin s n a b k):=by unfold rIsJoin;rw[<-hmn];exact hx
     clear hmn
     cases x
     ·go_wp2
      go_round
      case rel=>exact⟨k+1,by omega,by go_num,ZbZ hall.out hx2.out.symm⟩
      case measure=>simp[intOf];omega
     ·go_wp2
      go_ret
      have e:Zbm s n a b=some (k:Int):=Zaq (by omega) hall.out hx2.out.symm
      rw[e]
      exact⟨rfl,rfl⟩
  ·go_wp2
   go_ret
   have e:Zbm s n a b=none:=ZaN (λi hi=>hall.out i (by omega))
   rw[e]
   exact⟨rfl,rfl⟩
theorem Zor(s:ZB)(w:World)(hs:s.size<=maxLen) :
  Calls prog 104 #[.string s] w λe w'=>e=.returned (.int .i64 (tabN s))∧w'=w:=by
 unfold maxLen at hs
 go_enter func104,ntmps104
 go_wp2
 go_loop [3,4] (λv c=>∃k:Int,1<=k∧k<=7∧c=.int .i64 k∧v=.int .i64 (ZdY s.size k)) (λ_ c=>(7-intOf c).toNat)
 case atStart=>exact⟨1,by omega,by omega,rfl,by have:=Zdp s.size;unfold ZdY;split<;>first|rfl|(congr 1;omega)⟩
 case round=>
  obtain⟨k,hk1,hk2,rfl,rfl⟩:=hrel
  by_cases hlt:k<=6
  ·have hsq:=ZiM k hk1 hlt
   have hsq0:0<=k*k:=QY (by omega) (by omega)
   by_cases hq:(s.size:Int)=k*k
   ·have hq1:((s.size:Int)==k*k)=true:=by simpa using hq
    have hq2:Hid _:=hq
    clear hq
    go_wp2
    go_round
    case rel=>exact⟨k+1,by omega,by omega,by go_num,by rw[ZkO hk1 hlt hq2.out]⟩
    case measure=>simp[intOf];omega
   ·have hq1:((s.size:Int)==k*k)=false:=by simpa using hq
    have hq2:Hid _:=hq
    clear hq
    go_wp2
    go_round
    case rel=>exact⟨k+1,by omega,by omega,by go_num,by rw[ZlV hk1 hq2.out]⟩
    case measure=>simp[intOf];omega
  ·obtain rfl:k=7:=by omega
   have h7:=ZkP s.size
   have hb7:=Zdp s.size
   rw[h7]
   clear h7
   have hb8:0<=sideF s.size∧sideF s.size<=6:=⟨hb7.1,hb7.2.1⟩
   clear hb7
   go_wp2
   go_loop [3,5] (λv c=>∃m:Nat,m<=s.size∧c=.int .i64 m∧∃x:Int,0<=x∧x<=6∧v=.int .i64 x∧Hid (x=if Zw (Zf0 s) m then sideF s.size else 0)) (λ_ c=>s.size-(intOf c).toNat)
   case atStart=>exact⟨0,by omega,rfl,_,hb8.1,hb8.2,rfl,by simp[Hid,Zw]⟩
   case round=>
    obtain⟨m,hm,rfl,x,hx0,hx6,rfl,hx⟩:=hrel
    by_cases hlt2:m<s.size
    ·by_cases hpos:0<x
     ·have hall:Hid (Zw (Zf0 s) m=true∧x=sideF s.size):=by
       have h:=hx.out
       split at h
       ·exact⟨by assumption,h⟩
       ·omega
      go_wp2
      ·go_round
       case rel=>exact⟨m+1,by omega,by go_num,x,by omega,by omega,rfl,by simp only[Hid,Zw,hall.out.1,(Zdq hlt2).2 (.inl (by assumption))];exact hall.out.2⟩
       case measure=>simp[intOf];omega
      ·go_round
       case rel=>exact⟨m+1,by omega,by go_num,0,by omega,by omega,rfl,by simp only[Hid,Zw,ZjP hlt2 (by assumption)];simp⟩
       case measure=>simp[intOf];omega
      ·go_round
       case rel=>exact⟨m+1,by omega,by go_num,x,by omega,by omega,rfl,by simp only[Hid,Zw,hall.out.1,ZjQ hlt2 (by assumption)];exact hall.out.2⟩
       case measure=>simp[intOf];omega
     ·have fin:Hid (tabN s=x):=by
       have h:=hx.out
       unfold tabN bits
       cases e:Zw (Zf0 s) m with
       | false=>rw[Zf6 (by omega) e];rw[e]at h;exact h.symm
       | true=>
        rw[e,if_pos rfl]at h
        have h0:x=0:=by omega
        rw[<-h,h0]
        split<;>rfl
      go_wp2
      go_ret
      exact⟨ZR fin.out.symm,rfl⟩
    ·have hmn:m=s.size:=by omega
     have fin:Hid (tabN s=x):=by unfold tabN bits;rw[<-hmn];rw[<-hmn]at hx;exact hx.out.symm
     clear hmn
     go_wp2
     go_ret
     exact⟨ZR fin.out.symm,rfl⟩
theorem Zja(ht:Tab s n)(w:World) :
  Calls prog 105 #[.string s,.int .i64 n] w λe w'=>e=.returned (.bool (Zca s n))∧w'=w:=by
 obtain⟨t1,t2,-⟩:=id ht
 go_enter func105,ntmps105
 go_wp2
 go_loop [5] (λc=>∃k:Nat,(k:Int)<=n∧c=.int .i64 k∧Hid (∀i:Nat,i<k->Zw (λb=>ZbK s n i b) n.toNat=true)) (λc=>n.toNat-(intOf c).toNat)
 case atStart=>exact⟨0,by omega,rfl,λi hi=>absurd hi (by omega)⟩
 case round=>
  obtain⟨k,hk,rfl,hall⟩:=hrel
  by_cases hlt:(k:Int)<n
  ·go_wp2_with fail
   go_loop [6] (λc=>∃m:Nat,(m:Int)<=n∧c=.int .i64 m∧Hid (∀i:Nat,i<m->ZbK s n k i=true)) (λc=>n.toNat-(intOf c).toNat)
   case atStart=>exact⟨0,by omega,rfl,λi hi=>absurd hi (by omega)⟩
   case round=>
    obtain⟨m,hm,rfl,hin⟩:=hrel
    by_cases hlt2:(m:Int)<n
    ·go_wp2_with fail
     refine(Zas ht k m _ (by omega) hlt (by omega) hlt2).mono ?_
     rintro e w1 ⟨rfl,rfl⟩
     go_wp2_with fail
     refine(Zas ht m k _ (by omega) hlt2 (by omega) hlt).mono ?_
     rintro e w1 ⟨rfl,rfl⟩
     generalize hx:le s n k m=x
     generalize hy:le s n m k=y
     have hx:Hid _:=hx
     have hy:Hid _:=hy
     generalize hz:((k:Int)==(m:Int))=z
     have hzn:((k:Int) != (m:Int))=!z:=by rw[<-hz];rfl
     have hz2:Hid _:=hz
     have bad:Hid (((z&&!x)||(!z&&(x&&y)))=true->Zca s n=false):=by
      intro h
      refine Zl (i:=k) (by omega) ?_
      refine Zl (i:=m) (by omega) ?_
      unfold ZbK
      rw[hx.out,hy.out,hzn,hz,h]
      rfl
     have good:Hid (((z&&!x)||(!z&&(x&&y)))=false->(∀i:Nat,i<n.toNat->(λc=>!(le s n k m&&(le s n m c&&!(le s n k c)))) i=true)->∀i:Nat,i<m+1->ZbK s n k i=true):=by
      intro h h2
      refine ZC (p:=λb=>ZbK s n k b) hin.out ?_
      unfold ZbK
      rw[Za.2 h2,hx.out,hy.out,hzn,hz,h]
      rfl
     have worse:Hid (∀i:Nat,(i:Int)<n->(λc=>!(le s n k m&&(le s n m c&&!(le s n k c)))) i=false->Zca s n=false):=by
      intro i hi h
      refine Zl (i:=k) (by omega) ?_
      refine Zl (i:=m) (by omega) ?_
      unfold ZbK
      rw[Zl (f:=(λc=>!(le s n k m&&(le s n m c&&!(le s n k c))))) (i:=i) (by omega) h,Bool.and_false]
     cases x<;>cases y<;>cases z<;>go_wp2
     all_goals first
      | (go_ret;exact⟨Zd (bad.out rfl).symm,rfl⟩)
      | skip
     all_goals
      go_loop [9] (λc=>∃j:Nat,(j:Int)<=n∧c=.int .i64 j∧Hid (∀i:Nat,i<j->(λc=>!(le s n k m&&(le s n m c&&!(le s n k c)))) i=true)) (λc=>n.toNat-(intOf c).toNat)
      case atStart=>exact⟨0,by omega,rfl,λi hi=>absurd hi (by omega)⟩
      case round=>
       obtain⟨j,hj,rfl,hjn⟩:=hrel
       by_cases hlt3:(j:Int)<n
       ·go_wp2_with fail
        refine(Zas ht m j _ (by omega) hlt2 (by omega) hlt3).mono ?_
        rintro e w1 ⟨rfl,rfl⟩
        go_wp2_with fail
        refine(Zas ht k j _ (by omega) hlt (by omega) hlt3).mono ?_
        rintro e w1 ⟨rfl,rfl⟩
        generalize hu:le s n m j=u
        generalize hv:le s n k j=v
        have hu:Hid _:=hu
        have hv:Hid _:=hv
        cases u<;>cases v<;>go_wp2
        all_goals first
         | (go_ret;exact⟨Zd (worse.out j hlt3 (by rw[hx.out,hu.out,hv.out];rfl)).symm,rfl⟩)
         | skip
        all_goals
         go_round
         case rel=>exact⟨j+1,by omega,by go_num,ZC (p:=(λc=>!(le s n k m&&(le s n m c&&!(le s n k c))))) hjn.out (by rw[hx.out,hu.out,hv.out];rfl)⟩
         case measure=>simp[intOf];omega
       ·go_wp2
        go_round
        case rel=>exact⟨m+1,by omega,by go_num,good.out rfl (λi hi=>hjn.out i (by omega))⟩
        case measure=>simp[intOf];omega
    ·have done:Hid (∀i:Nat,i<k+1->Zw (λb=>ZbK s n i b) n.toNat=true):=
      ZC (p:=λa=>Zw (λb=>ZbK s n a b) n.toNat) hall.out (Za.2 (λi hi=>hin.out i (by omega)))
     go_wp2
     go_round
     case rel=>exact⟨k+1,by omega,by go_num,done⟩
     case measure=>simp[intOf];omega
  ·go_wp2
   go_ret
   exact⟨Zd (Za.2 (λi hi=>hall.out i (by omega))).symm,rfl⟩
theorem Zlf(ht:Tab s n)(hsm:s.size<=maxLen)(w:World) :
  Calls prog 171 #[.string s,.int .i64 n] w λe w'=>∃t:ZB,e=.returned (.string t)∧Turned s t n n.toNat 0∧w'=w:=by
 obtain⟨t1,t2,t3⟩:=id ht
 unfold maxLen at hsm
 have h36:=ZiM n t1 t2
 go_enter func171,ntmps171
 go_wp2
 go_loop [5,6] (λv c=>∃k:Nat,(k:Int)<=n∧c=.int .i64 k∧∃t:ZB,v=.string t∧Turned s t n k 0) (λ_ c=>n.toNat-(intOf c).toNat)
 case atStart=>exact⟨0,by omega,rfl,_,rfl,Turned.start s n⟩
 case round=>
  obtain⟨k,hk,rfl,t,rfl,hT⟩:=hrel
  by_cases hlt:(k:Int)<n
  ·go_wp2_with fail
   go_loop [5,7] (λv c=>∃m:Nat,(m:Int)<=n∧c=.int .i64 m∧∃t:ZB,v=.string t∧Turned s t n k m) (λ_ c=>n.toNat-(intOf c).toNat)
   case atStart=>exact⟨0,by omega,rfl,t,rfl,hT⟩
   case round=>
    clear hT
    obtain⟨m,hm,rfl,t,rfl,hT⟩:=hrel
    by_cases hlt2:(m:Int)<n
    ·obtain⟨h1,h2⟩:=ZnV n m k (by omega) hlt2 hlt
     have h3:(m:Int)*n+k<s.size:=by omega
     have h4:t.size<=36:=hT.small h36 (by omega) (by omega)
     have hT2:=hT.more hlt hlt2 h3
     go_wp2
     go_round
     case rel=>exact⟨m+1,by omega,by go_num,_,rfl,hT2⟩
     case measure=>simp[intOf];omega
    ·have hT2:=hT.row (by omega)
     go_wp2
     go_round
     case rel=>exact⟨k+1,by omega,by go_num,_,rfl,hT2⟩
     case measure=>simp[intOf];omega
  ·obtain rfl:k=n.toNat:=by omega
   go_wp2
   go_ret
   exact⟨_,rfl,hT,rfl⟩
theorem Zlg(ht:Tab s n)(hsm:s.size<=maxLen)(a b:Int)(w:World)(ha:0<=a)(ha':a<n)(hb:0<=b)(hb':b<n) :
  Calls prog 106 #[.string s,.int .i64 n,.int .i64 a,.int .i64 b] w λe w'=>e=.returned (.int .i64 ((ZcN s n a b).getD (-1)))∧w'=w:=by
 go_enter func106,ntmps106
 go_wp2_with fail
 refine(Zlf ht hsm _).mono ?_
 rintro e w1 ⟨t,rfl,hT,rfl⟩
 have hm:Hid _:=hT.meet ht a b ha ha' hb hb'
 have htt:=hT.tab ht
 clear hT
 go_wp2_with fail
 refine(ZcV htt a b _ ha ha' hb hb').mono ?_
 rintro e w2 ⟨rfl,rfl⟩
 rw[hm.out]
 go_wp2
 go_ret
 exact⟨rfl,rfl⟩
theorem Zsc(o:Option Int)(n:Nat)(h:∀x,o=some x->0<=x∧x<n):(o.isSome=true->0<=o.getD (-1)∧o.getD (-1)<n)∧(o.isSome=false->o.getD (-1)=-1):=by
 cases o with
 | none=>exact⟨λh=>absurd h (by simp),λ_=>rfl⟩
 | some x=>exact⟨λ_=>h x rfl,λh=>absurd h (by simp)⟩
theorem Zlh(s:ZB)(w:World)(hsm:s.size<=maxLen) :
  Calls prog 48 #[.string s] w λe w'=>e=.returned (.tuple #[.int .i64 (levN s),.int .i64 (levE s)])∧w'=w:=by
 go_enter func48,ntmps48
 go_wp2_with fail
 refine(Zor s _ hsm).mono ?_
 rintro e w1 ⟨rfl,rfl⟩
 by_cases h0:tabN s=0
 ·have hE:Hid (levE s=3):=by unfold Hid levE;rw[if_pos h0]
  rw[h0]
  clear h0
  go_wp2
  go_ret2
  rw[Zdb hE.out (by omega),hE.out]
  exact⟨rfl,rfl⟩
 ·have ht:=(Zce h0).1
  have h00:(tabN s==0)=false:=by simpa using h0
  have hE:Hid (levE s=if Zca s (tabN s) then (if ZpB s (tabN s) then 0 else 5) else 4):=by unfold Hid levE;rw[if_neg h0]
  clear h0
  generalize hn:tabN s=n at *
  have hn2:Hid _:=hn
  clear hn
  obtain⟨t1,t2,-⟩:=id ht
  go_wp2_with fail
  refine(Zja ht _).mono ?_
  rintro e w1 ⟨rfl,rfl⟩
  generalize hx:Zca s n=x
  have hx:Hid _:=hx
  cases x
  ·go_wp2
   go_ret2
   have h4:levE s=4:=by rw[hE.out,hx.out];rfl
   rw[Zdb h4 (by omega),h4]
   exact⟨rfl,rfl⟩
  ·go_wp2_with fail
   go_loop [6] (λc=>∃k:Nat,(k:Int)<=n∧c=.int .i64 k∧Hid (∀i:Nat,i<k->Zw (λb=>(Zbm s n i b).isSome&&(ZcN s n i b).isSome) n.toNat=true)) (λc=>n.toNat-(intOf c).toNat)
   case atStart=>exact⟨0,by omega,rfl,λi hi=>absurd hi (by omega)⟩
   case round=>
    obtain⟨k,hk,rfl,hall⟩:=hrel
    by_cases hlt:(k:Int)<n
    ·go_wp2_with fail
     go_loop [7] (λc=>∃m:Nat,(m:Int)<=n∧c=.int .i64 m∧Hid (∀i:Nat,i<m->((Zbm s n k i).isSome&&(ZcN s n k i).isSome)=true)) (λc=>n.toNat-(intOf c).toNat)
     case atStart=>exact⟨0,by omega,rfl,λi hi=>absurd hi (by omega)⟩
     case round=>
      obtain⟨m,hm,rfl,hin⟩:=hrel
      by_cases hlt2:(m:Int)<n
      ·go_wp2_with fail
       refine(ZcV ht k m _ (by omega) hlt (by omega) hlt2).mono ?_
       rintro e w1 ⟨rfl,rfl⟩
       go_wp2_with fail
       refine(Zlg ht hsm k m _ (by omega) hlt (by omega) hlt2).mono ?_
       rintro e w1 ⟨rfl,rfl⟩
       have hj:=Zsc (Zbm s n k m) n.toNat (λx h=>⟨(ZaO h).1,(ZaO h).2.1⟩)
       have hmm:=Zsc (ZcN s n k m) n.toNat (λx h=>⟨(ZaO h).1,(ZaO h).2.1⟩)
       generalize (Zbm s n k m).getD (-1)=jv at hj ⊢
       generalize (ZcN s n k m).getD (-1)=mv at hmm ⊢
       generalize hu:(Zbm s n k m).isSome=u at hj
       generalize hv:(ZcN s n k m).isSome=v at hmm
       have bad:Hid ((u&&v)=false->ZpB s n=false):=by
        intro h
        refine Zl (i:=k) (by omega) ?_
        exact Zl (i:=m) (by omega) (by rw[hu,hv,h])
       have done:Hid ((u&&v)=true->∀i:Nat,i<m+1->((Zbm s n k i).isSome&&(ZcN s n k i).isSome)=true):=
        λh=>ZC (p:=λb=>(Zbm s n k b).isSome&&(ZcN s n k b).isSome) hin.out (by rw[hu,hv,h])
       clear hu hv
       cases u<;>cases v
       case true.true=>
        have a1:=hj.1 rfl
        have a2:=hmm.1 rfl
        clear hj hmm
        obtain⟨a3,a4⟩:=a1
        obtain⟨a5,a6⟩:=a2
        go_wp2
        go_round
        case rel=>exact⟨m+1,by omega,by go_num,done.out rfl⟩
        case measure=>simp[intOf];omega
       case true.false=>
        have a1:=hj.1 rfl
        have a2:=hmm.2 rfl
        clear hj hmm
        obtain⟨a3,a4⟩:=a1
        subst a2
        go_wp2
        go_ret2
        have h5:levE s=5:=by rw[hE.out,hx.out,bad.out rfl];rfl
        rw[Zdb h5 (by omega),h5]
        exact⟨rfl,rfl⟩
       case false.true=>
        have a1:=hj.2 rfl
        clear hj hmm
        subst a1
        go_wp2
        go_ret2
        have h5:levE s=5:=by rw[hE.out,hx.out,bad.out rfl];rfl
        rw[Zdb h5 (by omega),h5]
        exact⟨rfl,rfl⟩
       case false.false=>
        have a1:=hj.2 rfl
        clear hj hmm
        subst a1
        go_wp2
        go_ret2
        have h5:levE s=5:=by rw[hE.out,hx.out,bad.out rfl];rfl
        rw[Zdb h5 (by omega),h5]
        exact⟨rfl,rfl⟩
      ·have done:Hid (∀i:Nat,i<k+1->Zw (λb=>(Zbm s n i b).isSome&&(ZcN s n i b).isSome) n.toNat=true):=
        ZC (p:=λa=>Zw (λb=>(Zbm s n a b).isSome&&(ZcN s n a b).isSome) n.toNat) hall.out (Za.2 (λi hi=>hin.out i (by omega)))
       go_wp2
       go_round
       case rel=>exact⟨k+1,by omega,by go_num,done⟩
       case measure=>simp[intOf];omega
    ·have hl:Hid (ZpB s n=true):=Za.2 (λi hi=>hall.out i (by omega))
     go_wp2
     go_ret2
     have h1:levE s=0:=by rw[hE.out,hx.out,hl.out];rfl
     rw[ZhH h1,hn2.out,h1]
     exact⟨rfl,rfl⟩
end Go.Proofs.YtcnbifdlkalimabGreat
