/- Lemmas; their conditions stand in each. -/
import Derived.Test.YtcnbifdlkalimabGreatPlnA
namespace Go.Proofs.YtcnbifdlkalimabGreat
open Go.RowKit Go.Proofs.Tryz
set_option maxHeartbeats 6400000
variable{n:Int}{s:ZB}
theorem ZZ(h:Cf s n)(a b:Int)(w:World)(g:0<=a)(c:a<n)(q:0<=b)(d:b<n) :
  Calls prog 55 #[.string s,.int .i64 n,.int .i64 a,.int .i64 b] w λe k=>e=.returned (.bool (le s n a b))∧k=w:=by
 obtain⟨i,j,r⟩:=h;obtain⟨l,m⟩:=Nv n a b g c d;have o:a*n+b<s.size:=by omega
 have p:=Fu n i j;have HL:=U8 s n a b (by omega);have f:Hid _:=HL;clear HL;go_in;go_wp2;go_ret;exact⟨Za f.out,rfl⟩
theorem SJ(j:Cf s n)(a b c:Int)(w:World)(k:0<=a)(f:a<n)(l:0<=b)(g:b<n)(i:0<=c)(d:c<n) :
  Calls prog 108 #[.string s,.int .i64 n,.int .i64 a,.int .i64 b,.int .i64 c] w λe m=>e=.returned (.bool (Ds s n a b c))∧m=w:=by
 go_in;go_wp2_with fail;refine(ZZ j a c _ k f i d).mono ?_;rintro e o ⟨rfl,rfl⟩;go_wp2_with fail;refine(ZZ j b c _ l g i d).mono ?_;rintro e o ⟨rfl,rfl⟩;have hd:Ds s n a b c=(le s n a c&&le s n b c):=rfl;generalize le s n a c=x at hd ⊢;generalize le s n b c=y at hd ⊢;have h:Hid _:=hd;clear hd;cases x<;>cases y<;>go_wp2<;>go_ret<;>exact⟨Za h.out.symm,rfl⟩
theorem KL(u:Cf s n)(a b:Int)(w:World)(A:0<=a)(l:a<n)(B:0<=b)(p:b<n) :
  Calls prog 52 #[.string s,.int .i64 n,.int .i64 a,.int .i64 b] w λe E=>e=.returned (.int .i64 ((Dt s n a b).getD (-1)))∧E=w:=by
 obtain⟨H,I,-⟩:=id u;go_in;go_wp2;go_loop [9] (λc=>∃k:Nat,(k:Int)<=n∧c=.int .i64 k∧Hid (∀i:Nat,i<k->Bv s n a b i=false)) (λc=>n.toNat-(intOf c).toNat);case atStart=>exact⟨0,by omega,rfl,λi C=>absurd C (by omega)⟩
 case round=>
  obtain⟨k,F,rfl,d⟩:=hrel;by_cases q:(k:Int)<n
  ·go_wp2_with fail;refine(SJ u a b k _ A l B p (by omega) q).mono ?_;rintro e D ⟨rfl,rfl⟩;go_wp2_with fail;go_loop [10,11] (λo c=>∃m:Nat,(m:Int)<=n∧c=.int .i64 m∧∃x:Bool,o=.bool x∧Hid (x=(Ds s n a b k&&ZA (λc=>!(Ds s n a b c)||le s n k c) m))) (λ_ c=>n.toNat-(intOf c).toNat);case atStart=>exact⟨0,by omega,rfl,_,rfl,by simp[Hid,ZA]⟩
   case round=>
    obtain⟨m,G,rfl,x,rfl,y⟩:=hrel;by_cases g:(m:Int)<n
    ·cases x
     ·have j:Hid (Bv s n a b k=false):=by
       have h:=y.out.symm;unfold Bv;cases e:Ds s n a b k with
       | false=>rfl
       | true=>rw[e,Un]at h;rw[Un];exact RJ (by omega) h
      go_wp2;go_round;case rel=>exact⟨k+1,by omega,by go_num,JI d.out j.out⟩
      case measure=>simp[intOf];omega
     ·have f:Hid (Ds s n a b k=true∧ZA (λc=>!(Ds s n a b c)||le s n k c) m=true):=by have h:=y.out.symm;rw[Qr]at h;exact h
      go_wp2_with fail;refine(SJ u a b m _ A l B p (by omega) g).mono ?_;rintro e D ⟨rfl,rfl⟩;generalize v:Ds s n a b m=z;have v:Hid _:=v;cases z
      ·go_wp2;go_round;case rel=>exact⟨m+1,by omega,by go_num,true,rfl,by simp only[Hid,ZA,f.out.1,f.out.2,v.out];rfl⟩
       case measure=>simp[intOf];omega
      ·go_wp2_with fail;refine(ZZ u k m _ (by omega) q (by omega) g).mono ?_;rintro e D ⟨rfl,rfl⟩;go_wp2;go_round;case rel=>exact⟨m+1,by omega,by go_num,le s n k m,rfl,by simp only[Hid,ZA,f.out.1,f.out.2,v.out];simp⟩
       case measure=>simp[intOf];omega
    ·have r:m=n.toNat:=by omega
     have t:Hid (x=Bv s n a b k):=by unfold Bv;rw[<-r];exact y
     clear r;cases x
     ·go_wp2;go_round;case rel=>exact⟨k+1,by omega,by go_num,JI d.out t.out.symm⟩
      case measure=>simp[intOf];omega
     ·go_wp2;go_ret;have e:Dt s n a b=some (k:Int):=IN (by omega) d.out t.out.symm;rw[e];exact⟨rfl,rfl⟩
  ·go_wp2;go_ret;have e:Dt s n a b=none:=JG (λi C=>d.out i (by omega));rw[e];exact⟨rfl,rfl⟩
theorem Tb(s:ZB)(w:World)(B:s.size<=maxLen) :
  Calls prog 104 #[.string s] w λe F=>e=.returned (.int .i64 (Ap s))∧F=w:=by
 unfold maxLen at B;go_in;go_wp2;go_loop [3,4] (λv c=>∃k:Int,1<=k∧k<=7∧c=.int .i64 k∧v=.int .i64 (HF s.size k)) (λ_ c=>(7-intOf c).toNat);case atStart=>exact⟨1,by omega,by omega,rfl,by have:=Lt s.size;unfold HF;split<;>first|rfl|(congr 1;omega)⟩
 case round=>
  obtain⟨k,g,A,rfl,rfl⟩:=hrel;by_cases p:k<=6
  ·have C:=Fu k g p;have y:0<=k*k:=QY (by omega) (by omega);by_cases l:(s.size:Int)=k*k
   ·have r:((s.size:Int)==k*k)=true:=by simpa using l
    have j:Hid _:=l;clear l;go_wp2;go_round;case rel=>exact⟨k+1,by omega,by omega,by go_num,by rw[XI g p j.out]⟩
    case measure=>simp[intOf];omega
   ·have r:((s.size:Int)==k*k)=false:=by simpa using l
    have j:Hid _:=l;clear l;go_wp2;go_round;case rel=>exact⟨k+1,by omega,by omega,by go_num,by rw[XW g j.out]⟩
    case measure=>simp[intOf];omega
  ·obtain rfl:k=7:=by omega
   have t:=XJ s.size;have f:=Lt s.size;rw[t];clear t;have o:0<=Bs s.size∧Bs s.size<=6:=⟨f.1,f.2.1⟩
   clear f;go_wp2;go_loop [3,5] (λv c=>∃m:Nat,m<=s.size∧c=.int .i64 m∧∃x:Int,0<=x∧x<=6∧v=.int .i64 x∧Hid (x=if ZA (Hd s) m then Bs s.size else 0)) (λ_ c=>s.size-(intOf c).toNat);case atStart=>exact⟨0,by omega,rfl,_,o.1,o.2,rfl,by simp[Hid,ZA]⟩
   case round=>
    obtain⟨m,G,rfl,x,D,E,rfl,q⟩:=hrel;by_cases b:m<s.size
    ·by_cases u:0<x
     ·have a:Hid (ZA (Hd s) m=true∧x=Bs s.size):=by
       have h:=q.out;split at h
       ·exact⟨by assumption,h⟩
       ·omega
      go_wp2
      ·go_round;case rel=>exact⟨m+1,by omega,by go_num,x,by omega,by omega,rfl,by simp only[Hid,ZA,a.out.1,(ML b).2 (.inl (by assumption))];exact a.out.2⟩
       case measure=>simp[intOf];omega
      ·go_round;case rel=>exact⟨m+1,by omega,by go_num,0,by omega,by omega,rfl,by simp only[Hid,ZA,Tx b (by assumption)];simp⟩
       case measure=>simp[intOf];omega
      ·go_round;case rel=>exact⟨m+1,by omega,by go_num,x,by omega,by omega,rfl,by simp only[Hid,ZA,a.out.1,Ty b (by assumption)];exact a.out.2⟩
       case measure=>simp[intOf];omega
     ·have d:Hid (Ap s=x):=by
       have h:=q.out;unfold Ap Dn;cases e:ZA (Hd s) m with
       | false=>rw[RJ (by omega) e];rw[e]at h;exact h.symm
       | true=>
        rw[e,if_pos rfl]at h;have z:x=0:=by omega
        rw[<-h,z];split<;>rfl
      go_wp2;go_ret;exact⟨ZG d.out.symm,rfl⟩
    ·have i:m=s.size:=by omega
     have d:Hid (Ap s=x):=by unfold Ap Dn;rw[<-i];rw[<-i]at q;exact q.out.symm
     clear i;go_wp2;go_ret;exact⟨ZG d.out.symm,rfl⟩
theorem Wy(E:Cf s n)(w:World) :
  Calls prog 105 #[.string s,.int .i64 n] w λe O=>e=.returned (.bool (Ft s n))∧O=w:=by
 obtain⟨S,T,-⟩:=id E;go_in;go_wp2;go_loop [5] (λc=>∃k:Nat,(k:Int)<=n∧c=.int .i64 k∧Hid (∀i:Nat,i<k->ZA (λb=>EY s n i b) n.toNat=true)) (λc=>n.toNat-(intOf c).toNat);case atStart=>exact⟨0,by omega,rfl,λi l=>absurd l (by omega)⟩
 case round=>
  obtain⟨k,Q,rfl,o⟩:=hrel;by_cases q:(k:Int)<n
  ·go_wp2_with fail;go_loop [6] (λc=>∃m:Nat,(m:Int)<=n∧c=.int .i64 m∧Hid (∀i:Nat,i<m->EY s n k i=true)) (λc=>n.toNat-(intOf c).toNat);case atStart=>exact⟨0,by omega,rfl,λi l=>absurd l (by omega)⟩
   case round=>
    obtain⟨m,R,rfl,C⟩:=hrel;by_cases d:(m:Int)<n
    ·go_wp2_with fail;refine(ZZ E k m _ (by omega) q (by omega) d).mono ?_;rintro e L ⟨rfl,rfl⟩;go_wp2_with fail;refine(ZZ E m k _ (by omega) d (by omega) q).mono ?_;rintro e L ⟨rfl,rfl⟩;generalize t:le s n k m=x;generalize I:le s n m k=y;have t:Hid _:=t;have I:Hid _:=I;generalize J:((k:Int)==(m:Int))=z;have F:((k:Int) != (m:Int))=!z:=by rw[<-J];rfl
     have N:Hid _:=J;have K:Hid (((z&&!x)||(!z&&(x&&y)))=true->Ft s n=false):=by intro h;refine Zm (i:=k) (by omega) ?_;refine Zm (i:=m) (by omega) ?_;unfold EY;rw[t.out,I.out,F,J,h];rfl
     have B:Hid (((z&&!x)||(!z&&(x&&y)))=false->(∀i:Nat,i<n.toNat->(λc=>!(le s n k m&&(le s n m c&&!(le s n k c)))) i=true)->∀i:Nat,i<m+1->EY s n k i=true):=by intro h M;refine ZC (p:=λb=>EY s n k b) C.out ?_;unfold EY;rw[Zb.2 M,t.out,I.out,F,J,h];rfl
     have r:Hid (∀i:Nat,(i:Int)<n->(λc=>!(le s n k m&&(le s n m c&&!(le s n k c)))) i=false->Ft s n=false):=by intro i l h;refine Zm (i:=k) (by omega) ?_;refine Zm (i:=m) (by omega) ?_;unfold EY;rw[Zm (f:=(λc=>!(le s n k m&&(le s n m c&&!(le s n k c))))) (i:=i) (by omega) h,Bool.and_false]
     cases x<;>cases y<;>cases z<;>go_wp2;all_goals first
      | (go_ret;exact⟨Za (K.out rfl).symm,rfl⟩)
      | skip
     all_goals
      go_loop [9] (λc=>∃j:Nat,(j:Int)<=n∧c=.int .i64 j∧Hid (∀i:Nat,i<j->(λc=>!(le s n k m&&(le s n m c&&!(le s n k c)))) i=true)) (λc=>n.toNat-(intOf c).toNat);case atStart=>exact⟨0,by omega,rfl,λi l=>absurd l (by omega)⟩
      case round=>
       obtain⟨j,P,rfl,D⟩:=hrel;by_cases g:(j:Int)<n
       ·go_wp2_with fail;refine(ZZ E m j _ (by omega) d (by omega) g).mono ?_;rintro e L ⟨rfl,rfl⟩;go_wp2_with fail;refine(ZZ E k j _ (by omega) q (by omega) g).mono ?_;rintro e L ⟨rfl,rfl⟩;generalize G:le s n m j=u;generalize H:le s n k j=v;have G:Hid _:=G;have H:Hid _:=H;cases u<;>cases v<;>go_wp2;all_goals first
         | (go_ret;exact⟨Za (r.out j g (by rw[t.out,G.out,H.out];rfl)).symm,rfl⟩)
         | skip
        all_goals
         go_round;case rel=>exact⟨j+1,by omega,by go_num,ZC (p:=(λc=>!(le s n k m&&(le s n m c&&!(le s n k c))))) D.out (by rw[t.out,G.out,H.out];rfl)⟩
         case measure=>simp[intOf];omega
       ·go_wp2;go_round;case rel=>exact⟨m+1,by omega,by go_num,B.out rfl (λi l=>D.out i (by omega))⟩
        case measure=>simp[intOf];omega
    ·have A:Hid (∀i:Nat,i<k+1->ZA (λb=>EY s n i b) n.toNat=true):=
      ZC (p:=λa=>ZA (λb=>EY s n a b) n.toNat) o.out (Zb.2 (λi l=>C.out i (by omega)))
     go_wp2;go_round;case rel=>exact⟨k+1,by omega,by go_num,A⟩
     case measure=>simp[intOf];omega
  ·go_wp2;go_ret;exact⟨Za (Zb.2 (λi l=>o.out i (by omega))).symm,rfl⟩
theorem Xp(j:Cf s n)(h:s.size<=maxLen)(w:World) :
  Calls prog 171 #[.string s,.int .i64 n] w λe p=>∃t:ZB,e=.returned (.string t)∧Bo s t n n.toNat 0∧p=w:=by
 obtain⟨l,o,z⟩:=id j;unfold maxLen at h;have g:=Fu n l o;go_in;go_wp2;go_loop [5,6] (λv c=>∃k:Nat,(k:Int)<=n∧c=.int .i64 k∧∃t:ZB,v=.string t∧Bo s t n k 0) (λ_ c=>n.toNat-(intOf c).toNat);case atStart=>exact⟨0,by omega,rfl,_,rfl,Bo.start s n⟩
 case round=>
  obtain⟨k,x,rfl,t,rfl,b⟩:=hrel;by_cases f:(k:Int)<n
  ·go_wp2_with fail;go_loop [5,7] (λv c=>∃m:Nat,(m:Int)<=n∧c=.int .i64 m∧∃t:ZB,v=.string t∧Bo s t n k m) (λ_ c=>n.toNat-(intOf c).toNat);case atStart=>exact⟨0,by omega,rfl,t,rfl,b⟩
   case round=>
    clear b;obtain⟨m,y,rfl,t,rfl,b⟩:=hrel;by_cases a:(m:Int)<n
    ·obtain⟨q,r⟩:=Nv n m k (by omega) a f;have i:(m:Int)*n+k<s.size:=by omega
     have u:t.size<=36:=b.small g (by omega) (by omega);have d:=b.more f a i;go_wp2;go_round;case rel=>exact⟨m+1,by omega,by go_num,_,rfl,d⟩
     case measure=>simp[intOf];omega
    ·have d:=b.row (by omega);go_wp2;go_round;case rel=>exact⟨k+1,by omega,by go_num,_,rfl,d⟩
     case measure=>simp[intOf];omega
  ·obtain rfl:k=n.toNat:=by omega
   go_wp2;go_ret;exact⟨_,rfl,b,rfl⟩
theorem RA(h:Cf s n)(g:s.size<=maxLen)(a b:Int)(w:World)(j:0<=a)(c:a<n)(k:0<=b)(d:b<n) :
  Calls prog 106 #[.string s,.int .i64 n,.int .i64 a,.int .i64 b] w λe m=>e=.returned (.int .i64 ((El s n a b).getD (-1)))∧m=w:=by
 go_in;go_wp2_with fail;refine(Xp h g _).mono ?_;rintro e o ⟨t,rfl,f,rfl⟩;have l:Hid _:=f.meet h a b j c k d;have i:=f.tab h;clear f;go_wp2_with fail;refine(KL i a b _ j c k d).mono ?_;rintro e p ⟨rfl,rfl⟩;rw[l.out];go_wp2;go_ret;exact⟨rfl,rfl⟩
theorem Vx(o:Option Int)(n:Nat)(h:∀x,o=some x->0<=x∧x<n):(o.isSome=true->0<=o.getD (-1)∧o.getD (-1)<n)∧(o.isSome=false->o.getD (-1)=-1):=by
 cases o with
 | none=>exact⟨λh=>absurd h (by simp),λ_=>rfl⟩
 | some x=>exact⟨λ_=>h x rfl,λh=>absurd h (by simp)⟩
theorem IK(s:ZB)(w:World)(D:s.size<=maxLen) :
  Calls prog 48 #[.string s] w λe R=>e=.returned (.tuple #[.int .i64 (BX s),.int .i64 (Az s)])∧R=w:=by
 go_in;go_wp2_with fail;refine(Tb s _ D).mono ?_;rintro e J ⟨rfl,rfl⟩;by_cases y:Ap s=0
 ·have l:Hid (Az s=3):=by unfold Hid Az;rw[if_pos y]
  rw[y];clear y;go_wp2;go_ret2;rw[GT l.out (by omega),l.out];exact⟨rfl,rfl⟩
 ·have E:=(GK y).1;have P:(Ap s==0)=false:=by simpa using y
  have l:Hid (Az s=if Ft s (Ap s) then (if IB s (Ap s) then 0 else 5) else 4):=by unfold Hid Az;rw[if_neg y]
  clear y;generalize M:Ap s=n at *;have G:Hid _:=M;clear M;obtain⟨Y,Z,-⟩:=id E;go_wp2_with fail;refine(Wy E _).mono ?_;rintro e J ⟨rfl,rfl⟩;generalize z:Ft s n=x;have z:Hid _:=z;cases x
  ·go_wp2;go_ret2;have L:Az s=4:=by rw[l.out,z.out];rfl
   rw[GT L (by omega),L];exact⟨rfl,rfl⟩
  ·go_wp2_with fail;go_loop [6] (λc=>∃k:Nat,(k:Int)<=n∧c=.int .i64 k∧Hid (∀i:Nat,i<k->ZA (λb=>(Dt s n i b).isSome&&(El s n i b).isSome) n.toNat=true)) (λc=>n.toNat-(intOf c).toNat);case atStart=>exact⟨0,by omega,rfl,λi A=>absurd A (by omega)⟩
   case round=>
    obtain⟨k,U,rfl,o⟩:=hrel;by_cases C:(k:Int)<n
    ·go_wp2_with fail;go_loop [7] (λc=>∃m:Nat,(m:Int)<=n∧c=.int .i64 m∧Hid (∀i:Nat,i<m->((Dt s n k i).isSome&&(El s n k i).isSome)=true)) (λc=>n.toNat-(intOf c).toNat);case atStart=>exact⟨0,by omega,rfl,λi A=>absurd A (by omega)⟩
     case round=>
      obtain⟨m,V,rfl,B⟩:=hrel;by_cases q:(m:Int)<n
      ·go_wp2_with fail;refine(KL E k m _ (by omega) C (by omega) q).mono ?_;rintro e J ⟨rfl,rfl⟩;go_wp2_with fail;refine(RA E D k m _ (by omega) C (by omega) q).mono ?_;rintro e J ⟨rfl,rfl⟩;have g:=Vx (Dt s n k m) n.toNat (λx h=>⟨(HY h).1,(HY h).2.1⟩)
       have d:=Vx (El s n k m) n.toNat (λx h=>⟨(HY h).1,(HY h).2.1⟩)
       generalize (Dt s n k m).getD (-1)=W at g ⊢;generalize (El s n k m).getD (-1)=X at d ⊢;generalize H:(Dt s n k m).isSome=u at g;generalize I:(El s n k m).isSome=v at d;have t:Hid ((u&&v)=false->IB s n=false):=by intro h;refine Zm (i:=k) (by omega) ?_;exact Zm (i:=m) (by omega) (by rw[H,I,h])
       have f:Hid ((u&&v)=true->∀i:Nat,i<m+1->((Dt s n k i).isSome&&(El s n k i).isSome)=true):=
        λh=>ZC (p:=λb=>(Dt s n k b).isSome&&(El s n k b).isSome) B.out (by rw[H,I,h])
       clear H I;cases u<;>cases v;case true.true=>
        have r:=g.1 rfl;have F:=d.1 rfl;clear g d;obtain⟨N,O⟩:=r;obtain⟨S,T⟩:=F;go_wp2;go_round;case rel=>exact⟨m+1,by omega,by go_num,f.out rfl⟩
        case measure=>simp[intOf];omega
       case true.false=>
        have r:=g.1 rfl;have F:=d.2 rfl;clear g d;obtain⟨N,O⟩:=r;subst F;go_wp2;go_ret2;have j:Az s=5:=by rw[l.out,z.out,t.out rfl];rfl
        rw[GT j (by omega),j];exact⟨rfl,rfl⟩
       case false.true=>
        have r:=g.2 rfl;clear g d;subst r;go_wp2;go_ret2;have j:Az s=5:=by rw[l.out,z.out,t.out rfl];rfl
        rw[GT j (by omega),j];exact⟨rfl,rfl⟩
       case false.false=>
        have r:=g.2 rfl;clear g d;subst r;go_wp2;go_ret2;have j:Az s=5:=by rw[l.out,z.out,t.out rfl];rfl
        rw[GT j (by omega),j];exact⟨rfl,rfl⟩
      ·have f:Hid (∀i:Nat,i<k+1->ZA (λb=>(Dt s n i b).isSome&&(El s n i b).isSome) n.toNat=true):=
        ZC (p:=λa=>ZA (λb=>(Dt s n a b).isSome&&(El s n a b).isSome) n.toNat) o.out (Zb.2 (λi A=>B.out i (by omega)))
       go_wp2;go_round;case rel=>exact⟨k+1,by omega,by go_num,f⟩
       case measure=>simp[intOf];omega
    ·have Q:Hid (IB s n=true):=Zb.2 (λi A=>o.out i (by omega));go_wp2;go_ret2;have K:Az s=0:=by rw[l.out,z.out,Q.out];rfl
     rw[Jh K,G.out,K];exact⟨rfl,rfl⟩
end Go.Proofs.YtcnbifdlkalimabGreat
