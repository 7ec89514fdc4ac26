/- Lemmas; their conditions stand in each. -/
import Derived.Test.YtcnbifdlkalimabGreatLatM
import Derived.BigQuiet
namespace Go.Proofs.YtcnbifdlkalimabGreat
open Go.RowKit Go.Proofs.Tryz
set_option linter.all false
set_option maxHeartbeats 6400000
theorem Lr(s:ZB)(n:Int)(w:World)(a:s.size<=maxLen)(c:0<=n)(h:n<=s.size) :
  Calls prog 173 #[.string s,.int .i64 n] w λe b=>e=.returned (.tuple #[.string (hd s n),.string (tl s n),.bool true])∧Below w.heap.size w b:=by
 unfold maxLen at a;go_in;go_wp2;go_quiet (fail);go_wp2;go_ret3;exact⟨rfl,below_drewN (Qh _ _) _⟩
theorem OT(s:ZB)(n:Int)(w:World)(a:s.size<=maxLen)(c:0<=n)(h:s.size<n) :
  Calls prog 173 #[.string s,.int .i64 n] w λe b=>e=.returned (.tuple #[.string {data:=#[]},.string {data:=#[]},.bool false])∧Below w.heap.size w b:=by
 unfold maxLen at a;go_in;go_wp2;go_ret3;exact⟨rfl,Qh _ _⟩
theorem KG(s:ZB)(m:Int)(w:World)(a:s.size<=maxLen)(g:1<=s.size)(h:bv s 0<=m) :
  Calls prog 174 #[.string s,.int .i64 m] w λe b=>e=.returned (.tuple #[.int .i64 (bv s 0),.string (tl s 1),.bool true])∧Below w.heap.size w b:=by
 unfold maxLen at a;have f:((s[0]'(by omega)).toNat:Int)=bv s 0:=ZJ s 0 (by omega);obtain⟨c,d⟩:=Zx s 0;have i:((s.size:Int)==0)=false:=Qf.2 (by omega);generalize bv s 0=v at *;go_in;go_wp2;go_quiet (fail);go_wp2;go_ret3;exact⟨rfl,below_drewN (Qh _ _) _⟩
theorem Q4(s:ZB)(m:Int)(w:World)(a:s.size<=maxLen)(h:s.size=0∨(1<=s.size∧m<bv s 0)) :
  Calls prog 174 #[.string s,.int .i64 m] w λe c=>e=.returned (.tuple #[.int .i64 0,.string {data:=#[]},.bool false])∧Below w.heap.size w c:=by
 unfold maxLen at a;rcases h with h|⟨h,i⟩
 ·have b:((s.size:Int)==0)=true:=QL.2 (by omega);clear h;go_in;go_wp2;go_ret3;exact⟨rfl,Qh _ _⟩
 ·have g:((s[0]'(by omega)).toNat:Int)=bv s 0:=ZJ s 0 (by omega);obtain⟨d,f⟩:=Zx s 0;have b:((s.size:Int)==0)=false:=Qf.2 (by omega);generalize bv s 0=v at *;go_in;go_wp2;go_ret3;exact⟨rfl,Qh _ _⟩
theorem Q5(s:ZB)(w:World)(d:s.size<=maxLen)(h:DE s 2 200=true) :
  Calls prog 111 #[.string s] w λe f=>e=.returned (.tuple #[.string (DA s 2),.string (DK s 2),.bool true])∧Below w.heap.size w f:=by
 obtain⟨j,k,l⟩:=LU h;obtain⟨g,i⟩:=Zx s 0;have m:=Zy s 1;go_in;go_wp2_with fail;refine(KG s 200 _ d (by omega) (by omega)).mono ?_;rintro e n ⟨rfl,a⟩;have c:Hid (DA s 2=hd (tl s 1) (2*bv s 0)∧DK s 2=tl (tl s 1) (2*bv s 0)):=⟨rfl,rfl⟩
 generalize bv s 0=v at *;go_wp2_with fail;refine(Lr (tl s 1) (2*v) _ (by omega) (by omega) (by omega)).mono ?_;rintro e o ⟨rfl,b⟩;go_wp2;go_ret3;rw[c.out.1,c.out.2];exact⟨rfl,a.trans (b.mono a.size)⟩
theorem Wh(s:ZB)(w:World)(d:s.size<=maxLen)(h:DE s 2 200=false) :
  Calls prog 111 #[.string s] w λe g=>e=.returned (.tuple #[.string {data:=#[]},.string {data:=#[]},.bool false])∧Below w.heap.size w g:=by
 obtain⟨j,k⟩:=Zx s 0;have m:=Zy s 1;by_cases c:s.size=0∨(1<=s.size∧200<bv s 0)
 ·go_in;go_wp2_with fail;refine(Q4 s 200 _ d c).mono ?_;rintro e i ⟨rfl,a⟩;go_wp2;go_ret3;exact⟨rfl,a⟩
 ·have f:=Vq h;go_in;go_wp2_with fail;refine(KG s 200 _ d (by omega) (by omega)).mono ?_;rintro e i ⟨rfl,a⟩;have l:(tl s 1).size<2*bv s 0:=by omega
  clear c f;generalize bv s 0=v at *;go_wp2_with fail;refine(OT (tl s 1) (2*v) _ (by omega) (by omega) (by omega)).mono ?_;rintro e n ⟨rfl,b⟩;go_wp2;go_ret3;exact⟨rfl,a.trans (b.mono a.size)⟩
theorem Q6(s:ZB)(n:Int)(w:World)(m:s.size<=maxLen)(h:Ff s n=true) :
  Calls prog 110 #[.string s,.int .i64 n] w λe q=>e=.returned (.tuple #[.string (DA s 1),.string (DK s 1),.bool true])∧Below w.heap.size w q:=by
 unfold Ff at h;rw[Qr]at h;obtain⟨h,g⟩:=h;obtain⟨A,B,C⟩:=LU h;obtain⟨r,t⟩:=Zx s 0;have F:=Zy s 1;have j:Hid (DA s 1=hd (tl s 1) (bv s 0)∧DK s 1=tl (tl s 1) (bv s 0)):=by unfold Hid DA DK;rw[Int.one_mul];exact⟨rfl,rfl⟩
 have p:=D9 (tl s 1) (bv s 0);have g:Hid (∀i:Nat,i<(hd (tl s 1) (bv s 0)).size->bv (hd (tl s 1) (bv s 0)) i<n):=by intro i o;unfold Iv at g;rw[j.out.1,Zb]at g;exact QB (g i o)
 have l:s.size<=maxLen:=m;unfold maxLen at l;go_in;go_wp2_with fail;refine(KG s 8 _ m (by omega) (by omega)).mono ?_;rintro e H ⟨rfl,a⟩;generalize bv s 0=v at *;go_wp2_with fail;refine(Lr (tl s 1) v _ (by omega) (by omega) (by omega)).mono ?_;rintro e I ⟨rfl,d⟩;replace a:=a.trans (d.mono a.size);clear d;generalize hd (tl s 1) v=b at *;generalize tl (tl s 1) v=G at *;go_wp2_with fail;go_loop [12] (λc=>∃k:Nat,k<=b.size∧c=.int .i64 k) (λc=>b.size-(intOf c).toNat);case atStart=>exact⟨0,by omega,rfl⟩
 case round=>
  obtain⟨k,E,rfl⟩:=hrel;by_cases f:k<b.size
  ·have D:=g.out k f;have z:=ZJ b k f;obtain⟨u,y⟩:=Zx b k;generalize bv b k=x at *;go_wp2;go_round;case rel=>exact⟨k+1,by omega,by go_num⟩
   case measure=>simp[intOf];omega
  ·go_wp2;go_ret3;rw[j.out.1,j.out.2];exact⟨rfl,a⟩
theorem Wi(s:ZB)(n:Int)(w:World)(l:s.size<=maxLen)(h:Ff s n=false) :
  Calls prog 110 #[.string s,.int .i64 n] w λe z=>e=.returned (.tuple #[.string {data:=#[]},.string {data:=#[]},.bool false])∧Below w.heap.size w z:=by
 obtain⟨B,C⟩:=Zx s 0;have I:=Zy s 1;have u:=D9 (tl s 1) (bv s 0);have p:s.size<=maxLen:=l;unfold maxLen at p;by_cases m:s.size=0∨(1<=s.size∧8<bv s 0)
 ·go_in;go_wp2_with fail;refine(Q4 s 8 _ l m).mono ?_;rintro e q ⟨rfl,a⟩;go_wp2;go_ret3;exact⟨rfl,a⟩
 ·by_cases G:(bv s 0)<=(tl s 1).size
  ·have y:Hid (¬∀i:Nat,i<(hd (tl s 1) (bv s 0)).size->bv (hd (tl s 1) (bv s 0)) i<n):=by intro b;have r:DE s 1 8=true:=Qv (by omega);unfold Ff at h;rw[r,Un]at h;unfold Iv DA at h;rw[Int.one_mul,Zb.2 (λi j=>Qv (b i j))]at h;exact absurd h (by simp)
   go_in;go_wp2_with fail;refine(KG s 8 _ l (by omega) (by omega)).mono ?_;rintro e q ⟨rfl,a⟩;clear m h;generalize bv s 0=v at *;go_wp2_with fail;refine(Lr (tl s 1) v _ (by omega) (by omega) (by omega)).mono ?_;rintro e A ⟨rfl,f⟩;replace a:=a.trans (f.mono a.size);clear f;generalize hd (tl s 1) v=d at *;generalize tl (tl s 1) v=J at *;go_wp2_with fail;go_loop [12] (λc=>∃k:Nat,k<=d.size∧c=.int .i64 k∧Hid (∀i:Nat,i<k->bv d i<n)) (λc=>d.size-(intOf c).toNat);case atStart=>exact⟨0,by omega,rfl,λi j=>absurd j (by omega)⟩
   case round=>
    obtain⟨k,H,rfl,b⟩:=hrel;by_cases o:k<d.size
    ·have F:=ZJ d k o;obtain⟨D,E⟩:=Zx d k;by_cases t:bv d k<n
     ·have g:Hid (∀i:Nat,i<k+1->bv d i<n):=by
       intro i j;by_cases e:i=k
       ·rw[e];exact t
       ·exact b.out i (by omega)
      generalize bv d k=x at *;go_wp2;go_round;case rel=>exact⟨k+1,by omega,by go_num,g⟩
      case measure=>simp[intOf];omega
     ·generalize bv d k=x at *;go_wp2;go_ret3;exact⟨rfl,a⟩
    ·exact absurd (λi j=>b.out i (by omega)) y.out
  ·go_in;go_wp2_with fail;refine(KG s 8 _ l (by omega) (by omega)).mono ?_;rintro e q ⟨rfl,a⟩;clear m h;generalize bv s 0=v at *;go_wp2_with fail;refine(OT (tl s 1) v _ (by omega) (by omega) (by omega)).mono ?_;rintro e A ⟨rfl,f⟩;go_wp2;go_ret3;exact⟨rfl,a.trans (f.mono a.size)⟩
theorem Q3(s:ZB)(w:World)(p:s.size<=maxLen)(h:EA s=true) :
  Calls prog 109 #[.string s] w λe E=>e=.returned (.tuple #[.agg #[.int .i64 (bv s 1),.string (Av s)],.string (BT s),.bool true])∧Below w.heap.size w E:=by
 unfold EA at h;rw[Qr,Qr]at h;obtain⟨j,d,m⟩:=h;replace d:=QB d;have i:=Np j d;rw[m,if_pos rfl]at i;obtain⟨H,q,z,A⟩:=Gj j;have t:Kp (EO (Av s)=Av s):=⟨by unfold EO;rw[if_neg (by omega)]⟩
 replace i:=Z_ i;replace d:=Z_ d;have F:((s[0]'(by omega)).toNat:Int)=bv s 0:=ZJ s 0 (by omega);have G:((s[1]'(by omega)).toNat:Int)=bv s 1:=ZJ s 1 (by omega);have y:(bv s 0 != 83)=false:=by rw[q];rfl
 have o:Kp ((tl s 2).size<=maxLen):=⟨Qg (Zy s 2) p⟩
 have r:Kp ((Av s).size<=maxLen):=⟨Qg (D9 _ _) o.out⟩
 have b:=AF.new2 w (.int .i64 0) (.string {data:=#[]}) 54;have g:Below w.heap.size w (w.alloc (.cells #[.int .i64 0,.string {data:=#[]}] 54)):=(Qh _ _).alloc (Qb _) _;have u:Kp (s.extract 2 s.size=tl s 2):=⟨rfl⟩
 have hF:Kp (hd (tl s 2) (bv s 1*bv s 1)=Av s∧tl (tl s 2) (bv s 1*bv s 1)=BT s):=⟨⟨rfl,rfl⟩⟩
 clear q j m;have I:=Fu _ z A;have B:0<=bv s 1*bv s 1:=QY (by omega) (by omega);generalize bv s 1=n at *;generalize bv s 0=L at *;have k:s.size<=maxLen:=p;unfold maxLen at k;go_in;go_wp2_with fail;rw[u.out];refine(Lr (tl s 2) (n*n) _ o.out B d.out).mono ?_;rintro e M ⟨rfl,a⟩;rw[hF.out.1,hF.out.2];replace g:=g.trans (a.mono (by simp));replace b:=b.step a;clear a;go_wp2_with fail;refine(OG (Av s) _ r.out).mono ?_;rintro e N ⟨rfl,a⟩;have l:=b.lt;replace g:=g.trans (a.mono (by omega));replace b:=b.step a;clear a l;rw[i.out,t.out];have x:(n==0)=false:=Qf.2 (by omega);have l:=b.lt;have C:=b.c 0 _ rfl;have D:=b.c 1 _ rfl;have J:=b.f 0 _ rfl;have K:=b.f 1 _ rfl;go_wp2;exact bodyPost_ret (v:=.tuple #[.agg #[.int .i64 n,.string (Av s)],.string (BT s),.bool true]) (by simp[results,Tryz.results109,go_sem,l,C,D]) rfl ⟨rfl,((g.setCell (Nat.le_refl _) _).setCell (Nat.le_refl _) _).alloc (by simp;omega) _⟩
theorem Wb(s:ZB)(w:World)(C:s.size<=maxLen)(h:EA s=false) :
  Calls prog 109 #[.string s] w λe M=>e=.returned (.tuple #[.agg #[.int .i64 0,.string {data:=#[]}],.string {data:=#[]},.bool false])∧Below w.heap.size w M:=by
 have t:s.size<=maxLen:=C;unfold maxLen at t;have b:=AF.new2 w (.int .i64 0) (.string {data:=#[]}) 54;have d:Below w.heap.size w (w.alloc (.cells #[.int .i64 0,.string {data:=#[]}] 54)):=(Qh _ _).alloc (Qb _) _;cases i:GA s with
 | false=>
  rcases TR i with k|⟨u,g⟩|⟨u,g,x⟩|⟨u,g,x,D⟩
  ·clear h i;go_in;go_wp2;exact bodyPost_ret (v:=.tuple #[.agg #[.int .i64 0,.string {data:=#[]}],.string {data:=#[]},.bool false]) (by simp[results,Tryz.results109,go_sem]) rfl ⟨rfl,d⟩
  ·have q:((s[0]'(by omega)).toNat:Int)=bv s 0:=ZJ s 0 (by omega);have j:(bv s 0 != 83)=true:=QO.2 g;clear h i g;generalize bv s 0=p at *;go_in;go_wp2;exact bodyPost_ret (v:=.tuple #[.agg #[.int .i64 0,.string {data:=#[]}],.string {data:=#[]},.bool false]) (by simp[results,Tryz.results109,go_sem]) rfl ⟨rfl,d⟩
  ·have q:((s[0]'(by omega)).toNat:Int)=bv s 0:=ZJ s 0 (by omega);have A:((s[1]'(by omega)).toNat:Int)=bv s 1:=ZJ s 1 (by omega);have j:(bv s 0 != 83)=false:=by rw[g];rfl
   obtain⟨F,G⟩:=Zx s 1;clear h i g;generalize bv s 1=n at *;generalize bv s 0=p at *;go_in;go_wp2;exact bodyPost_ret (v:=.tuple #[.agg #[.int .i64 0,.string {data:=#[]}],.string {data:=#[]},.bool false]) (by simp[results,Tryz.results109,go_sem]) rfl ⟨rfl,d⟩
  ·have q:((s[0]'(by omega)).toNat:Int)=bv s 0:=ZJ s 0 (by omega);have A:((s[1]'(by omega)).toNat:Int)=bv s 1:=ZJ s 1 (by omega);have j:(bv s 0 != 83)=false:=by rw[g];rfl
   obtain⟨F,G⟩:=Zx s 1;clear h i g;generalize bv s 1=n at *;generalize bv s 0=p at *;go_in;go_wp2;exact bodyPost_ret (v:=.tuple #[.agg #[.int .i64 0,.string {data:=#[]}],.string {data:=#[]},.bool false]) (by simp[results,Tryz.results109,go_sem]) rfl ⟨rfl,d⟩
 | true=>
  obtain⟨u,g,x,D⟩:=Gj i;unfold EA at h;rw[i,Un]at h;have q:((s[0]'(by omega)).toNat:Int)=bv s 0:=ZJ s 0 (by omega);have A:((s[1]'(by omega)).toNat:Int)=bv s 1:=ZJ s 1 (by omega);have j:(bv s 0 != 83)=false:=by rw[g];rfl
  have r:Kp ((tl s 2).size<=maxLen):=⟨Qg (Zy s 2) C⟩
  have I:Kp ((Av s).size<=maxLen):=⟨Qg (D9 _ _) r.out⟩
  have B:Kp (s.extract 2 s.size=tl s 2):=⟨rfl⟩
  have hF:Kp (hd (tl s 2) (bv s 1*bv s 1)=Av s∧tl (tl s 2) (bv s 1*bv s 1)=BT s):=⟨⟨rfl,rfl⟩⟩
  have O:=Fu _ x D;have E:0<=bv s 1*bv s 1:=QY (by omega) (by omega);clear g;by_cases l:bv s 1*bv s 1<=(tl s 2).size
  ·have m:=Np i l;rw[Qv l,Un]at h;rw[h]at m;replace m:Kp (Ap (Av s)=0):=⟨m⟩
   have J:Kp (EO (Av s)={data:=#[]}):=⟨by unfold EO;rw[if_pos m.out]⟩
   clear h i;replace l:=Z_ l;generalize bv s 1=n at *;generalize bv s 0=p at *;go_in;go_wp2_with fail;rw[B.out];refine(Lr (tl s 2) (n*n) _ r.out E l.out).mono ?_;rintro e N ⟨rfl,a⟩;rw[hF.out.1,hF.out.2];replace d:=d.trans (a.mono (by simp));replace b:=b.step a;clear a;go_wp2_with fail;refine(OG (Av s) _ I.out).mono ?_;rintro e R ⟨rfl,a⟩;have o:=b.lt;replace d:=d.trans (a.mono (by omega));replace b:=b.step a;clear a o;rw[m.out,J.out];have o:=b.lt;have y:=b.c 0 _ rfl;have z:=b.c 1 _ rfl;have K:=b.f 0 _ rfl;have L:=b.f 1 _ rfl;generalize Av s=Q at *;generalize BT s=P at *;go_wp2;exact bodyPost_ret (v:=.tuple #[.agg #[.int .i64 0,.string {data:=#[]}],.string {data:=#[]},.bool false]) (by simp[results,Tryz.results109,go_sem,o,y,z]) rfl ⟨rfl,((d.setCell (Nat.le_refl _) _).setCell (Nat.le_refl _) _).alloc (by simp;omega) _⟩
  ·clear h i;have H:Kp ((tl s 2).size<bv s 1*bv s 1):=⟨by omega⟩
   clear l;generalize bv s 1=n at *;generalize bv s 0=p at *;go_in;go_wp2_with fail;rw[B.out];refine(OT (tl s 2) (n*n) _ r.out E H.out).mono ?_;rintro e N ⟨rfl,a⟩;replace d:=d.trans (a.mono (by simp));replace b:=b.step a;clear a;have o:=b.lt;have y:=b.c 0 _ rfl;have z:=b.c 1 _ rfl;have K:=b.f 0 _ rfl;have L:=b.f 1 _ rfl;go_wp2;exact bodyPost_ret (v:=.tuple #[.agg #[.int .i64 0,.string {data:=#[]}],.string {data:=#[]},.bool false]) (by simp[results,Tryz.results109,go_sem,y,z]) rfl ⟨rfl,(d.setCell (Nat.le_refl _) _).setCell (Nat.le_refl _) _⟩
theorem N8(s:ZB)(w:World)(t:s.size<=maxLen)(h:DV s=true) :
  Calls prog 57 #[.string s] w λe C=>e=.returned (.tuple #[.agg #[.int .i64 (bv s 1),.string (Av s),.string (At s),.string (Ao s)],.bool true])∧Below w.heap.size w C:=by
 unfold DV at h;rw[Qr,Qr,Qr]at h;obtain⟨m,n,o,r⟩:=h;replace m:=Z_ m;replace n:=Z_ n;replace o:=Z_ o;have i:Kp ((BT s).size<=maxLen):=⟨Qg (Zy _ _) (Qg (Zy _ _) t)⟩
 have q:Kp ((Ck s).size<=maxLen):=⟨Qg (Zy _ _) (Qg (Zy _ _) i.out)⟩
 have p:Kp (GG s={data:=#[]}):=⟨by
  have x:=QB r;exact ByteArray.ext (Array.eq_empty_of_size_eq_zero x)⟩
 clear r;have b:=AF.new4 w (.int .i64 0) (.string {data:=#[]}) (.string {data:=#[]}) (.string {data:=#[]}) 76;have d:Below w.heap.size w (w.alloc (.cells #[.int .i64 0,.string {data:=#[]},.string {data:=#[]},.string {data:=#[]}] 76)):=(Qh _ _).alloc (Qb _) _;go_in;go_wp2_with fail;refine(Q3 s _ t m.out).mono ?_;rintro e D ⟨rfl,a⟩;replace d:=d.trans (a.mono (by simp));replace b:=b.step a;clear a;have g:=AF.new2 D (.int .i64 (bv s 1)) (.string (Av s)) 54;have l:=b.lt;replace d:=d.alloc (Uf b.lt) (.cells #[.int .i64 (bv s 1),.string (Av s)] 54);replace b:=b.alloc (.cells #[.int .i64 (bv s 1),.string (Av s)] 54);go_wp2_with fail;refine(Q6 (BT s) (bv s 1) _ i.out n.out).mono ?_;rintro e K ⟨rfl,a⟩;replace d:=d.trans (a.mono (by simp;omega));replace b:=b.step a;replace g:=g.step a;clear a l;have k:DA (BT s) 1=At s:=rfl;have j:DK (BT s) 1=Ck s:=rfl;rw[k,j];clear k j;go_wp2_with fail;refine(Q5 (Ck s) _ q.out o.out).mono ?_;rintro e L ⟨rfl,a⟩;have l:=b.lt;have u:=g.lt;replace d:=d.trans (a.mono (by omega));replace b:=b.step a;replace g:=g.step a;clear a l u;have k:DA (Ck s) 2=Ao s:=rfl;have j:DK (Ck s) 2=GG s:=rfl;rw[k,j,p.out];clear k j;have l:=b.lt;have y:=b.c 0 _ rfl;have z:=b.c 1 _ rfl;have A:=b.c 2 _ rfl;have B:=b.c 3 _ rfl;have E:=b.f 0 _ rfl;have F:=b.f 1 _ rfl;have G:=b.f 2 _ rfl;have H:=b.f 3 _ rfl;have u:=g.lt;have I:=g.c 0 _ rfl;have J:=g.c 1 _ rfl;go_wp2;exact bodyPost_ret (v:=.tuple #[.agg #[.int .i64 (bv s 1),.string (Av s),.string (At s),.string (Ao s)],.bool true]) (by simp[results,Tryz.results57,go_sem,y,z,A,B]) rfl ⟨rfl,(((d.setCell (Nat.le_refl _) _).setCell (Nat.le_refl _) _).setCell (Nat.le_refl _) _).setCell (Nat.le_refl _) _⟩
theorem ZpE(r:ZB)(h:r.size≠0):r.toList.isEmpty=false:=by
 rw[Ur];cases e:r.data.toList with
 | nil=>exact absurd (show r.size=0 from by show r.data.size=0;rw[<-Array.length_toList,e];rfl) h
 | cons a b=>rfl
theorem Zs1{s:ZB}(h:DV s=false):EA s=false∨(EA s=true∧Ff (BT s) (bv s 1)=false)∨(EA s=true∧Ff (BT s) (bv s 1)=true∧DE (Ck s) 2 200=false)∨(EA s=true∧Ff (BT s) (bv s 1)=true∧DE (Ck s) 2 200=true∧(GG s).size≠0):=by
 unfold DV at h;cases a:EA s with
 | false=>exact .inl rfl
 | true=>
  cases b:Ff (BT s) (bv s 1) with
  | false=>exact .inr (.inl ⟨rfl,rfl⟩)
  | true=>
   cases c:DE (Ck s) 2 200 with
   | false=>exact .inr (.inr (.inl ⟨rfl,rfl,rfl⟩))
   | true=>rw[a,b,c]at h;exact .inr (.inr (.inr ⟨rfl,rfl,rfl,of_decide_eq_false (by simpa using h)⟩))
theorem Zoj(s:ZB)(w:World)(y:s.size<=maxLen)(h:DV s=false) :
  Calls prog 57 #[.string s] w λe E=>e=.returned (.tuple #[.agg #[.int .i64 0,.string {data:=#[]},.string {data:=#[]},.string {data:=#[]}],.bool false])∧Below w.heap.size w E:=by
 have l:Kp ((BT s).size<=maxLen):=⟨Qg (Zy _ _) (Qg (Zy _ _) y)⟩
 have t:Kp ((Ck s).size<=maxLen):=⟨Qg (Zy _ _) (Qg (Zy _ _) l.out)⟩
 have a:=AF.new4 w (.int .i64 0) (.string {data:=#[]}) (.string {data:=#[]}) (.string {data:=#[]}) 76;have d:Below w.heap.size w (w.alloc (.cells #[.int .i64 0,.string {data:=#[]},.string {data:=#[]},.string {data:=#[]}] 76)):=(Qh _ _).alloc (Qb _) _;rcases Zs1 h with q|k
 ·clear h;replace q:=Z_ q;go_in;go_wp2_with fail;refine(Wb s _ y q.out).mono ?_;rintro e D ⟨rfl,b⟩;replace d:=d.trans (b.mono (by simp));replace a:=a.step b;clear b;have i:=a.lt;have m:=a.c 0 _ rfl;have n:=a.c 1 _ rfl;have o:=a.c 2 _ rfl;have p:=a.c 3 _ rfl;have z:=a.f 0 _ rfl;have A:=a.f 1 _ rfl;have B:=a.f 2 _ rfl;have C:=a.f 3 _ rfl;go_wp2;exact bodyPost_ret (v:=.tuple #[.agg #[.int .i64 0,.string {data:=#[]},.string {data:=#[]},.string {data:=#[]}],.bool false]) (by simp[results,Tryz.results57,go_sem,i,m,n,o,p]) rfl ⟨rfl,((((d.setCell (Nat.le_refl _) _).setCell (Nat.le_refl _) _).setCell (Nat.le_refl _) _).setCell (Nat.le_refl _) _).alloc (by simp;omega) _⟩
 ·clear h;have q:Kp (EA s=true):=⟨by rcases k with k|k|k<;>exact k.1⟩
  replace k:=Z_ k;go_in;go_wp2_with fail;refine(Q3 s _ y q.out).mono ?_;rintro e D ⟨rfl,b⟩;replace d:=d.trans (b.mono (by simp));replace a:=a.step b;clear b;have I:=AF.new2 D (.int .i64 (bv s 1)) (.string (Av s)) 54;have i:=a.lt;replace d:=d.alloc (Uf a.lt) (.cells #[.int .i64 (bv s 1),.string (Av s)] 54);replace a:=a.alloc (.cells #[.int .i64 (bv s 1),.string (Av s)] 54);go_wp2_with fail;rcases k.out with r|g
  ·refine(Wi (BT s) (bv s 1) _ l.out r.2).mono ?_;replace r:=Z_ r;rintro e F ⟨rfl,b⟩;replace d:=d.trans (b.mono (by simp;omega));replace a:=a.step b;clear b i;have i:=a.lt;have m:=a.c 0 _ rfl;have n:=a.c 1 _ rfl;have o:=a.c 2 _ rfl;have p:=a.c 3 _ rfl;have z:=a.f 0 _ rfl;have A:=a.f 1 _ rfl;have B:=a.f 2 _ rfl;have C:=a.f 3 _ rfl;go_wp2;exact bodyPost_ret (v:=.tuple #[.agg #[.int .i64 0,.string {data:=#[]},.string {data:=#[]},.string {data:=#[]}],.bool false]) (by simp[results,Tryz.results57,go_sem,m,n,o,p]) rfl ⟨rfl,(((d.setCell (Nat.le_refl _) _).setCell (Nat.le_refl _) _).setCell (Nat.le_refl _) _).setCell (Nat.le_refl _) _⟩
  ·have r:Kp (Ff (BT s) (bv s 1)=true):=⟨by rcases g with g|g<;>exact g.2.1⟩
   replace g:=Z_ g;refine(Q6 (BT s) (bv s 1) _ l.out r.out).mono ?_;rintro e F ⟨rfl,b⟩;replace d:=d.trans (b.mono (by simp;omega));replace a:=a.step b;clear b i;have x:DA (BT s) 1=At s:=rfl;have u:DK (BT s) 1=Ck s:=rfl;rw[x,u];clear x u;go_wp2_with fail;rcases g.out with j|j
   ·refine(Wh (Ck s) _ t.out j.2.2).mono ?_;replace j:=Z_ j;rintro e G ⟨rfl,b⟩;have i:=a.lt;replace d:=d.trans (b.mono (by omega));replace a:=a.step b;clear b i;have i:=a.lt;have m:=a.c 0 _ rfl;have n:=a.c 1 _ rfl;have o:=a.c 2 _ rfl;have p:=a.c 3 _ rfl;have z:=a.f 0 _ rfl;have A:=a.f 1 _ rfl;have B:=a.f 2 _ rfl;have C:=a.f 3 _ rfl;go_wp2;exact bodyPost_ret (v:=.tuple #[.agg #[.int .i64 0,.string {data:=#[]},.string {data:=#[]},.string {data:=#[]}],.bool false]) (by simp[results,Tryz.results57,go_sem,m,n,o,p]) rfl ⟨rfl,(((d.setCell (Nat.le_refl _) _).setCell (Nat.le_refl _) _).setCell (Nat.le_refl _) _).setCell (Nat.le_refl _) _⟩
   ·refine(Q5 (Ck s) _ t.out j.2.2.1).mono ?_;have H:=ZpE (GG s) j.2.2.2;replace j:=Z_ j;rintro e G ⟨rfl,b⟩;have i:=a.lt;replace d:=d.trans (b.mono (by omega));replace a:=a.step b;clear b i;have x:DA (Ck s) 2=Ao s:=rfl;have u:DK (Ck s) 2=GG s:=rfl;rw[x,u];clear x u;generalize GG s=J at *;have i:=a.lt;have m:=a.c 0 _ rfl;have n:=a.c 1 _ rfl;have o:=a.c 2 _ rfl;have p:=a.c 3 _ rfl;have z:=a.f 0 _ rfl;have A:=a.f 1 _ rfl;have B:=a.f 2 _ rfl;have C:=a.f 3 _ rfl;go_wp2;exact bodyPost_ret (v:=.tuple #[.agg #[.int .i64 0,.string {data:=#[]},.string {data:=#[]},.string {data:=#[]}],.bool false]) (by simp[results,Tryz.results57,go_sem,m,n,o,p]) rfl ⟨rfl,(((d.setCell (Nat.le_refl _) _).setCell (Nat.le_refl _) _).setCell (Nat.le_refl _) _).setCell (Nat.le_refl _) _⟩
theorem ZY(n:Int)(t v c:ZB)(w:World)(a:c.size<=maxLen) :
  Calls prog 68 #[.agg #[.int .i64 n,.string t,.string v,.string c]] w λe b=>e=.returned (.int .i64 (half c))∧Below w.heap.size w b:=by
 unfold maxLen at a;go_in;go_wp2;go_ret;exact⟨rfl,(Qh _ _).alloc (Qb _) _⟩
theorem HX(n k:Int)(t v c:ZB)(w:World)(d:c.size<=maxLen)(u:0<=k)(g:k<half c) :
  Calls prog 114 #[.agg #[.int .i64 n,.string t,.string v,.string c],.int .i64 k] w λe h=>e=.returned (.tuple #[.int .i64 (bv c (2*k)),.int .i64 (bv c (2*k+1))])∧Below w.heap.size w h:=by
 unfold maxLen at d;have f:=Zn c;have hd:(half c:Int)=(c.size:Int)/2:=rfl;rw[hd]at g f;clear hd;have o:((c[(2*k).toNat]'(by omega)).toNat:Int)=bv c (2*k):=Ir c (2*k) (by omega);have p:((c[(2*k+1).toNat]'(by omega)).toNat:Int)=bv c (2*k+1):=Ir c (2*k+1) (by omega);have a:=Zx c (2*k);have b:=Zx c (2*k+1);obtain⟨i,j⟩:=a;obtain⟨l,m⟩:=b;generalize bv c (2*k)=x at *;generalize bv c (2*k+1)=y at *;have q:2*k<c.size:=by omega
 have r:2*k+1<c.size:=by omega
 have s:0<=2*k:=by omega
 go_in;go_wp2;go_quiet (fail);go_wp2;go_ret2;exact⟨rfl,below_drewN ((Qh _ _).alloc (Qb _) _) _⟩
theorem XD(n op a:Int)(t v c:ZB)(w:World)(h:c.size<=maxLen)(j:v.size<=maxLen)(p:0<=op)(q:0<=a) :
  Calls prog 115 #[.agg #[.int .i64 n,.string t,.string v,.string c],.int .i64 op,.int .i64 a] w λe k=>e=.returned (.bool (CS v.size (half c) n op a))∧Below w.heap.size w k:=by
 have g:v.size<=maxLen:=j;unfold maxLen at g;have r:=AF.new4 w (.int .i64 n) (.string t) (.string v) (.string c) 76;have b:Below w.heap.size w (w.alloc (.cells #[.int .i64 n,.string t,.string v,.string c] 76)):=(Qh _ _).alloc (Qb _) _;by_cases i:op<=11
 ·have f:op=0∨op=1∨op=2∨op=3∨op=4∨op=5∨op=6∨op=7∨op=8∨op=9∨op=10∨op=11:=by omega
  rcases f with rfl|rfl|rfl|rfl|rfl|rfl|rfl|rfl|rfl|rfl|rfl|rfl
  ·have hd:Kp (CS v.size (half c) n 0 a=true):=⟨Qv (by omega)⟩
   go_in;go_wp2;go_ret;exact⟨Za hd.out.symm,b⟩
  ·have hd:Kp (CS v.size (half c) n 1 a=decide (a<v.size)):=⟨by rw[Bool.eq_iff_iff];simp[CS]⟩
   go_in;go_wp2;go_ret;exact⟨Za hd.out.symm,b⟩
  ·have hd:Kp (CS v.size (half c) n 2 a=decide (a<v.size)):=⟨by rw[Bool.eq_iff_iff];simp[CS]⟩
   go_in;go_wp2;go_ret;exact⟨Za hd.out.symm,b⟩
  ·have hd:Kp (CS v.size (half c) n 3 a=(a==0)):=⟨by rw[Bool.eq_iff_iff];simp[CS]⟩
   go_in;go_wp2;go_ret;exact⟨Za hd.out.symm,b⟩
  ·have hd:Kp (CS v.size (half c) n 4 a=(a==0)):=⟨by rw[Bool.eq_iff_iff];simp[CS]⟩
   go_in;go_wp2;go_ret;exact⟨Za hd.out.symm,b⟩
  ·have hd:Kp (CS v.size (half c) n 5 a=(a==0)):=⟨by rw[Bool.eq_iff_iff];simp[CS]⟩
   go_in;go_wp2;go_ret;exact⟨Za hd.out.symm,b⟩
  ·have hd:Kp (CS v.size (half c) n 6 a=(a==0)):=⟨by rw[Bool.eq_iff_iff];simp[CS]⟩
   go_in;go_wp2;go_ret;exact⟨Za hd.out.symm,b⟩
  ·have hd:Kp (CS v.size (half c) n 7 a=(a==0)):=⟨by rw[Bool.eq_iff_iff];simp[CS]⟩
   go_in;go_wp2;go_ret;exact⟨Za hd.out.symm,b⟩
  ·have hd:Kp (CS v.size (half c) n 8 a=decide (a<=half c)):=⟨by rw[Bool.eq_iff_iff];simp[CS]⟩
   go_in;go_wp2_with fail;refine(ZY n t v c _ h).mono ?_;rintro e l ⟨rfl,d⟩;replace b:=b.trans (d.mono (by simp));go_wp2;go_ret;exact⟨Za hd.out.symm,b⟩
  ·have hd:Kp (CS v.size (half c) n 9 a=decide (a<=half c)):=⟨by rw[Bool.eq_iff_iff];simp[CS]⟩
   go_in;go_wp2_with fail;refine(ZY n t v c _ h).mono ?_;rintro e l ⟨rfl,d⟩;replace b:=b.trans (d.mono (by simp));go_wp2;go_ret;exact⟨Za hd.out.symm,b⟩
  ·have hd:Kp (CS v.size (half c) n 10 a=decide (a<n)):=⟨by rw[Bool.eq_iff_iff];simp[CS]⟩
   go_in;go_wp2;go_ret;exact⟨Za hd.out.symm,b⟩
  ·have hd:Kp (CS v.size (half c) n 11 a=decide (a<n)):=⟨by rw[Bool.eq_iff_iff];simp[CS]⟩
   go_in;go_wp2;go_ret;exact⟨Za hd.out.symm,b⟩
 ·have hd:Kp (CS v.size (half c) n op a=false):=⟨Qx (by omega)⟩
  have s:(op==0)=false:=Qf.2 (by omega);have u:(op==1)=false:=Qf.2 (by omega);have x:(op==2)=false:=Qf.2 (by omega);have y:(op==3)=false:=Qf.2 (by omega);have z:(op==4)=false:=Qf.2 (by omega);have A:(op==5)=false:=Qf.2 (by omega);have B:(op==6)=false:=Qf.2 (by omega);have C:(op==7)=false:=Qf.2 (by omega);have D:(op==8)=false:=Qf.2 (by omega);have E:(op==9)=false:=Qf.2 (by omega);have m:(op==10)=false:=Qf.2 (by omega);have o:(op==11)=false:=Qf.2 (by omega);go_in;go_wp2;go_ret;exact⟨Za hd.out.symm,b⟩
theorem RX(n:Int)(t v c:ZB)(w:World)(g:c.size<=maxLen)(A:v.size<=maxLen) :
  Calls prog 59 #[.agg #[.int .i64 n,.string t,.string v,.string c]] w λe B=>e=.returned (.bool (FN c v n))∧Below w.heap.size w B:=by
 have F:=Zn c;have l:c.size<=maxLen:=g;unfold maxLen at l;have b:=AF.new4 w (.int .i64 n) (.string t) (.string v) (.string c) 76;have d:Below w.heap.size w (w.alloc (.cells #[.int .i64 n,.string t,.string v,.string c] 76)):=(Qh _ _).alloc (Qb _) _;go_in;go_wp2_with fail;refine(ZY n t v c _ g).mono ?_;rintro e H ⟨rfl,a⟩;replace d:=d.trans (a.mono (by simp));replace b:=b.step a;clear a;have E:Kp (half c=half c):=⟨rfl⟩
 go_wp2_with fail;go_loopw [4] (λi wr=>∃k:Nat,(k:Int)<=half c∧i=.int .i64 k∧Kp (∀i:Nat,i<k->FU c v n i=true)∧Below w.heap.size w wr∧AF wr w.heap.size [.int .i64 n,.string t,.string v,.string c]) (λi _=>(half c).toNat-(intOf i).toNat);case atStart=>exact⟨0,by omega,rfl,⟨λi u=>absurd u (by omega)⟩,d,b⟩
 case round=>
  clear d b;obtain⟨k,G,rfl,f,d,b⟩:=hrel;have m:=b.lt;have o:=b.c 0 _ rfl;have p:=b.c 1 _ rfl;have q:=b.c 2 _ rfl;have r:=b.c 3 _ rfl;by_cases j:(k:Int)<half c
  ·go_wp2_with fail;refine(HX n k t v c _ g (by omega) j).mono ?_;rintro e I ⟨rfl,a⟩;replace d:=d.trans (a.mono (by omega));replace b:=b.step a;clear a m o p q r;have m:=b.lt;have o:=b.c 0 _ rfl;have p:=b.c 1 _ rfl;have q:=b.c 2 _ rfl;have r:=b.c 3 _ rfl;obtain⟨y,C⟩:=Zx c (2*k);obtain⟨z,D⟩:=Zx c (2*k+1);go_wp2_with fail;refine(XD n (bv c (2*k)) (bv c (2*k+1)) t v c _ g A y z).mono ?_;rintro e J ⟨rfl,a⟩;replace d:=d.trans (a.mono (by omega));replace b:=b.step a;clear a m o p q r;have s:FU c v n k=CS v.size (half c) n (bv c (2*k)) (bv c (2*k+1)):=rfl;rw[<-s];clear s;generalize h:FU c v n k=x;replace h:=Z_ h;cases x<;>go_wp2
   ·go_ret;exact⟨Za (Zm (i:=k) (by omega) h.out).symm,d⟩
   ·go_roundw;case rel=>exact⟨k+1,by omega,by go_num,⟨ZC f.out h.out⟩,d,b⟩
    case measure=>simp[intOf];omega
  ·go_wp2;go_ret;exact⟨Za (Zb.2 (λi u=>f.out i (by omega))).symm,d⟩
theorem MB{s:ZB}(b:s.size<=maxLen):(Av s).size<=maxLen∧(At s).size<=maxLen∧(Ao s).size<=maxLen:=by have a:(BT s).size<=maxLen:=Qg (Zy _ _) (Qg (Zy _ _) b);have c:(Ck s).size<=maxLen:=Qg (Zy _ _) (Qg (Zy _ _) a);exact⟨Qg (D9 _ _) (Qg (Zy _ _) b),Qg (D9 _ _) (Qg (Zy _ _) a),Qg (D9 _ _) (Qg (Zy _ _) c)⟩
theorem Oi(s:ZB)(w:World)(o:s.size<=maxLen)(h:AN s≠0) :
  Calls prog 24 #[.string s] w λe L=>e=.returned (.tuple #[.agg #[.int .i64 0,.string {data:=#[]},.string {data:=#[]},.string {data:=#[]}],.int .i64 (AN s)])∧Below w.heap.size w L:=by
 have j:=MB o;have j:Kp _:=⟨j⟩
 have b:=AF.new4 w (.int .i64 0) (.string {data:=#[]}) (.string {data:=#[]}) (.string {data:=#[]}) 76;have g:Below w.heap.size w (w.alloc (.cells #[.int .i64 0,.string {data:=#[]},.string {data:=#[]},.string {data:=#[]}] 76)):=(Qh _ _).alloc (Qb _) _;have A:s.size<=maxLen:=o;unfold maxLen at A;rcases JL s with ⟨y,d⟩|⟨y,d,l⟩|⟨y,d,l,n⟩|⟨y,d,l,n,p⟩|⟨y,d,l,n,p⟩
 ·rw[d];clear d h;go_in;go_wp2;exact bodyPost_ret (v:=.tuple #[.agg #[.int .i64 0,.string {data:=#[]},.string {data:=#[]},.string {data:=#[]}],.int .i64 1]) (by simp[results,Tryz.results24,go_sem]) rfl ⟨rfl,g⟩
 ·rw[l];clear l h;replace d:=Z_ d;go_in;go_wp2_with fail;refine(Zoj s _ o d.out).mono ?_;rintro e z ⟨rfl,a⟩;replace g:=g.trans (a.mono (by simp));replace b:=b.step a;clear a;have m:=b.lt;have r:=b.c 0 _ rfl;have t:=b.c 1 _ rfl;have u:=b.c 2 _ rfl;have x:=b.c 3 _ rfl;have D:=b.f 0 _ rfl;have E:=b.f 1 _ rfl;have F:=b.f 2 _ rfl;have G:=b.f 3 _ rfl;go_wp2;exact bodyPost_ret (v:=.tuple #[.agg #[.int .i64 0,.string {data:=#[]},.string {data:=#[]},.string {data:=#[]}],.int .i64 2]) (by simp[results,Tryz.results24,go_sem,m,r,t,u,x]) rfl ⟨rfl,((((g.setCell (Nat.le_refl _) _).setCell (Nat.le_refl _) _).setCell (Nat.le_refl _) _).setCell (Nat.le_refl _) _).alloc (by simp;omega) _⟩
 ·rw[n];clear n h;have p:(Az (Av s) != 0)=true:=QO.2 l;clear l;have k:=Lc (s:=s) (by unfold DV at d;rw[Qr]at d;exact d.1);replace d:=Z_ d;replace k:=Z_ k;generalize Az (Av s)=B at *;go_in;go_wp2_with fail;refine(N8 s _ o d.out).mono ?_;rintro e z ⟨rfl,a⟩;replace g:=g.trans (a.mono (by simp));replace b:=b.step a;clear a;have i:=AF.new4 z (.int .i64 (bv s 1)) (.string (Av s)) (.string (At s)) (.string (Ao s)) 76;have q:=b.lt;replace g:=g.alloc (Uf b.lt) (.cells #[.int .i64 (bv s 1),.string (Av s),.string (At s),.string (Ao s)] 76);replace b:=b.alloc (.cells #[.int .i64 (bv s 1),.string (Av s),.string (At s),.string (Ao s)] 76);go_wp2_with fail;refine(MG k.out.1 _).mono ?_;rintro e M ⟨rfl,a⟩;replace g:=g.trans (a.mono (by simp;omega));replace b:=b.step a;replace i:=i.step a;clear a q;rw[k.out.2.2];have m:=b.lt;have r:=b.c 0 _ rfl;have t:=b.c 1 _ rfl;have u:=b.c 2 _ rfl;have x:=b.c 3 _ rfl;have D:=b.f 0 _ rfl;have E:=b.f 1 _ rfl;have F:=b.f 2 _ rfl;have G:=b.f 3 _ rfl;go_wp2;exact bodyPost_ret (v:=.tuple #[.agg #[.int .i64 0,.string {data:=#[]},.string {data:=#[]},.string {data:=#[]}],.int .i64 B]) (by simp[results,Tryz.results24,go_sem,r,t,u,x]) rfl ⟨rfl,(((g.setCell (Nat.le_refl _) _).setCell (Nat.le_refl _) _).setCell (Nat.le_refl _) _).setCell (Nat.le_refl _) _⟩
 ·rw[p];clear p h;have k:=Lc (s:=s) (by unfold DV at d;rw[Qr]at d;exact d.1);replace d:=Z_ d;replace k:=Z_ k;go_in;go_wp2_with fail;refine(N8 s _ o d.out).mono ?_;rintro e z ⟨rfl,a⟩;replace g:=g.trans (a.mono (by simp));replace b:=b.step a;clear a;have i:=AF.new4 z (.int .i64 (bv s 1)) (.string (Av s)) (.string (At s)) (.string (Ao s)) 76;have q:=b.lt;replace g:=g.alloc (Uf b.lt) (.cells #[.int .i64 (bv s 1),.string (Av s),.string (At s),.string (Ao s)] 76);replace b:=b.alloc (.cells #[.int .i64 (bv s 1),.string (Av s),.string (At s),.string (Ao s)] 76);go_wp2_with fail;refine(MG k.out.1 _).mono ?_;rintro e M ⟨rfl,a⟩;replace g:=g.trans (a.mono (by simp;omega));replace b:=b.step a;replace i:=i.step a;clear a q;rw[k.out.2.2];rw[l];clear l;have C:=i.lt;have H:=i.c 0 _ rfl;have I:=i.c 1 _ rfl;have J:=i.c 2 _ rfl;have K:=i.c 3 _ rfl;go_wp2_with fail;refine(RX (bv s 1) (Av s) (At s) (Ao s) _ j.out.2.2 j.out.2.1).mono ?_;rintro e N ⟨rfl,a⟩;have q:=b.lt;replace g:=g.trans (a.mono (by omega));replace b:=b.step a;replace i:=i.step a;clear a q C H I J K;have C:=i.lt;have H:=i.c 0 _ rfl;have I:=i.c 1 _ rfl;have J:=i.c 2 _ rfl;have K:=i.c 3 _ rfl;rw[n];clear n;have m:=b.lt;have r:=b.c 0 _ rfl;have t:=b.c 1 _ rfl;have u:=b.c 2 _ rfl;have x:=b.c 3 _ rfl;have D:=b.f 0 _ rfl;have E:=b.f 1 _ rfl;have F:=b.f 2 _ rfl;have G:=b.f 3 _ rfl;go_wp2;exact bodyPost_ret (v:=.tuple #[.agg #[.int .i64 0,.string {data:=#[]},.string {data:=#[]},.string {data:=#[]}],.int .i64 6]) (by simp[results,Tryz.results24,go_sem,r,t,u,x]) rfl ⟨rfl,(((g.setCell (Nat.le_refl _) _).setCell (Nat.le_refl _) _).setCell (Nat.le_refl _) _).setCell (Nat.le_refl _) _⟩
 ·exact absurd p h
theorem N9(s:ZB)(w:World)(p:s.size<=maxLen)(h:AN s=0) :
  Calls prog 24 #[.string s] w λe F=>e=.returned (.tuple #[.agg #[.int .i64 (bv s 1),.string (Av s),.string (At s),.string (Ao s)],.int .i64 0])∧Below w.heap.size w F:=by
 have j:=MB p;have j:Kp _:=⟨j⟩
 have b:=AF.new4 w (.int .i64 0) (.string {data:=#[]}) (.string {data:=#[]}) (.string {data:=#[]}) 76;have i:Below w.heap.size w (w.alloc (.cells #[.int .i64 0,.string {data:=#[]},.string {data:=#[]},.string {data:=#[]}] 76)):=(Qh _ _).alloc (Qb _) _;have o:s.size<=maxLen:=p;unfold maxLen at o;rcases JL s with ⟨m,g⟩|⟨m,g,k⟩|⟨m,g,k,n⟩|⟨m,g,k,n,r⟩|⟨m,g,k,n,r⟩
 ·omega
 ·omega
 ·omega
 ·omega
 ·clear r h;have l:=Lc (s:=s) (by unfold DV at g;rw[Qr]at g;exact g.1);replace g:=Z_ g;replace l:=Z_ l;go_in;go_wp2_with fail;refine(N8 s _ p g.out).mono ?_;rintro e G ⟨rfl,a⟩;replace i:=i.trans (a.mono (by simp));replace b:=b.step a;clear a;have d:=AF.new4 G (.int .i64 (bv s 1)) (.string (Av s)) (.string (At s)) (.string (Ao s)) 76;have q:=b.lt;replace i:=i.alloc (Uf b.lt) (.cells #[.int .i64 (bv s 1),.string (Av s),.string (At s),.string (Ao s)] 76);replace b:=b.alloc (.cells #[.int .i64 (bv s 1),.string (Av s),.string (At s),.string (Ao s)] 76);go_wp2_with fail;refine(MG l.out.1 _).mono ?_;rintro e L ⟨rfl,a⟩;replace i:=i.trans (a.mono (by simp;omega));replace b:=b.step a;replace d:=d.step a;clear a q;rw[l.out.2.2];rw[k];clear k;have t:=d.lt;have u:=d.c 0 _ rfl;have x:=d.c 1 _ rfl;have y:=d.c 2 _ rfl;have z:=d.c 3 _ rfl;go_wp2_with fail;refine(RX (bv s 1) (Av s) (At s) (Ao s) _ j.out.2.2 j.out.2.1).mono ?_;rintro e M ⟨rfl,a⟩;have q:=b.lt;replace i:=i.trans (a.mono (by omega));replace b:=b.step a;replace d:=d.step a;clear a q t u x y z;have t:=d.lt;have u:=d.c 0 _ rfl;have x:=d.c 1 _ rfl;have y:=d.c 2 _ rfl;have z:=d.c 3 _ rfl;rw[n];clear n;have A:=b.lt;have B:=b.c 0 _ rfl;have C:=b.c 1 _ rfl;have D:=b.c 2 _ rfl;have E:=b.c 3 _ rfl;have H:=b.f 0 _ rfl;have I:=b.f 1 _ rfl;have J:=b.f 2 _ rfl;have K:=b.f 3 _ rfl;go_wp2;exact bodyPost_ret (v:=.tuple #[.agg #[.int .i64 (bv s 1),.string (Av s),.string (At s),.string (Ao s)],.int .i64 0]) (by simp[results,Tryz.results24,go_sem,B,C,D,E]) rfl ⟨rfl,(((i.setCell (Nat.le_refl _) _).setCell (Nat.le_refl _) _).setCell (Nat.le_refl _) _).setCell (Nat.le_refl _) _⟩
end Go.Proofs.YtcnbifdlkalimabGreat
