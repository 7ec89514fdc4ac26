/- Lemmas; their conditions stand in each. -/
import Derived.Test.YtcnbifdlkalimabGreatRf2
namespace Go.Proofs.YtcnbifdlkalimabGreat
open Go.RowKit Go.Proofs.Tryz
set_option linter.all false
theorem Cg.drewN{w wr:World}{a:List Value}(h:Cg w wr a)(k:Nat):Cg w (wr.drewN k) a:=
 h.step (below_drewN (Qh _ _) k)
set_option maxHeartbeats 6400000
theorem Th(s u q vs r t:ZB)(n v0:Int)(w:World)(hs:s.size<=maxLen)(k1:2<=s.size)(k3:1<=n)(k4:n<=6)(ab:(v0 != 83)=false)
  (P:Kp (∃Z:1<(hd s 2).size,(((hd s 2)[0]'(Nat.zero_lt_of_lt Z)).toNat:Int)=v0∧(((hd s 2)[1]'Z).toNat:Int)=n))
  (hR:Kp ((tl s 2).size<=maxLen)) (h2:Kp (n*n<=(tl s 2).size)) (hF:Kp (hd (tl s 2) (n*n)=u∧tl (tl s 2) (n*n)=q)) (U:Kp (q.size<=maxLen)) (h3:Kp (DE q 1 8=true)) (hV:Kp (DA q 1=vs∧DK q 1=r))
  (V:Kp (r.size<=maxLen)) (h4:Kp (DE r 2 200=true)) (hC:Kp (DA r 2=t∧DK r 2={data:=#[]})) (ht:u.size<=maxLen) (Y:vs.size<=maxLen) (W:t.size<=maxLen) (T:Iv vs n=true) :
  Calls prog 147 #[.string s] w λe w'=>e=.returned (.tuple #[.agg #[.int .i64 n,.string u,.string vs,.string t,.int .i64 (half t)],.bool (Ap u==n)])∧Below w.heap.size w w':=by
 have O:Kp (∀i:Nat,i<vs.size->bv vs i<n):=⟨λi hi=>QB (Zb.1 T i hi)⟩
 clear T;have X:s.size<=maxLen:=hs;have R:vs.size<=maxLen:=Y;have S:t.size<=maxLen:=W;unfold maxLen at X R S;have a:=Cg.start w;have m0:=Fu _ k3 k4;have m1:0<=n*n:=QY (by omega) (by omega);go_in;go_wp2_with fail;refine(ZM s 2 _ hs (by omega) (by omega)).mono ?_;rintro e w1 ⟨rfl,d⟩;replace a:=a.step d;clear d;obtain⟨hb,e0,e1⟩:=P.o;clear P;generalize hd s 2=bg at *;have I:=a.o.lt;have J:=a.p.lt;have y:=a.o.c 0 _ rfl;have z:=a.o.c 1 _ rfl;have A:=a.o.c 2 _ rfl;have B:=a.o.c 3 _ rfl;have C:=a.o.c 4 _ rfl;have D:=a.o.f 0 _ rfl;have E:=a.o.f 1 _ rfl;have F:=a.o.f 2 _ rfl;have G:=a.o.f 3 _ rfl;have H:=a.o.f 4 _ rfl;have K:=a.p.c 0 _ rfl;have q:=a.p.c 1 _ rfl;have r:=a.p.c 2 _ rfl;have L:=a.p.c 3 _ rfl;have M:=a.p.c 4 _ rfl;have g:=a.p.f 0 _ rfl;have h:=a.p.f 1 _ rfl;have j:=a.p.f 2 _ rfl;have l:=a.p.f 3 _ rfl;have m:=a.p.f 4 _ rfl;go_wp2_with fail;replace a:Cg w _ [.int .i64 n,.string {data:=#[]},.string {data:=#[]},.string {data:=#[]},.int .i64 0]:=a.set 0 _ (.int .i64 n) rfl;clear I J y D K g z E q h A F r j B G L l C H M m;refine(ZM (tl s 2) (n*n) _ hR.o m1 h2.o).mono ?_;rintro e w2 ⟨rfl,d⟩;replace a:=a.step d;clear d;rw[hF.o.1,hF.o.2];have I:=a.o.lt;have J:=a.p.lt;have y:=a.o.c 0 _ rfl;have z:=a.o.c 1 _ rfl;have A:=a.o.c 2 _ rfl;have B:=a.o.c 3 _ rfl;have C:=a.o.c 4 _ rfl;have D:=a.o.f 0 _ rfl;have E:=a.o.f 1 _ rfl;have F:=a.o.f 2 _ rfl;have G:=a.o.f 3 _ rfl;have H:=a.o.f 4 _ rfl;have K:=a.p.c 0 _ rfl;have q:=a.p.c 1 _ rfl;have r:=a.p.c 2 _ rfl;have L:=a.p.c 3 _ rfl;have M:=a.p.c 4 _ rfl;have g:=a.p.f 0 _ rfl;have h:=a.p.f 1 _ rfl;have j:=a.p.f 2 _ rfl;have l:=a.p.f 3 _ rfl;have m:=a.p.f 4 _ rfl;go_wp2_with fail;clear I J y D K g z E q h A F r j B G L l C H M m;refine(IM q 1 8 _ U.o (by omega) (by omega) h3.o).mono ?_;rintro e w2 ⟨rfl,d⟩;replace a:=a.step d;clear d;rw[hV.o.1,hV.o.2];have I:=a.o.lt;have J:=a.p.lt;have y:=a.o.c 0 _ rfl;have z:=a.o.c 1 _ rfl;have A:=a.o.c 2 _ rfl;have B:=a.o.c 3 _ rfl;have C:=a.o.c 4 _ rfl;have D:=a.o.f 0 _ rfl;have E:=a.o.f 1 _ rfl;have F:=a.o.f 2 _ rfl;have G:=a.o.f 3 _ rfl;have H:=a.o.f 4 _ rfl;have K:=a.p.c 0 _ rfl;have q:=a.p.c 1 _ rfl;have r:=a.p.c 2 _ rfl;have L:=a.p.c 3 _ rfl;have M:=a.p.c 4 _ rfl;have g:=a.p.f 0 _ rfl;have h:=a.p.f 1 _ rfl;have j:=a.p.f 2 _ rfl;have l:=a.p.f 3 _ rfl;have m:=a.p.f 4 _ rfl;go_wp2_with fail;clear I J y D K g z E q h A F r j B G L l C H M m;refine(IM r 2 200 _ V.o (by omega) (by omega) h4.o).mono ?_;rintro e w2 ⟨rfl,d⟩;replace a:=a.step d;clear d;rw[hC.o.1,hC.o.2];have I:=a.o.lt;have J:=a.p.lt;have y:=a.o.c 0 _ rfl;have z:=a.o.c 1 _ rfl;have A:=a.o.c 2 _ rfl;have B:=a.o.c 3 _ rfl;have C:=a.o.c 4 _ rfl;have D:=a.o.f 0 _ rfl;have E:=a.o.f 1 _ rfl;have F:=a.o.f 2 _ rfl;have G:=a.o.f 3 _ rfl;have H:=a.o.f 4 _ rfl;have K:=a.p.c 0 _ rfl;have q:=a.p.c 1 _ rfl;have r:=a.p.c 2 _ rfl;have L:=a.p.c 3 _ rfl;have M:=a.p.c 4 _ rfl;have g:=a.p.f 0 _ rfl;have h:=a.p.f 1 _ rfl;have j:=a.p.f 2 _ rfl;have l:=a.p.f 3 _ rfl;have m:=a.p.f 4 _ rfl;go_wp2_with fail;clear I J y D K g z E q h A F r j B G L l C H M m;replace a:Cg w _ [.int .i64 n,.string u,.string {data:=#[]},.string {data:=#[]},.int .i64 0]:=a.set 1 _ (.string u) rfl;replace a:Cg w _ [.int .i64 n,.string u,.string vs,.string {data:=#[]},.int .i64 0]:=a.set 2 _ (.string vs) rfl;replace a:Cg w _ [.int .i64 n,.string u,.string vs,.string t,.int .i64 0]:=a.set 3 _ (.string t) rfl;replace a:Cg w _ [.int .i64 n,.string u,.string vs,.string t,.int .i64 (half t)]:=a.set 4 _ (.int .i64 (half t)) rfl;go_loopw [11] (λc wr=>∃k:Nat,k<=vs.size∧c=.int .i64 k∧Cg w wr [.int .i64 n,.string u,.string vs,.string t,.int .i64 (half t)]) (λc _=>vs.size-(intOf c).toNat);case atStart=>exact⟨0,by omega,rfl,a⟩
 case round=>
  clear a;obtain⟨k,hk,rfl,a⟩:=hrel;have I:=a.o.lt;have J:=a.p.lt;have y:=a.o.c 0 _ rfl;have z:=a.o.c 1 _ rfl;have A:=a.o.c 2 _ rfl;have B:=a.o.c 3 _ rfl;have C:=a.o.c 4 _ rfl;have D:=a.o.f 0 _ rfl;have E:=a.o.f 1 _ rfl;have F:=a.o.f 2 _ rfl;have G:=a.o.f 3 _ rfl;have H:=a.o.f 4 _ rfl;have K:=a.p.c 0 _ rfl;have q:=a.p.c 1 _ rfl;have r:=a.p.c 2 _ rfl;have L:=a.p.c 3 _ rfl;have M:=a.p.c 4 _ rfl;have g:=a.p.f 0 _ rfl;have h:=a.p.f 1 _ rfl;have j:=a.p.f 2 _ rfl;have l:=a.p.f 3 _ rfl;have m:=a.p.f 4 _ rfl;by_cases Q:k<vs.size
  ·have hg:=O.o k Q;have e2:=ZJ vs k Q;obtain⟨c0,c1⟩:=Zx vs k;have aa:(k:Int)<(vs.size:Int):=by omega
   generalize bv vs k=x at *;go_wp2;go_quiet (fail);go_wp2;go_roundw;case rel=>exact⟨k+1,by omega,by go_num,a.drewN _⟩
   case measure=>simp[intOf];omega
  ·go_wp2_with fail;refine(Tb u _ ht).mono ?_;rintro e w9 ⟨rfl,rfl⟩;generalize N:Ap u=tn;replace N:=Z_ N;go_wp2_with fail;go_region;go_wp2;exact bodyPost_ret (v:=.tuple #[.agg #[.int .i64 n,.string u,.string vs,.string t,.int .i64 (half t)],.bool (tn==n)]) (by simp[results,Tryz.results147,go_sem,y,z,A,B,C]) rfl ⟨by rw[N.o],(((((a.b.setCell (Nat.le_refl _) _).setCell (Nat.le_refl _) _).setCell (Nat.le_refl _) _).setCell (Nat.le_refl _) _).setCell (Nat.le_refl _) _).drew⟩
theorem WH(s E q vs r t:ZB)(n v0:Int)(w:World)(hs:s.size<=maxLen)(k1:2<=s.size)(k3:1<=n)(k4:n<=6)(ad:(v0 != 83)=false)
  (Q:Kp (∃h1:1<(hd s 2).size,(((hd s 2)[0]'(Nat.zero_lt_of_lt h1)).toNat:Int)=v0∧(((hd s 2)[1]'h1).toNat:Int)=n))
  (hR:Kp ((tl s 2).size<=maxLen)) (h2:Kp (n*n<=(tl s 2).size)) (hF:Kp (hd (tl s 2) (n*n)=E∧tl (tl s 2) (n*n)=q)) (V:Kp (q.size<=maxLen)) (h3:Kp (DE q 1 8=true)) (hV:Kp (DA q 1=vs∧DK q 1=r))
  (W:Kp (r.size<=maxLen)) (h4:Kp (DE r 2 200=true)) (hC:Kp (DA r 2=t∧DK r 2={data:=#[]})) (ht:E.size<=maxLen) (aa:vs.size<=maxLen) (X:t.size<=maxLen) (y:Iv vs n=false) :
  Calls prog 147 #[.string s] w λe w'=>Jo e∧Below w.heap.size w w':=by
 have u:Kp (¬∀i:Nat,i<vs.size->bv vs i<n):=⟨λu=>by
  unfold Iv at y;rw[Zb.2 (λi R=>Qv (u i R))]at y;exact absurd y (by simp)⟩
 clear y;have Z:s.size<=maxLen:=hs;have T:vs.size<=maxLen:=aa;have U:t.size<=maxLen:=X;unfold maxLen at Z T U;have a:=Cg.start w;have m0:=Fu _ k3 k4;have m1:0<=n*n:=QY (by omega) (by omega);go_in;go_wp2_with fail;refine(ZM s 2 _ hs (by omega) (by omega)).mono ?_;rintro e w1 ⟨rfl,d⟩;replace a:=a.step d;clear d;obtain⟨hb,e0,e1⟩:=Q.o;clear Q;generalize hd s 2=bg at *;have K:=a.o.lt;have L:=a.p.lt;have z:=a.o.c 0 _ rfl;have A:=a.o.c 1 _ rfl;have B:=a.o.c 2 _ rfl;have C:=a.o.c 3 _ rfl;have D:=a.o.c 4 _ rfl;have F:=a.o.f 0 _ rfl;have G:=a.o.f 1 _ rfl;have H:=a.o.f 2 _ rfl;have I:=a.o.f 3 _ rfl;have J:=a.o.f 4 _ rfl;have M:=a.p.c 0 _ rfl;have q:=a.p.c 1 _ rfl;have r:=a.p.c 2 _ rfl;have N:=a.p.c 3 _ rfl;have O:=a.p.c 4 _ rfl;have g:=a.p.f 0 _ rfl;have h:=a.p.f 1 _ rfl;have j:=a.p.f 2 _ rfl;have l:=a.p.f 3 _ rfl;have m:=a.p.f 4 _ rfl;go_wp2_with fail;replace a:Cg w _ [.int .i64 n,.string {data:=#[]},.string {data:=#[]},.string {data:=#[]},.int .i64 0]:=a.set 0 _ (.int .i64 n) rfl;clear K L z F M g A G q h B H r j C I N l D J O m;refine(ZM (tl s 2) (n*n) _ hR.o m1 h2.o).mono ?_;rintro e w2 ⟨rfl,d⟩;replace a:=a.step d;clear d;rw[hF.o.1,hF.o.2];have K:=a.o.lt;have L:=a.p.lt;have z:=a.o.c 0 _ rfl;have A:=a.o.c 1 _ rfl;have B:=a.o.c 2 _ rfl;have C:=a.o.c 3 _ rfl;have D:=a.o.c 4 _ rfl;have F:=a.o.f 0 _ rfl;have G:=a.o.f 1 _ rfl;have H:=a.o.f 2 _ rfl;have I:=a.o.f 3 _ rfl;have J:=a.o.f 4 _ rfl;have M:=a.p.c 0 _ rfl;have q:=a.p.c 1 _ rfl;have r:=a.p.c 2 _ rfl;have N:=a.p.c 3 _ rfl;have O:=a.p.c 4 _ rfl;have g:=a.p.f 0 _ rfl;have h:=a.p.f 1 _ rfl;have j:=a.p.f 2 _ rfl;have l:=a.p.f 3 _ rfl;have m:=a.p.f 4 _ rfl;go_wp2_with fail;clear K L z F M g A G q h B H r j C I N l D J O m;refine(IM q 1 8 _ V.o (by omega) (by omega) h3.o).mono ?_;rintro e w2 ⟨rfl,d⟩;replace a:=a.step d;clear d;rw[hV.o.1,hV.o.2];have K:=a.o.lt;have L:=a.p.lt;have z:=a.o.c 0 _ rfl;have A:=a.o.c 1 _ rfl;have B:=a.o.c 2 _ rfl;have C:=a.o.c 3 _ rfl;have D:=a.o.c 4 _ rfl;have F:=a.o.f 0 _ rfl;have G:=a.o.f 1 _ rfl;have H:=a.o.f 2 _ rfl;have I:=a.o.f 3 _ rfl;have J:=a.o.f 4 _ rfl;have M:=a.p.c 0 _ rfl;have q:=a.p.c 1 _ rfl;have r:=a.p.c 2 _ rfl;have N:=a.p.c 3 _ rfl;have O:=a.p.c 4 _ rfl;have g:=a.p.f 0 _ rfl;have h:=a.p.f 1 _ rfl;have j:=a.p.f 2 _ rfl;have l:=a.p.f 3 _ rfl;have m:=a.p.f 4 _ rfl;go_wp2_with fail;clear K L z F M g A G q h B H r j C I N l D J O m;refine(IM r 2 200 _ W.o (by omega) (by omega) h4.o).mono ?_;rintro e w2 ⟨rfl,d⟩;replace a:=a.step d;clear d;rw[hC.o.1,hC.o.2];have K:=a.o.lt;have L:=a.p.lt;have z:=a.o.c 0 _ rfl;have A:=a.o.c 1 _ rfl;have B:=a.o.c 2 _ rfl;have C:=a.o.c 3 _ rfl;have D:=a.o.c 4 _ rfl;have F:=a.o.f 0 _ rfl;have G:=a.o.f 1 _ rfl;have H:=a.o.f 2 _ rfl;have I:=a.o.f 3 _ rfl;have J:=a.o.f 4 _ rfl;have M:=a.p.c 0 _ rfl;have q:=a.p.c 1 _ rfl;have r:=a.p.c 2 _ rfl;have N:=a.p.c 3 _ rfl;have O:=a.p.c 4 _ rfl;have g:=a.p.f 0 _ rfl;have h:=a.p.f 1 _ rfl;have j:=a.p.f 2 _ rfl;have l:=a.p.f 3 _ rfl;have m:=a.p.f 4 _ rfl;go_wp2_with fail;clear K L z F M g A G q h B H r j C I N l D J O m;replace a:Cg w _ [.int .i64 n,.string E,.string {data:=#[]},.string {data:=#[]},.int .i64 0]:=a.set 1 _ (.string E) rfl;replace a:Cg w _ [.int .i64 n,.string E,.string vs,.string {data:=#[]},.int .i64 0]:=a.set 2 _ (.string vs) rfl;replace a:Cg w _ [.int .i64 n,.string E,.string vs,.string t,.int .i64 0]:=a.set 3 _ (.string t) rfl;replace a:Cg w _ [.int .i64 n,.string E,.string vs,.string t,.int .i64 (half t)]:=a.set 4 _ (.int .i64 (half t)) rfl;go_loopw [11] (λc wr=>∃k:Nat,k<=vs.size∧c=.int .i64 k∧Kp (∀i:Nat,i<k->bv vs i<n)∧Cg w wr [.int .i64 n,.string E,.string vs,.string t,.int .i64 (half t)]) (λc _=>vs.size-(intOf c).toNat);case atStart=>exact⟨0,by omega,rfl,⟨λi R=>absurd R (by omega)⟩,a⟩
 case round=>
  clear a;obtain⟨k,hk,rfl,S,a⟩:=hrel;have K:=a.o.lt;have L:=a.p.lt;have z:=a.o.c 0 _ rfl;have A:=a.o.c 1 _ rfl;have B:=a.o.c 2 _ rfl;have C:=a.o.c 3 _ rfl;have D:=a.o.c 4 _ rfl;have F:=a.o.f 0 _ rfl;have G:=a.o.f 1 _ rfl;have H:=a.o.f 2 _ rfl;have I:=a.o.f 3 _ rfl;have J:=a.o.f 4 _ rfl;have M:=a.p.c 0 _ rfl;have q:=a.p.c 1 _ rfl;have r:=a.p.c 2 _ rfl;have N:=a.p.c 3 _ rfl;have O:=a.p.c 4 _ rfl;have g:=a.p.f 0 _ rfl;have h:=a.p.f 1 _ rfl;have j:=a.p.f 2 _ rfl;have l:=a.p.f 3 _ rfl;have m:=a.p.f 4 _ rfl;by_cases Y:k<vs.size
  ·have e2:=ZJ vs k Y;obtain⟨c0,c1⟩:=Zx vs k;have ab:(k:Int)<(vs.size:Int):=by omega
   by_cases hg:bv vs k<n
   ·have P:Kp (∀i:Nat,i<k+1->bv vs i<n):=⟨by
     intro i R;by_cases e:i=k
     ·rw[e];exact hg
     ·exact S.o i (by omega)⟩
    generalize bv vs k=x at *;go_wp2;go_quiet (fail);go_wp2;go_roundw;case rel=>exact⟨k+1,by omega,by go_num,P,a.drewN _⟩
    case measure=>simp[intOf];omega
   ·generalize bv vs k=x at *;go_wp2;go_quiet (fail);go_wp2;exact bodyPost_ret (v:=.tuple #[.agg #[.int .i64 n,.string E,.string vs,.string t,.int .i64 (half t)],.bool false]) (by simp[results,Tryz.results147,go_sem,z,A,B,C,D]) rfl ⟨⟨_,_,_,_,_,rfl⟩,((((((below_drewN a.b _).setCell (Nat.le_refl _) _).setCell (Nat.le_refl _) _).setCell (Nat.le_refl _) _).setCell (Nat.le_refl _) _).setCell (Nat.le_refl _) _)⟩
  ·exact absurd (λi R=>S.o i (by omega)) u.o
theorem Pa(s:ZB)(w:World)(f:s.size<=maxLen)(h:DV s=true) :
  Calls prog 147 #[.string s] w λe t=>e=.returned (.tuple #[.agg #[.int .i64 (bv s 1),.string (Av s),.string (At s),.string (Ao s),.int .i64 (half (Ao s))],.bool true])∧Below w.heap.size w t:=by
 unfold DV at h;rw[Qr,Qr,Qr]at h;obtain⟨c,d,l,m⟩:=h;have n:=(Lc c).2.1;unfold EA at c;rw[Qr,Qr]at c;obtain⟨j,k,u⟩:=c;unfold Ff at d;rw[Qr]at d;obtain⟨i,p,q,r⟩:=Gj j;have a:(BT s).size<=maxLen:=Qg (Zy _ _) (Qg (Zy _ _) f);have b:(Ck s).size<=maxLen:=Qg (Zy _ _) (Qg (Zy _ _) a);have g:DK (Ck s) 2={data:=#[]}:=ByteArray.ext (Array.eq_empty_of_size_eq_zero (QB m));refine(Th s (Av s) (BT s) (At s) (Ck s) (Ao s) (bv s 1) (bv s 0) w f i q r (by rw[p];rfl) ⟨GQ i⟩ ⟨Qg (Zy s 2) f⟩ ⟨QB k⟩ ⟨⟨rfl,rfl⟩⟩ ⟨a⟩ ⟨d.1⟩ ⟨⟨rfl,rfl⟩⟩ ⟨b⟩ ⟨l⟩ ⟨⟨rfl,g⟩⟩
  (Qg (D9 _ _) (Qg (Zy _ _) f)) (Qg (D9 _ _) (Qg (Zy _ _) a)) (Qg (D9 _ _) (Qg (Zy _ _) b)) d.2).mono ?_
 rintro e v ⟨rfl,o⟩;refine⟨?_,o⟩;rw[n];simp
theorem Zsu(s:ZB)(w:World)(a:s.size<=maxLen)(h:DV s=false) :
  Calls prog 147 #[.string s] w λe v=>Jo e∧Below w.heap.size w v:=by
 cases d:GA s with
 | false=>exact Zpv s w a d
 | true=>
  by_cases f:bv s 1*bv s 1<=(tl s 2).size
  ·cases g:DE (BT s) 1 8 with
   | false=>exact Zpw s w a d f g
   | true=>
    cases j:DE (Ck s) 2 200 with
    | false=>exact Zpx s w a d f g j
    | true=>
     by_cases m:(GG s).size=0
     ·obtain⟨l,q,r,t⟩:=Gj d;have b:(BT s).size<=maxLen:=Qg (Zy _ _) (Qg (Zy _ _) a);have c:(Ck s).size<=maxLen:=Qg (Zy _ _) (Qg (Zy _ _) b);have i:DK (Ck s) 2={data:=#[]}:=ByteArray.ext (Array.eq_empty_of_size_eq_zero m);cases n:Iv (At s) (bv s 1) with
      | false=>
       exact WH s (Av s) (BT s) (At s) (Ck s) (Ao s) (bv s 1) (bv s 0) w a l r t (by rw[q];rfl) ⟨GQ l⟩ ⟨Qg (Zy s 2) a⟩ ⟨f⟩ ⟨⟨rfl,rfl⟩⟩ ⟨b⟩ ⟨g⟩ ⟨⟨rfl,rfl⟩⟩ ⟨c⟩ ⟨j⟩ ⟨⟨rfl,i⟩⟩
        (Qg (D9 _ _) (Qg (Zy _ _) a)) (Qg (D9 _ _) (Qg (Zy _ _) b)) (Qg (D9 _ _) (Qg (Zy _ _) c)) n
      | true=>
       have k:Dn (Av s)=false:=by
        cases k:Dn (Av s) with
        | false=>rfl
        | true=>unfold DV EA Ff at h;have o:Iv (DA (BT s) 1) (bv s 1)=true:=n;rw[d,Qv f,k,g,o,j,Qv m]at h;exact absurd h (by decide)
       have p:=Np d f;rw[k]at p;refine(Th s (Av s) (BT s) (At s) (Ck s) (Ao s) (bv s 1) (bv s 0) w a l r t (by rw[q];rfl) ⟨GQ l⟩ ⟨Qg (Zy s 2) a⟩ ⟨f⟩ ⟨⟨rfl,rfl⟩⟩ ⟨b⟩ ⟨g⟩ ⟨⟨rfl,rfl⟩⟩ ⟨c⟩ ⟨j⟩ ⟨⟨rfl,i⟩⟩
        (Qg (D9 _ _) (Qg (Zy _ _) a)) (Qg (D9 _ _) (Qg (Zy _ _) b)) (Qg (D9 _ _) (Qg (Zy _ _) c)) n).mono ?_
       rintro e x ⟨rfl,k⟩;refine⟨⟨bv s 1,half (Ao s),Av s,At s,Ao s,?_⟩,k⟩;have u:(Ap (Av s)==bv s 1)=false:=by rw[p,Qf];show (0:Int)≠_;omega
       rw[u]
     ·exact Zpy s w a d f g j m
  ·exact Ys s w a d (by omega)
end Go.Proofs.YtcnbifdlkalimabGreat
