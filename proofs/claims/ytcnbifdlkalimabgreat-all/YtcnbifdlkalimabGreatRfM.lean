/- Lemmas; their conditions stand in each. -/
import Derived.Test.YtcnbifdlkalimabGreatPrgM
import Derived.Deep.RegionHeld3
namespace Go.Proofs.YtcnbifdlkalimabGreat
open Go.RowKit Go.Proofs.Tryz
set_option linter.all false
set_option maxHeartbeats 6400000
theorem ZM(s:ZB)(n:Int)(w:World)(a:s.size<=maxLen)(c:0<=n)(h:n<=s.size) :
  Calls prog 200 #[.string s,.int .i64 n] w λe b=>e=.returned (.tuple #[.string (hd s n),.string (tl s n),.bool true])∧Below w.heap.size w b:=by
 unfold maxLen at a;go_in;go_wp2;go_quiet (fail);go_wp2;go_ret3;exact⟨rfl,below_drewN (Qh _ _) _⟩
theorem MQ(s:ZB)(n:Int)(w:World)(a:s.size<=maxLen)(c:0<=n)(h:s.size<n) :
  Calls prog 200 #[.string s,.int .i64 n] w λe b=>e=.returned (.tuple #[.string {data:=#[]},.string {data:=#[]},.bool false])∧Below w.heap.size w b:=by
 unfold maxLen at a;go_in;go_wp2;go_ret3;exact⟨rfl,Qh _ _⟩
theorem IM(s:ZB)(a b:Int)(w:World)(m:s.size<=maxLen)(i:0<=a)(p:a<=2)(h:DE s a b=true) :
  Calls prog 201 #[.string s,.int .i64 a,.int .i64 b] w λe o=>e=.returned (.tuple #[.string (DA s a),.string (DK s a),.bool true])∧Below w.heap.size w o:=by
 obtain⟨r,t,l⟩:=LU h;have d:0<(hd s 1).size:=by have:=JY (s:=s) (n:=1) (by omega) (by omega);omega
 have q:(((hd s 1)[0]'d).toNat:Int)=bv s 0:=(ZJ (hd s 1) 0 (by omega)).trans (Nw 0 (by omega) (by omega));obtain⟨j,k⟩:=Zx s 0;have u:=Zy s 1;go_in;go_wp2_with fail;refine(ZM s 1 _ m (by omega) (by omega)).mono ?_;rintro e z ⟨rfl,c⟩;have f:Hid (DA s a=hd (tl s 1) (a*bv s 0)∧DK s a=tl (tl s 1) (a*bv s 0)):=⟨rfl,rfl⟩
 generalize bv s 0=v at *;have x:0<=v*a:=QY j i;have y:v*a<=510:=Int.le_trans (Int.mul_le_mul k p i (by omega)) (by omega);rw[Int.mul_comm a v]at l;rw[Int.mul_comm a v]at f;go_wp2_with fail;refine(ZM (tl s 1) (v*a) _ (by omega) (by omega) (by omega)).mono ?_;rintro e A ⟨rfl,g⟩;go_wp2;go_ret3;rw[f.out.1,f.out.2];exact⟨rfl,c.trans (g.mono c.size)⟩
theorem Rw(s:ZB)(c b:Int)(w:World)(i:s.size<=maxLen)(k:0<=c)(t:c<=2)(h:DE s c b=false) :
  Calls prog 201 #[.string s,.int .i64 c,.int .i64 b] w λe r=>e=.returned (.tuple #[.string {data:=#[]},.string {data:=#[]},.bool false])∧Below w.heap.size w r:=by
 obtain⟨l,m⟩:=Zx s 0;have x:=Zy s 1;rcases Vq h with f|f
 ·go_in;go_wp2_with fail;refine(MQ s 1 _ i (by omega) (by omega)).mono ?_;rintro e j ⟨rfl,a⟩;go_wp2;go_ret3;exact⟨rfl,a⟩
 ·have o:1<=s.size:=by omega
  have d:0<(hd s 1).size:=by have:=JY (s:=s) (n:=1) (by omega) (by omega);omega
  have u:(((hd s 1)[0]'d).toNat:Int)=bv s 0:=(ZJ (hd s 1) 0 (by omega)).trans (Nw 0 (by omega) (by omega));have y:0<=bv s 0*c:=QY l k;have z:bv s 0*c<=510:=Int.le_trans (Int.mul_le_mul m t k (by omega)) (by omega);rcases f with ⟨f,p⟩|⟨f,p,q⟩
  ·generalize bv s 0=v at *;go_in;go_wp2_with fail;refine(ZM s 1 _ i (by omega) (by omega)).mono ?_;rintro e j ⟨rfl,a⟩;go_wp2;go_ret3;exact⟨rfl,a⟩
  ·rw[Int.mul_comm c]at q;generalize bv s 0=v at *;go_in;go_wp2_with fail;refine(ZM s 1 _ i (by omega) (by omega)).mono ?_;rintro e j ⟨rfl,a⟩;go_wp2_with fail;refine(MQ (tl s 1) (v*c) _ (by omega) (by omega) (by omega)).mono ?_;rintro e A ⟨rfl,g⟩;go_wp2;go_ret3;exact⟨rfl,a.trans (g.mono a.size)⟩
theorem SY(n:Int)(t v c:ZB)(w:World)(p:c.size<=maxLen)(q:v.size<=maxLen) :
  Calls prog 136 #[.agg #[.int .i64 n,.string t,.string v,.string c]] w λe b=>e=.returned (.agg #[.int .i64 n,.int .i64 v.size,.int .i64 (half c)])∧Below w.heap.size w b:=by
 have d:v.size<=maxLen:=q;unfold maxLen at d;go_in;go_wp2_with fail;have O:=(AF.new4 w (.int .i64 n) (.string t) (.string v) (.string c) 76).alloc (.cells #[.int .i64 0,.int .i64 0,.int .i64 0] 165);have R:=AF.new3 (w.alloc (.cells #[.int .i64 n,.string t,.string v,.string c] 76)) (.int .i64 0) (.int .i64 0) (.int .i64 0) 165;have B:=((Qh w.heap.size w).alloc (Qb _) (.cells #[.int .i64 n,.string t,.string v,.string c] 76)).alloc (by simp) (.cells #[.int .i64 0,.int .i64 0,.int .i64 0] 165);rw[show (w.alloc (.cells #[.int .i64 n,.string t,.string v,.string c] 76)).heap.size=w.heap.size+1 by simp]at R;generalize (w.alloc (.cells #[.int .i64 n,.string t,.string v,.string c] 76)).alloc (.cells #[.int .i64 0,.int .i64 0,.int .i64 0] 165)=W at O R B ⊢;have g:=O.c 0 _ rfl;have h:=O.c 1 _ rfl;have i:=O.c 2 _ rfl;have j:=O.c 3 _ rfl;go_region_held3 (λb=>b.cell? ⟨w.heap.size,0,none⟩=some (.int .i64 n)∧b.cell? ⟨w.heap.size,1,none⟩=some (.string t)∧b.cell? ⟨w.heap.size,2,none⟩=some (.string v)∧b.cell? ⟨w.heap.size,3,none⟩=some (.string c)) (go_keep) ((go_at_call 68;refine(ZY n t v c _ p).mono ?_;rintro e x ⟨rfl,a⟩;replace a:=(Qh _ _).drew.trans a;replace O:=O.step a;replace R:=R.step a;replace B:=B.trans (a.mono B.size);clear a g h i j;have g:=O.c 0 _ rfl;have h:=O.c 1 _ rfl;have i:=O.c 2 _ rfl;have j:=O.c 3 _ rfl;have l:=R.lt;have k:=R.c 0 _ rfl;have m:=R.c 1 _ rfl;have o:=R.c 2 _ rfl;have r:=R.f 0 _ rfl;have s:=R.f 1 _ rfl;have u:=R.f 2 _ rfl));go_wp2;exact bodyPost_ret (v:=.agg #[.int .i64 n,.int .i64 v.size,.int .i64 (half c)]) (by simp[results,Tryz.results136,go_sem,k,m,o]) rfl ⟨rfl,((B.setCell (by simp) _).setCell (by simp) _).setCell (by simp) _⟩
theorem Zq1(s:ZB)(w:World)(k:s.size<=maxLen)(h:AN s≠0) :
  Calls prog 83 #[.string s] w λe p=>e=.returned (.tuple #[.agg #[.int .i64 0,.int .i64 0,.int .i64 0],.int .i64 (AN s)])∧Below w.heap.size w p:=by
 have a:=AF.new3 w (.int .i64 0) (.int .i64 0) (.int .i64 0) 165;have d:Below w.heap.size w (w.alloc (.cells #[.int .i64 0,.int .i64 0,.int .i64 0] 165)):=(Qh _ _).alloc (Qb _) _;have j:(AN s != 0)=true:=QO.2 h;replace h:=Z_ h;generalize g:AN s=i at j ⊢;replace g:=Z_ g;go_in;go_wp2_with fail;refine(Oi s _ k h.out).mono ?_;rintro e u ⟨rfl,b⟩;rw[g.out];replace d:=d.trans (b.mono (by simp));replace a:=a.step b;clear b h;have l:=a.lt;have m:=a.c 0 _ rfl;have n:=a.c 1 _ rfl;have o:=a.c 2 _ rfl;have q:=a.f 0 _ rfl;have r:=a.f 1 _ rfl;have t:=a.f 2 _ rfl;go_wp2;exact bodyPost_ret (v:=.tuple #[.agg #[.int .i64 0,.int .i64 0,.int .i64 0],.int .i64 i]) (by simp[results,Tryz.results83,go_sem,l,m,n,o]) rfl ⟨rfl,(((d.setCell (Nat.le_refl _) _).setCell (Nat.le_refl _) _).setCell (Nat.le_refl _) _).alloc (by simp;omega) _⟩
theorem ZoT(s:ZB)(w:World)(i:s.size<=maxLen)(h:AN s=0) :
  Calls prog 83 #[.string s] w λe n=>e=.returned (.tuple #[.agg #[.int .i64 (bv s 1),.int .i64 (At s).size,.int .i64 (half (Ao s))],.int .i64 0])∧Below w.heap.size w n:=by
 have d:=MB i;have d:Kp _:=⟨d⟩
 have b:=AF.new3 w (.int .i64 0) (.int .i64 0) (.int .i64 0) 165;have g:Below w.heap.size w (w.alloc (.cells #[.int .i64 0,.int .i64 0,.int .i64 0] 165)):=(Qh _ _).alloc (Qb _) _;replace h:=Z_ h;go_in;go_wp2_with fail;refine(N9 s _ i h.out).mono ?_;rintro e r ⟨rfl,a⟩;replace g:=g.trans (a.mono (by simp));replace b:=b.step a;clear a h;have j:=b.lt;replace g:=g.alloc (Uf b.lt) (.cells #[.int .i64 (bv s 1),.string (Av s),.string (At s),.string (Ao s)] 76);replace b:=b.alloc (.cells #[.int .i64 (bv s 1),.string (Av s),.string (At s),.string (Ao s)] 76);go_wp2_with fail;refine(SY (bv s 1) (Av s) (At s) (Ao s) _ d.out.2.2 d.out.2.1).mono ?_;rintro e t ⟨rfl,a⟩;replace g:=g.trans (a.mono (by simp;omega));replace b:=b.step a;clear a j;have j:=b.lt;have k:=b.c 0 _ rfl;have l:=b.c 1 _ rfl;have m:=b.c 2 _ rfl;have o:=b.f 0 _ rfl;have p:=b.f 1 _ rfl;have q:=b.f 2 _ rfl;go_wp2;exact bodyPost_ret (v:=.tuple #[.agg #[.int .i64 (bv s 1),.int .i64 (At s).size,.int .i64 (half (Ao s))],.int .i64 0]) (by simp[results,Tryz.results83,go_sem,k,l,m]) rfl ⟨rfl,((g.setCell (Nat.le_refl _) _).setCell (Nat.le_refl _) _).setCell (Nat.le_refl _) _⟩
theorem FL(n i:Int)(t v c:ZB)(w:World)(a:c.size<=maxLen)(k:0<=i)(m:i<half c) :
  Calls prog 149 #[.agg #[.int .i64 n,.string t,.string v,.string c,.int .i64 (half c)],.int .i64 i] w λe b=>e=.returned (.int .i64 (bv c (2*i)))∧Below w.heap.size w b:=by
 unfold maxLen at a;have l:=Zn c;have g:((c[(2*i).toNat]'(by omega)).toNat:Int)=bv c (2*i):=Ir c (2*i) (by omega);obtain⟨d,f⟩:=Zx c (2*i);generalize bv c (2*i)=x at *;have h:2*i<c.size:=by omega
 have j:0<=2*i:=by omega
 go_in;go_wp2;go_ret;exact⟨rfl,(Qh _ _).alloc (Qb _) _⟩
theorem GL(n i:Int)(t v c:ZB)(w:World)(a:c.size<=maxLen)(k:0<=i)(m:i<half c) :
  Calls prog 148 #[.agg #[.int .i64 n,.string t,.string v,.string c,.int .i64 (half c)],.int .i64 i] w λe b=>e=.returned (.int .i64 (bv c (2*i+1)))∧Below w.heap.size w b:=by
 unfold maxLen at a;have l:=Zn c;have g:((c[(2*i+1).toNat]'(by omega)).toNat:Int)=bv c (2*i+1):=Ir c (2*i+1) (by omega);obtain⟨d,f⟩:=Zx c (2*i+1);generalize bv c (2*i+1)=x at *;have h:2*i+1<c.size:=by omega
 have j:0<=2*i:=by omega
 go_in;go_wp2;go_ret;exact⟨rfl,(Qh _ _).alloc (Qb _) _⟩
def Cn(nv k n op:Int):Int:=if op=0 then 256 else if op=1∨op=2 then nv else if op=8∨op=9 then k+1 else if op=10∨op=11 then n else 1
theorem SZ{c k n op a:Int}(f:0<=op)(g:0<=a)(e:a<=255):CS c k n op a=(!(decide (11<op))&&!(decide (Cn c k n op<=a))):=by
 rw[QM];unfold CS Cn;simp only[decide_eq_true_eq,Qr,Bool.not_eq_true',decide_eq_false_iff_not];by_cases d:11<op
 ·constructor
  ·intro h;omega
  ·intro h;omega
 ·have b:op=0∨op=1∨op=2∨op=3∨op=4∨op=5∨op=6∨op=7∨op=8∨op=9∨op=10∨op=11:=by omega
  rcases b with rfl|rfl|rfl|rfl|rfl|rfl|rfl|rfl|rfl|rfl|rfl|rfl<;>simp<;>omega
theorem Rx(n i:Int)(t v c:ZB)(w:World)(k:c.size<=maxLen)(p:v.size<=maxLen)(l:0<=i)(m:i<half c) :
  Calls prog 150 #[.agg #[.int .i64 n,.string t,.string v,.string c,.int .i64 (half c)],.int .i64 i] w λe q=>e=.returned (.int .i64 (Cn v.size (half c) n (bv c (2*i))))∧Below w.heap.size w q:=by
 have j:v.size<=maxLen:=p;have d:c.size<=maxLen:=k;unfold maxLen at j d;have z:=Zn c;have b:=AF.new5 w (.int .i64 n) (.string t) (.string v) (.string c) (.int .i64 (half c)) 169;have f:Below w.heap.size w (w.alloc (.cells #[.int .i64 n,.string t,.string v,.string c,.int .i64 (half c)] 169)):=(Qh _ _).alloc (Qb _) _;go_in;go_wp2_with fail;refine(FL n i t v c _ k l m).mono ?_;rintro e E ⟨rfl,a⟩;replace f:=f.trans (a.mono (by simp));replace b:=b.step a;clear a;have A:=b.lt;have B:=b.c 0 _ rfl;have C:=b.c 2 _ rfl;have D:=b.c 4 _ rfl;obtain⟨u,y⟩:=Zx c (2*i);generalize g:bv c (2*i)=x at *;replace g:=Z_ g;by_cases o:x<=11
 ·have h:x=0∨x=1∨x=2∨x=3∨x=4∨x=5∨x=6∨x=7∨x=8∨x=9∨x=10∨x=11:=by omega
  rcases h with rfl|rfl|rfl|rfl|rfl|rfl|rfl|rfl|rfl|rfl|rfl|rfl<;>go_wp2<;>go_ret<;>exact⟨ZG (by rw[g.out];rfl),f⟩
 ·have hd:Kp (Cn v.size (half c) n x=1):=⟨by unfold Cn;rw[if_neg (by omega),if_neg (by omega),if_neg (by omega),if_neg (by omega)]⟩
  have F:(x==0)=false:=Qf.2 (by omega);have G:(x==1)=false:=Qf.2 (by omega);have H:(x==2)=false:=Qf.2 (by omega);have I:(x==3)=false:=Qf.2 (by omega);have J:(x==4)=false:=Qf.2 (by omega);have K:(x==5)=false:=Qf.2 (by omega);have L:(x==6)=false:=Qf.2 (by omega);have M:(x==7)=false:=Qf.2 (by omega);have N:(x==8)=false:=Qf.2 (by omega);have O:(x==9)=false:=Qf.2 (by omega);have r:(x==10)=false:=Qf.2 (by omega);have s:(x==11)=false:=Qf.2 (by omega);go_wp2;go_ret;exact⟨ZG (by rw[g.out,hd.out]),f⟩
end Go.Proofs.YtcnbifdlkalimabGreat
