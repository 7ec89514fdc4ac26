/- Lemmas; their conditions stand in each. -/
import Derived.Test.YtcnbifdlkalimabGreatRefB
import Derived.Test.YtcnbifdlkalimabGreatDrnB
namespace Go.Proofs.YtcnbifdlkalimabGreat
open Go.RowKit Go.Proofs.Tryz
set_option maxHeartbeats 6400000
theorem UQ(s:ZB)(n a:Int)(w:World) :
  Calls prog 198 #[.agg #[.int .i64 n,.string s],.int .i64 a] w λe d=>e=.returned (.bool (Ko a n))∧Below w.heap.size w d:=by
 by_cases b:0<=a
 ·by_cases c:a<n
  ·have hd:Hid (Ko a n=true):=Pi ⟨b,c⟩;go_in;go_wp2;go_ret;exact⟨Za hd.out.symm,(Qh _ _).alloc (Qb _) _⟩
  ·have hd:Hid (Ko a n=false):=MY (λh=>c h.2);go_in;go_wp2;go_ret;exact⟨Za hd.out.symm,(Qh _ _).alloc (Qb _) _⟩
 ·have hd:Hid (Ko a n=false):=MY (λh=>b h.1);go_in;go_wp2;go_ret;exact⟨Za hd.out.symm,(Qh _ _).alloc (Qb _) _⟩
theorem WW(s:ZB)(w:World)(b:s.size<=maxLen) :
  Calls prog 77 #[.string s] w λe c=>e=.returned (.tuple #[.int .i64 (BX s),.int .i64 (Az s)])∧Below w.heap.size w c:=by
 go_in;go_wp2_with fail;refine(OH s _ b).mono ?_;rintro e d ⟨rfl,a⟩;go_wp2;go_ret2;exact⟨rfl,a.alloc a.size _⟩
theorem Rc(s:ZB)(a b:Int)(w:World)(t:s.size<=maxLen) :
  Calls prog 145 #[.string s,.int .i64 a,.int .i64 b] w λe E=>e=.returned (.tuple #[.agg #[.int .i64 (L6 s a b),.string (L9 s a b)],.int .i64 (CT s a b)])∧Below w.heap.size w E:=by
 have d:=Dh.new w (.int .i64 0) (.string {data:=#[]}) 54;have f:Below w.heap.size w (w.alloc (.cells #[.int .i64 0,.string {data:=#[]}] 54)):=(Qh _ _).alloc (Qb _) _;go_in;go_wp2_with fail;refine(OH s _ t).mono ?_;rintro e F ⟨rfl,c⟩;replace d:=d.step c;replace f:=f.trans (c.mono (by simp));clear c;by_cases i:Az s=0
 ·rw[Jh i,i];have q:Dc s=s:=by unfold Dc;rw[if_pos i]
  rw[q];have r:Hid _:=i;clear i q;have p:=Dh.new F (.int .i64 (Ap s)) (.string s) 54;have o:=d.lt;replace f:=f.alloc (Uf d.lt) (.cells #[.int .i64 (Ap s),.string s] 54);replace d:=d.alloc (.cells #[.int .i64 (Ap s),.string s] 54);go_wp2_with fail;refine(UQ s (Ap s) a _).mono ?_;rintro e H ⟨rfl,c⟩;replace d:=d.step c;replace p:=p.step c;replace f:=f.trans (c.mono (by simp;omega));clear c o;obtain⟨o,l,m,u,x⟩:=id d;obtain⟨z,A,B,C,D⟩:=id p;by_cases n:0<=a∧a<Ap s
  ·rw[Pi n];have y:Hid _:=n;clear n;go_wp2_with fail;refine(UQ s (Ap s) b _).mono ?_;rintro e I ⟨rfl,c⟩;replace f:=f.trans (c.mono (by omega));replace d:=d.step c;replace p:=p.step c;clear c o l m u x z A B C D;obtain⟨o,l,m,u,x⟩:=id d;obtain⟨z,A,B,C,D⟩:=id p;by_cases k:0<=b∧b<Ap s
   ·rw[Pi k];have g:Hid (CT s a b=0):=(Iq r.out ⟨y.out.1,y.out.2,k.1,k.2⟩).1;clear k;go_wp2;exact bodyPost_ret (v:=.tuple #[.agg #[.int .i64 (Ap s),.string s],.int .i64 0]) (by simp[results,Tryz.results145,go_sem,l,m]) rfl ⟨by rw[(MZ g.out).1,(MZ g.out).2.1,g.out],(f.setCell (Nat.le_refl _) _).setCell (Nat.le_refl _) _⟩
   ·rw[MY k];have g:Hid (CT s a b=10):=(LG r.out (λh=>k h.2.2)).1;have j:Hid _:=LN (s:=s) (a:=a) (b:=b) (by rw[g.out];omega);clear k;go_wp2;exact bodyPost_ret (v:=.tuple #[.agg #[.int .i64 0,.string {data:=#[]}],.int .i64 10]) (by simp[results,Tryz.results145,go_sem,l,m]) rfl ⟨by rw[j.out.1,j.out.2.1,g.out],(f.setCell (Nat.le_refl _) _).setCell (Nat.le_refl _) _⟩
  ·rw[MY n];have g:Hid (CT s a b=10):=(LG r.out (λh=>n ⟨h.1,h.2.1⟩)).1;have j:Hid _:=LN (s:=s) (a:=a) (b:=b) (by rw[g.out];omega);clear n;go_wp2;exact bodyPost_ret (v:=.tuple #[.agg #[.int .i64 0,.string {data:=#[]}],.int .i64 10]) (by simp[results,Tryz.results145,go_sem,l,m]) rfl ⟨by rw[j.out.1,j.out.2.1,g.out],(f.setCell (Nat.le_refl _) _).setCell (Nat.le_refl _) _⟩
 ·have g:Hid (CT s a b=Az s):=(MX i).1;have j:Hid _:=LN (s:=s) (a:=a) (b:=b) (by rw[g.out];exact i);have G:(Az s != 0)=true:=by simpa using i
  rw[GT rfl i];have q:Dc s={data:=#[]}:=by unfold Dc;rw[if_neg i]
  rw[q];clear i q;obtain⟨o,l,m,u,x⟩:=id d;go_wp2;exact bodyPost_ret (v:=.tuple #[.agg #[.int .i64 0,.string {data:=#[]}],.int .i64 (Az s)]) (by simp[results,Tryz.results145,go_sem,o,l,m]) rfl ⟨by rw[j.out.1,j.out.2.1,g.out],((f.setCell (Nat.le_refl _) _).setCell (Nat.le_refl _) _).alloc (by simp;omega) _⟩
theorem Zpc(s:ZB)(a b:Int)(w:World)(i:s.size<=maxLen) :
  Calls prog 78 #[.string s,.int .i64 a,.int .i64 b] w λe y=>e=.returned (.tuple #[.int .i64 (EP s a b),.int .i64 (CT s a b)])∧Below w.heap.size w y:=by
 go_in;go_wp2_with fail;refine(Rc s a b _ i).mono ?_;rintro e A ⟨rfl,c⟩;by_cases d:CT s a b=0
 ·obtain⟨j,k,f,l⟩:=MZ d;have p:Hid ((D0 s (Ap s) a b).getD 0=EP s a b):=by rw[KR (by rw[HZ];exact(Gk f).2.1)];rw[(Iq f l).2.1];rfl
  have o:Hid _:=d;rw[d,j,k];have r:=(GK (Gk f).1).1;clear d j k f;generalize Ap s=n at *;obtain⟨t,u,v,x⟩:=l;have m:=c.alloc c.size (.cells #[.int .i64 n,.string s] 54);have q:=c.size;clear c;go_wp2_with fail;refine(Le r a b _ t u v x).mono ?_;rintro e B ⟨rfl,h⟩;rw[p.out];go_wp2;go_ret2;rw[o.out];exact⟨rfl,m.trans (h.mono (by simp;omega))⟩
 ·have g:Hid _:=LN d;have z:(CT s a b != 0)=true:=by simpa using d
  rw[g.out.1,g.out.2.1];clear d;go_wp2;go_ret2;rw[g.out.2.2.1];exact⟨rfl,c.alloc c.size _⟩
theorem Zpd(s:ZB)(a b:Int)(w:World)(i:s.size<=maxLen) :
  Calls prog 80 #[.string s,.int .i64 a,.int .i64 b] w λe y=>e=.returned (.tuple #[.int .i64 (EQ s a b),.int .i64 (CT s a b)])∧Below w.heap.size w y:=by
 go_in;go_wp2_with fail;refine(Rc s a b _ i).mono ?_;rintro e A ⟨rfl,c⟩;by_cases d:CT s a b=0
 ·obtain⟨j,k,f,l⟩:=MZ d;have p:Hid ((Fb s (Ap s) a b).getD 0=EQ s a b):=by rw[RU (by rw[HZ];exact(Gk f).2.1)];rw[(Iq f l).2.2];rfl
  have o:Hid _:=d;rw[d,j,k];have r:=(GK (Gk f).1).1;clear d j k f;generalize Ap s=n at *;obtain⟨t,u,v,x⟩:=l;have m:=c.alloc c.size (.cells #[.int .i64 n,.string s] 54);have q:=c.size;clear c;go_wp2_with fail;refine(TG r a b _ t u v x).mono ?_;rintro e B ⟨rfl,h⟩;rw[p.out];go_wp2;go_ret2;rw[o.out];exact⟨rfl,m.trans (h.mono (by simp;omega))⟩
 ·have g:Hid _:=LN d;have z:(CT s a b != 0)=true:=by simpa using d
  rw[g.out.1,g.out.2.1];clear d;go_wp2;go_ret2;rw[g.out.2.2.2];exact⟨rfl,c.alloc c.size _⟩
theorem Zpe(s:ZB)(a b:Int)(w:World)(i:s.size<=maxLen) :
  Calls prog 79 #[.string s,.int .i64 a,.int .i64 b] w λe q=>e=.returned (.tuple #[.int .i64 (EP s a b),.int .i64 (CT s a b)])∧q=w:=by
 go_in;go_wp2_with fail;refine(IK s _ i).mono ?_;rintro e r ⟨rfl,rfl⟩;by_cases f:Az s=0
 ·rw[Jh f,f];have p:=(GK (Gk f).1).1;by_cases d:0<=a∧a<Ap s∧0<=b∧b<Ap s
  ·have c:Hid _:=Iq f d;clear f;generalize g:Ap s=n at *;obtain⟨j,k,l,m⟩:=d;clear g;go_wp2_with fail;refine(KL p a b _ j k l m).mono ?_;rintro e r ⟨rfl,rfl⟩;rw[c.out.2.1];go_wp2;go_ret2;rw[c.out.1];exact⟨rfl,rfl⟩
  ·have c:Hid _:=LG f d;clear f;generalize g:Ap s=n at *;clear g;by_cases j:0<=a
   ·by_cases l:0<=b
    ·by_cases k:a<n
     ·have m:¬b<n:=λh=>d ⟨j,k,l,h⟩;clear d;go_wp2;go_ret2;rw[c.out.1,c.out.2.1];exact⟨rfl,rfl⟩
     ·clear d;go_wp2;go_ret2;rw[c.out.1,c.out.2.1];exact⟨rfl,rfl⟩
    ·clear d;go_wp2;go_ret2;rw[c.out.1,c.out.2.1];exact⟨rfl,rfl⟩
   ·clear d;go_wp2;go_ret2;rw[c.out.1,c.out.2.1];exact⟨rfl,rfl⟩
 ·have c:Hid _:=MX (a:=a) (b:=b) f;have o:(Az s != 0)=true:=by simpa using f
  rw[GT rfl f];clear f;go_wp2;go_ret2;rw[c.out.1,c.out.2.1];exact⟨rfl,rfl⟩
theorem Zpf(s:ZB)(a b:Int)(w:World)(g:s.size<=maxLen) :
  Calls prog 81 #[.string s,.int .i64 a,.int .i64 b] w λe q=>e=.returned (.tuple #[.int .i64 (EQ s a b),.int .i64 (CT s a b)])∧q=w:=by
 go_in;go_wp2_with fail;refine(IK s _ g).mono ?_;rintro e r ⟨rfl,rfl⟩;by_cases f:Az s=0
 ·rw[Jh f,f];have p:=(GK (Gk f).1).1;by_cases d:0<=a∧a<Ap s∧0<=b∧b<Ap s
  ·have c:Hid _:=Iq f d;clear f;generalize i:Ap s=n at *;obtain⟨j,k,l,m⟩:=d;clear i;go_wp2_with fail;refine(RA p g a b _ j k l m).mono ?_;rintro e r ⟨rfl,rfl⟩;rw[c.out.2.2];go_wp2;go_ret2;rw[c.out.1];exact⟨rfl,rfl⟩
  ·have c:Hid _:=LG f d;clear f;generalize i:Ap s=n at *;clear i;by_cases j:0<=a
   ·by_cases l:0<=b
    ·by_cases k:a<n
     ·have m:¬b<n:=λh=>d ⟨j,k,l,h⟩;clear d;go_wp2;go_ret2;rw[c.out.1,c.out.2.2];exact⟨rfl,rfl⟩
     ·clear d;go_wp2;go_ret2;rw[c.out.1,c.out.2.2];exact⟨rfl,rfl⟩
    ·clear d;go_wp2;go_ret2;rw[c.out.1,c.out.2.2];exact⟨rfl,rfl⟩
   ·clear d;go_wp2;go_ret2;rw[c.out.1,c.out.2.2];exact⟨rfl,rfl⟩
 ·have c:Hid _:=MX (a:=a) (b:=b) f;have o:(Az s != 0)=true:=by simpa using f
  rw[GT rfl f];clear f;go_wp2;go_ret2;rw[c.out.1,c.out.2.2];exact⟨rfl,rfl⟩
set_option linter.all false
set_option maxRecDepth 100000
theorem orders_walk(a:ZB)(d:Int)(f:Int)(c:a.size<=maxLen)(w:World) :
  Calls prog 31 #[.string a,.int .i64 d,.int .i64 f] w λe h=>e=.returned (.bool true)∧Below w.heap.size w h:=by
 go_in;go_wp2_with fail;refine(WW a _ c).mono ?_;rintro e l ⟨rfl,b⟩;go_wp2_with fail;refine(IK a _ c).mono ?_;rintro e i ⟨rfl,rfl⟩;go_wp2_with fail;refine(IT _ _).mono ?_;rintro e i ⟨rfl,rfl⟩;go_wp2_with fail;refine(Zpc a d f _ c).mono ?_;rintro e m ⟨rfl,g⟩;replace b:=b.trans (g.mono b.size);clear g;go_wp2_with fail;refine(Zpe a d f _ c).mono ?_;rintro e j ⟨rfl,rfl⟩;go_wp2_with fail;refine(IT _ _).mono ?_;rintro e j ⟨rfl,rfl⟩;go_wp2_with fail;refine(Zpd a d f _ c).mono ?_;rintro e n ⟨rfl,g⟩;replace b:=b.trans (g.mono b.size);clear g;go_wp2_with fail;refine(Zpf a d f _ c).mono ?_;rintro e k ⟨rfl,rfl⟩;go_wp2_with fail;refine(IT _ _).mono ?_;rintro e k ⟨rfl,rfl⟩;go_wp2;go_ret;exact⟨Za (by simp),b⟩
end Go.Proofs.YtcnbifdlkalimabGreat
