/- Lemmas; their conditions stand in each. -/
import Derived.Test.YtcnbifdlkalimabGreatCmpM
import Derived.Test.YtcnbifdlkalimabGreatAlwM
import Derived.Test.YtcnbifdlkalimabGreatOrdM
import Derived.Test.YtcnbifdlkalimabGreatDrnC
namespace Go.Proofs.YtcnbifdlkalimabGreat
open Go.RowKit Go.Proofs.Tryz
set_option linter.all false
set_option maxRecDepth 100000
set_option maxHeartbeats 6400000
theorem VZ(s:ZB)(w:World)(j:s.size<=maxLen):Calls prog 82 #[.string s] w λe d=>e=.returned (.tuple #[.string (AM s),.int .i64 (Bf s),.int .i64 (AH s)])∧Below w.heap.size w d:=by
 have c:=Q2 s w j;generalize hF:AM s=F at *;generalize g:Bf s=A at *;generalize i:AH s=E at *;have c:Calls prog 20 #[.string s] w λe d=>∃v,e=.returned (.tuple #[v,.string F,.int .i64 A,.int .i64 E])∧Below w.heap.size w d:=by rw[<-hF,<-g,<-i];exact c.mono λe d h=>by obtain⟨v,a,b,_⟩:=h;exact⟨v,a,b⟩
 replace c:=Z_ c;clear hF g i;go_in;go_wp2_with fail;refine c.o.mono ?_;rintro e k ⟨v,rfl,f⟩;replace f:=Z_ f;go_wp2;go_ret3;exact⟨rfl,f.o⟩
theorem Zpk(a:Int)(w:World) :
  Calls prog 8 #[.int .i64 a] w λe b=>e=.returned (.int .i64 a)∧b=w:=by
 go_in;go_wp2;go_ret;exact⟨rfl,rfl⟩
theorem translates_walk(s:ZB)(f:s.size<=maxLen)(w:World) :
  Calls prog 32 #[.string s] w λe i=>e=.returned (.bool true)∧Below w.heap.size w i:=by
 have b:=λW=>Qm s W f;have c:=λW=>VZ s W f
 generalize AM s=F at *;generalize Bf s=A at *;generalize AH s=E at *;replace b:=Z_ b;replace c:=Z_ c;go_in;go_wp2_with fail;refine(b.o _).mono ?_;rintro e j ⟨rfl,a⟩;replace a:=Z_ a;go_wp2_with fail;refine(c.o _).mono ?_;rintro e k ⟨rfl,d⟩;have g:Kp _:=⟨a.o.trans (d.mono a.o.size)⟩
 clear d a;go_wp2_with fail;refine(Zpk _ _).mono ?_;rintro e l ⟨rfl,h⟩;subst h;go_wp2;go_ret;exact⟨Za (by simp),g.o⟩
theorem Zpl(a:Int)(w:World) :
  Calls prog 8 #[.int .i64 a] w λe b=>e=.returned (.int .i64 a)∧b=w:=by
 go_in;go_wp2;go_ret;exact⟨rfl,rfl⟩
theorem compiles_walk(s:ZB)(f:s.size<=maxLen)(w:World) :
  Calls prog 33 #[.string s] w λe i=>e=.returned (.bool true)∧Below w.heap.size w i:=by
 have b:=λW=>Rj s W f;have c:=λW=>Wk s W f
 generalize CI s=F at *;generalize Cy s=A at *;generalize Ca s=E at *;replace b:=Z_ b;replace c:=Z_ c;go_in;go_wp2_with fail;refine(b.o _).mono ?_;rintro e j ⟨rfl,a⟩;replace a:=Z_ a;go_wp2_with fail;refine(c.o _).mono ?_;rintro e k ⟨rfl,d⟩;have g:Kp _:=⟨a.o.trans (d.mono a.o.size)⟩
 clear d a;go_wp2_with fail;refine(Zpl _ _).mono ?_;rintro e l ⟨rfl,h⟩;subst h;go_wp2;go_ret;exact⟨Za (by simp),g.o⟩
theorem Sf(s:ZB):(AM s).size<=maxLen:=by
 unfold AM;split
 ·rw[Zd];exact Q8 _
 ·rename_i h;have l:(BF s).er=0:=Classical.byContradiction λc=>h (.inr (.inl c));have f:s.size<=300:=Nat.le_of_not_lt λc=>h (.inl c)
  obtain⟨n,_,b,_,_,o,p,i,j,e,a⟩:=(FK s).ok l;have m:=(IX f).2;have k:=(IX f).1;rw[b]at m;rw[a]at k;have d:(nP s).toNat<=6:=by omega
  have g:=Us d d;unfold LW maxLen;simp only[ByteArray.size_append,Zd,ME,Qt,Qy];omega
theorem Ztd:Ki 13:=λs W a=>(Qm s W a).mono λe c ⟨h,b⟩=>⟨_,_,_,h,Sf s,b⟩
theorem Zte:Ki 6:=λs W a=>(Rj s W a).mono λe c ⟨h,b⟩=>⟨_,_,_,h,by unfold CI;split;exact Sf s;exact Q8 _,b⟩
theorem Ztf:PK 31:=λs a b W c _ _=>orders_walk s a b c W
theorem Ztg:PL 36:=λs T n W b a _=>runs_walk s T n W b a
theorem Zsq:FQ 32:=λs W a=>translates_walk s a W
theorem Zsr:FQ 33:=λs W a=>compiles_walk s a W
theorem Zss:FQ 34:=λs W a=>scans_walk s a W
theorem Zst:FQ 35:=λs W a=>checks_walk s a W
end Go.Proofs.YtcnbifdlkalimabGreat
