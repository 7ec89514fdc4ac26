/- Lemmas; their conditions stand in each. -/
import Derived.Test.YtcnbifdlkalimabGreatPlnA
import Derived.Deep.RegionWith
namespace Go.Proofs.YtcnbifdlkalimabGreat
open Go.RowKit Go.Proofs.Tryz
set_option linter.all false
set_option maxRecDepth 100000
theorem Mh(W:World)(g x:Nat)(d:x<256)(b:W.cell? ⟨g,0,none⟩=some (.int .u8 x)):(convert 56 9 (.slice (some ⟨g,0,none⟩) 1 1)).run prog W=.ok (.string {data:=#[UInt8.ofNat x]}) W:=by
 have h:=run_convert_bytes_back (P:=prog) W 56 9 5 ⟨g,0,none⟩ 1 [UInt8.ofNat x] Tryz.underlying56 Tryz.underlying5 Tryz.underlying9 (λj c=>by
  have e:j=0:=by simp at c;omega
  subst e;have a:(⟨g,0,none⟩:Addr).add 0=⟨g,0,none⟩:=by unfold Addr.add;split<;>simp_all
  rw[a,b];simp;omega)
 exact h
def Cd(c n:Int):Int:=if c<0 then -(c+1)%n else c%n
theorem Tc{c n:Int}(h:1<=n):0<=Cd c n∧Cd c n<n:=by
 unfold Cd;split
 ·exact⟨Int.emod_nonneg _ (by omega),Int.emod_lt_of_pos _ (by omega)⟩
 ·exact⟨Int.emod_nonneg _ (by omega),Int.emod_lt_of_pos _ (by omega)⟩
set_option maxHeartbeats 6400000
theorem SK(c n:Int)(w:World)(i:-9223372036854775808<=c∧c<=9223372036854775807)(p:1<=n)(q:n<=9223372036854775807) :
  Calls prog 76 #[.int .i64 c,.int .i64 n] w λe k=>e=.returned (.int .i64 (Cd c n))∧k=w:=by
 obtain⟨l,m⟩:=i;have j:(n==0)=false:=by simp;omega
 by_cases f:c<0
 ·have a:-((c+1).tmod n)=-(c+1)%n:=by rw[<-Int.neg_tmod,Int.tmod_eq_emod_of_nonneg (by omega)]
  have g:=Int.emod_nonneg (-(c+1)) (b:=n) (by omega);have h:=Int.emod_lt_of_pos (-(c+1)) (b:=n) (by omega);have d:Kp (Cd c n=-((c+1).tmod n)):=⟨by unfold Cd;rw[if_pos f,a]⟩
  rw[<-a]at g h;clear a;go_in;go_wp2;go_ret;exact⟨ZG d.o.symm,rfl⟩
 ·have g:=Int.emod_nonneg c (b:=n) (by omega);have h:=Int.emod_lt_of_pos c (b:=n) (by omega);have d:Kp (Cd c n=c%n):=⟨by unfold Cd;rw[if_neg f]⟩
  go_in;go_wp2;go_ret;exact⟨ZG d.o.symm,rfl⟩
def Jw(l:List ZB):List Value:=l.map λt=>Value.string t
def DF(l:List ZB)(a:Int):ZB:=(l[(Cd a l.length).toNat]?).getD {data:=#[]}
theorem Rm(B:Nat)(v:Value)(l:List ZB)(a:Int)(w:World)(h:w.ownsRow B 9 1 v l.length (Jw l))(r:-9223372036854775808<=a∧a<=9223372036854775807) :
  Calls prog 30 #[v,.int .i64 a] w λe G=>e=.returned (.string (DF l a))∧G=w:=by
 rcases h.2 with ⟨rfl,x⟩|⟨g,z,A,rfl,f⟩
 ·have p:l=[]:=Uk x;subst p;have b:DF [] a={data:=#[]}:=by simp[DF]
  rw[b];clear h x r b;go_in;go_wp2;go_ret;exact⟨rfl,rfl⟩
 ·obtain⟨_,_,i,d,_,_⟩:=f;by_cases y:l.length=0
  ·have p:l=[]:=Uk y;subst p;have b:DF [] a={data:=#[]}:=by simp[DF]
   rw[b];clear h r b i d y;go_in;go_wp2;go_ret;exact⟨rfl,rfl⟩
  ·have C:=Tc (c:=a) (n:=l.length) (by omega);have s:(l.length:Int)<=9223372036854775807:=by unfold maxLen at d;omega
   have k:=λW=>SK a l.length W r (by omega) s;obtain⟨q,u⟩:∃q:Nat,Cd a l.length=q:=⟨(Cd a l.length).toNat,by omega⟩
   have j:q<l.length:=by omega
   have b:DF l a=l[q]:=by unfold DF;rw[u,QC,Qn j];rfl
   have H:w.cell? ⟨g,q,none⟩=some (.string l[q]):=by rw[h.cellAt q (by omega)];unfold Jw;rw[Ui,Qn j];rfl
   have D:g<w.heap.size:=(h.lt g rfl).2;rw[b];rw[u]at k;have F:(q:Int)<(l.length:Int):=by omega
   have E:((l.length:Int)==0)=false:=Qf.2 (by omega);generalize l[q]=t at *;generalize l.length=m at *;replace k:=Z_ k;clear h b u C i d;go_in;go_wp2_with fail;refine(k.o _).mono ?_;rintro e I ⟨rfl,rfl⟩;go_wp2;go_ret;exact⟨rfl,rfl⟩
theorem Xu(s:ZB)(b:Int)(w:World)(m:s.size<=maxLen)(u:-9223372036854775808<=b∧b<=9223372036854775807) :
  Calls prog 37 #[.string s,.int .i64 b] w λe D=>(∃t:ZB,e=.returned (.string t)∧t.size<=maxLen)∧Below w.heap.size w D:=by
 by_cases p:s.size=0
 ·have r:s={data:=#[]}:=by apply ByteArray.ext;exact Array.eq_empty_of_size_eq_zero p
  subst r;clear m p u;go_in;go_wp2;go_ret;exact⟨⟨_,rfl,Q8 _⟩,Qh _ _⟩
 ·have z:(s.toList==[])=false:=by
   rw[Ur];apply Qf.2;intro e;have:s.data.toList.length=0:=by rw[e];rfl
   have I:s.data.toList.length=s.size:=by simp
   omega
  have g:(s.size:Int)<=9223372036854775807:=by unfold maxLen at m;omega
  have hd:-9223372036854775808<=b.tdiv 256∧b.tdiv 256<=9223372036854775807:=by
   by_cases f:0<=b
   ·rw[Int.tdiv_eq_ediv_of_nonneg f];omega
   ·have e:b=-(-b):=by omega
    rw[e,Int.neg_tdiv,Int.tdiv_eq_ediv_of_nonneg (by omega)];omega
  have a:=Tc (c:=b.tdiv 256) (n:=s.size) (by omega);have d:=λW=>SK (b.tdiv 256) s.size W hd (by omega) g;obtain⟨q,l⟩:∃q:Nat,Cd (b.tdiv 256) s.size=q:=⟨(Cd (b.tdiv 256) s.size).toNat,by omega⟩
  rw[l]at d a;have C:(q:Int)<s.size:=a.2;replace d:=Z_ d;clear l a;go_in;go_wp2_with fail;refine(d.o _).mono ?_;rintro e k ⟨rfl,rfl⟩;have x:=Int.emod_nonneg b (b:=256) (by omega);have y:=Int.emod_lt_of_pos b (b:=256) (by omega);have v:(convert 56 9 (.slice (some ⟨k.heap.size,0,none⟩) 1 1)).run prog ((k.alloc (.cells #[.int .u8 (b%256)] 5)).drew)=.ok (.string {data:=#[UInt8.ofNat (b%256).toNat]}) ((k.alloc (.cells #[.int .u8 (b%256)] 5)).drew):=
   Mh _ _ (b%256).toNat (by omega) (by rw[Int.toNat_of_nonneg x];simp[go_sem])
  have h:(ByteArray.mk #[UInt8.ofNat (b%256).toNat]).size=1:=rfl;have i:(s.extract 0 q).size=q:=by rw[QX];omega
  have j:(s.extract (q+1) s.size).size=s.size-(q+1):=by rw[QX];omega
  generalize ByteArray.mk #[UInt8.ofNat (b%256).toNat]=U at *;have E:¬(9223372036854775807:Int)<((s.extract 0 q).size:Int)+U.size:=by omega
  have F:¬(9223372036854775807:Int)<(((s.extract 0 q).size+U.size:Nat):Int):=by omega
  have G:¬(9223372036854775807:Int)<((s.extract 0 q).size:Int)+U.size+(s.extract (q+1) s.size).size:=by omega
  have H:¬(9223372036854775807:Int)<(((s.extract 0 q).size+U.size+(s.extract (q+1) s.size).size:Nat):Int):=by omega
  have A:q<=s.size:=by omega
  have B:q+1<=s.size:=by omega
  go_wp2_with fail;go_region;go_wp2;go_ret;refine⟨⟨_,rfl,?_⟩,((Qh _ _).alloc (Qb _) _).drew⟩;rw[ByteArray.size_append,ByteArray.size_append,i,h,j];omega
def Ki(f:FuncId):Prop:=∀(s:ZB) (W:World),s.size<=maxLen->Calls prog f #[.string s] W λe w'=>∃(t:ZB) (a b:Int),e=.returned (.tuple #[.string t,.int .i64 a,.int .i64 b])∧t.size<=maxLen∧Below W.heap.size W w'
def Mk(K A N:Int)(S:ZB)(T:Int->ZB):Value:=.agg #[.int .i64 K,.int .i64 A,.int .i64 N,.string S,.string (T 0),.string (T 1),.string (T 2),.string (T 3),.string (T 4),.string (T 5)]
def FI(x:Int):Prop:=-9223372036854775808<=x∧x<=9223372036854775807
theorem KU{w w':World}{B n:Nat}{v:Value}{e:TypeId}{z:Nat}{c:List Value}(h:w.ownsRow B e z v n c)(j:Below w.heap.size w w'):w'.ownsRow B e z v n c:=by
 refine⟨h.1,?_⟩;rcases h.2 with k|⟨g,a,b,rfl,d,f,i⟩
 ·exact .inl k
 ·exact .inr ⟨g,a,b,rfl,d,by rw[j.block g (h.lt g rfl).2];exact f,i⟩
theorem UP{l:List ZB}(b:∀t,t∈l->t.size<=maxLen)(a:Int):(DF l a).size<=maxLen:=by
 unfold DF;cases h:l[(Cd a l.length).toNat]? with
 | none=>exact Q8 _
 | some t=>exact b t (Qw h)
theorem YX(B:Nat)(v:Value)(l:List ZB)(K A N:Int)(S:ZB)(T:Int->ZB)(w:World)(n:w.ownsRow B 9 1 v l.length (Jw l))(s:∀t,t∈l->t.size<=maxLen)(k:FI A)(p:FI N)(q:S.size<=maxLen)(r:Kp (Ki 13))(m:Kp (Ki 6)) :
  Calls prog 16 #[v,Mk K A N S T] w λe L=>∃(t:ZB) (H:Bool),e=.returned (.tuple #[.string t,.bool H])∧t.size<=maxLen∧Below w.heap.size w L:=by
 have d:=(Qh w.heap.size w).alloc (Qb _) (.cells #[.int .i64 K,.int .i64 A,.int .i64 N,.string S,.string (T 0),.string (T 1),.string (T 2),.string (T 3),.string (T 4),.string (T 5)] 49);replace d:=Z_ d;unfold Mk;by_cases y:K=2
 ·subst y;replace q:=Z_ q;clear n s k p r m;go_in;go_wp2;go_ret2;exact⟨S,true,rfl,q.o,d.o⟩
 by_cases C:K=3
 ·subst C;have z:=UP s A;have g:=λW (h:Below w.heap.size w W)=>Rm B v l A W (KU n h) k;generalize DF l A=I at *;have i:=λW=>Xu I N W z p
  replace g:=Z_ g;replace i:=Z_ i;clear n s k p r m q z y;go_in;go_wp2_with fail;go_region_with (first
   | (go_at_call 30;refine(g.o _ ((Qh _ _).alloc (Qb _) _).drew).mono ?_;rintro e F ⟨rfl,rfl⟩)
   | (go_at_call 37;refine(i.o _).mono ?_;rintro e R ⟨⟨J,rfl,x⟩,G⟩))
  all_goals go_wp2;go_ret2;exact⟨J,true,rfl,x,(d.o.drew).trans (G.mono (by simp))⟩
 by_cases D:K=4
 ·subst D;have c:=λW=>r.o S W q;replace c:=Z_ c;clear n s k p r m;go_in;go_wp2_with fail;refine(c.o _).mono ?_;rintro e F ⟨t,a,b,rfl,j,u⟩;have f:Kp _:=⟨d.o.trans (u.mono d.o.size)⟩
  replace j:=Z_ j;clear u;go_wp2;go_ret2;exact⟨t,true,rfl,j.o,f.o⟩
 by_cases E:K=5
 ·subst E;have c:=λW=>m.o S W q;replace c:=Z_ c;clear n s k p r m;go_in;go_wp2_with fail;refine(c.o _).mono ?_;rintro e F ⟨t,a,b,rfl,j,u⟩;have f:Kp _:=⟨d.o.trans (u.mono d.o.size)⟩
  replace j:=Z_ j;clear u;go_wp2;go_ret2;exact⟨t,true,rfl,j.o,f.o⟩
 have M:(K==2)=false:=Qf.2 y;have O:(K==3)=false:=Qf.2 C;have P:(K==4)=false:=Qf.2 D;have Q:(K==5)=false:=Qf.2 E;clear n s k p r m;go_in;go_wp2;go_ret2;exact⟨{data:=#[]},false,rfl,Q8 _,d.o⟩
def VI(T:Int->ZB):Value:=.agg #[.string (T 0),.string (T 1),.string (T 2),.string (T 3),.string (T 4),.string (T 5)]
def FQ(f:FuncId):Prop:=∀(s:ZB) (W:World),s.size<=maxLen->Calls prog f #[.string s] W λe w'=>e=.returned (.bool true)∧Below W.heap.size W w'
def PK(f:FuncId):Prop:=∀(s:ZB) (a b:Int) (W:World),s.size<=maxLen->FI a->FI b->Calls prog f #[.string s,.int .i64 a,.int .i64 b] W λe w'=>e=.returned (.bool true)∧Below W.heap.size W w'
def PL(f:FuncId):Prop:=∀(s:ZB) (T:Int->ZB) (n:Int) (W:World),s.size<=maxLen->(∀l:Nat,l<6->(T l).size<=maxLen)->FI n->Calls prog f #[.string s,VI T,.int .i64 n] W λe w'=>e=.returned (.bool true)∧Below W.heap.size W w'
theorem ZtD(B:Nat)(v:Value)(l:List ZB)(K A N:Int)(S:ZB)(T:Int->ZB)(w:World)(I:w.ownsRow B 9 1 v l.length (Jw l))(J:∀t,t∈l->t.size<=maxLen)(y:FI A)(z:FI N)(s:S.size<=maxLen)(q:∀l:Nat,l<6->(T l).size<=maxLen)
  (C:Kp (PK 31)) (p:Kp (FQ 32)) (k:Kp (FQ 33)) (n:Kp (FQ 34)) (j:Kp (FQ 35)) (m:Kp (PL 36)) :
  Calls prog 15 #[v,Mk K A N S T] w λe V=>e=.returned (.bool true)∧Below w.heap.size w V:=by
 obtain⟨D,b⟩:∃D,w.alloc (.cells #[.int .i64 K,.int .i64 A,.int .i64 N,.string S,.string (T 0),.string (T 1),.string (T 2),.string (T 3),.string (T 4),.string (T 5)] 49)=D:=⟨_,rfl⟩
 have r:Below w.heap.size w D:=by rw[<-b];exact(Qh _ _).alloc (Qb _) _
 have u:=UP J A;have f:=λW (h:Below D.heap.size D W)=>Rm B v l A W (KU I (r.trans (h.mono r.size))) y;have c:∀(i:Nat) (x:Value),[Value.int .i64 K,.int .i64 A,.int .i64 N,.string S,.string (T 0),.string (T 1),.string (T 2),.string (T 3),.string (T 4),.string (T 5)][i]?=some x->D.cell? ⟨w.heap.size,i,none⟩=some x:=by
  intro i x G;rw[<-b];match i with
  | 0|1|2|3|4|5|6|7|8|9=>simp at G;simp[go_sem,G]
  | i+10=>simp at G
 have X:=c 0 _ rfl;have Y:=c 1 _ rfl;have Z:=c 2 _ rfl;have c3:=c 3 _ rfl;have c4:=c 4 _ rfl;have c5:=c 5 _ rfl;have c6:=c 6 _ rfl;have c7:=c 7 _ rfl;have c8:=c 8 _ rfl;have c9:=c 9 _ rfl;have U:w.heap.size<D.heap.size:=by rw[<-b];simp
 generalize DF l A=H at *;replace f:=Z_ f;replace r:=Z_ r;replace b:=Z_ b;clear I J c;unfold Mk;by_cases L:K=1
 ·subst L;have a:=λW=>C.o S A N W s y z;replace a:=Z_ a;clear C p k n j m s y z u q;go_in;go_wp2_with fail;rw[b.o];refine(f.o _ (Qh _ _)).mono ?_;rintro e E ⟨rfl,rfl⟩;go_wp2_with fail;refine(a.o _).mono ?_;rintro e F ⟨rfl,g⟩;have d:Kp _:=⟨r.o.trans (g.mono r.o.size)⟩
  clear g;go_wp2;go_ret;exact⟨rfl,d.o⟩
 by_cases M:K=4
 ·subst M;have a:=λW=>p.o S W s;replace a:=Z_ a;clear C p k n j m s y z u q;go_in;go_wp2_with fail;rw[b.o];refine(f.o _ (Qh _ _)).mono ?_;rintro e E ⟨rfl,rfl⟩;go_wp2_with fail;refine(a.o _).mono ?_;rintro e F ⟨rfl,g⟩;have d:Kp _:=⟨r.o.trans (g.mono r.o.size)⟩
  clear g;go_wp2;go_ret;exact⟨rfl,d.o⟩
 by_cases O:K=5
 ·subst O;have a:=λW=>k.o S W s;replace a:=Z_ a;clear C p k n j m s y z u q;go_in;go_wp2_with fail;rw[b.o];refine(f.o _ (Qh _ _)).mono ?_;rintro e E ⟨rfl,rfl⟩;go_wp2_with fail;refine(a.o _).mono ?_;rintro e F ⟨rfl,g⟩;have d:Kp _:=⟨r.o.trans (g.mono r.o.size)⟩
  clear g;go_wp2;go_ret;exact⟨rfl,d.o⟩
 by_cases P:K=6
 ·subst P;have a:=λW=>n.o H W u;replace a:=Z_ a;clear C p k n j m s y z u q;go_in;go_wp2_with fail;rw[b.o];refine(f.o _ (Qh _ _)).mono ?_;rintro e E ⟨rfl,rfl⟩;go_wp2_with fail;refine(a.o _).mono ?_;rintro e F ⟨rfl,g⟩;have d:Kp _:=⟨r.o.trans (g.mono r.o.size)⟩
  clear g;go_wp2;go_ret;exact⟨rfl,d.o⟩
 by_cases Q:K=7
 ·subst Q;have a:=λW=>j.o H W u;replace a:=Z_ a;clear C p k n j m s y z u q;go_in;go_wp2_with fail;rw[b.o];refine(f.o _ (Qh _ _)).mono ?_;rintro e E ⟨rfl,rfl⟩;go_wp2_with fail;refine(a.o _).mono ?_;rintro e F ⟨rfl,g⟩;have d:Kp _:=⟨r.o.trans (g.mono r.o.size)⟩
  clear g;go_wp2;go_ret;exact⟨rfl,d.o⟩
 by_cases R:K=8
 ·subst R;have a:=λW=>m.o H T N W u q z;unfold VI at a;replace a:=Z_ a;clear C p k n j m s y z u q;go_in;go_wp2_with fail;rw[b.o];refine(f.o _ (Qh _ _)).mono ?_;rintro e E ⟨rfl,rfl⟩;go_wp2_with fail;refine(a.o _).mono ?_;rintro e F ⟨rfl,g⟩;have d:Kp _:=⟨r.o.trans (g.mono r.o.size)⟩
  clear g;go_wp2;go_ret;exact⟨rfl,d.o⟩
 have j1:(K==1)=false:=Qf.2 L;have j4:(K==4)=false:=Qf.2 M;have j5:(K==5)=false:=Qf.2 O;have j6:(K==6)=false:=Qf.2 P;have j7:(K==7)=false:=Qf.2 Q;have j8:(K==8)=false:=Qf.2 R;clear C p k n j m s y z u q;go_in;go_wp2_with fail;rw[b.o];refine(f.o _ (Qh _ _)).mono ?_;rintro e E ⟨rfl,rfl⟩;go_wp2;go_ret;exact⟨rfl,r.o⟩
structure Mb(w:World)(g o:Nat)(K A N:Int)(S:ZB)(T:Int->ZB):Prop where
 lt:g<w.heap.size
 c:∀(i:Nat) (x:Value),[Value.int .i64 K,.int .i64 A,.int .i64 N,.string S,.string (T 0),.string (T 1),.string (T 2),.string (T 3),.string (T 4),.string (T 5)][i]?=some x->w.cell? ⟨g,o+i,none⟩=some x
 a:FI A
 n:FI N
 s:S.size<=maxLen
 t:∀l:Nat,l<6->(T l).size<=maxLen
theorem Mb.step{w w':World}{g o:Nat}{K A N:Int}{S:ZB}{T:Int->ZB}(H:Mb w g o K A N S T)(b:Below w.heap.size w w'):Mb w' g o K A N S T:=
 ⟨Qq H.lt b.size,λi x d=>by rw[b.cell (p:=⟨g,o+i,none⟩) H.lt];exact H.c i x d,H.a,H.n,H.s,H.t⟩
theorem Zsi:∃i,prog.info? 9=some i∧i.zero=some (.string {data:=#[]})∧i.size=1∧i.bytes=16:=by
 have h:(prog.info? 9).map (λi=>(i.zero,i.size,i.bytes))=some (some (.string {data:=#[]}),1,16):=by kernel_rfl
 obtain⟨i,b,a⟩:=Option.map_eq_some_iff.1 h;simp only[Prod.mk.injEq]at a;exact⟨i,b,a⟩
theorem ZtE(p:Option Addr)(n V:Nat)(w:World)(hn:n*16<=140737488355328)
  (R:∀i,i<n->∃g o K A N S T,p=some ⟨g,o,none⟩∧Mb w g (o+i*10) K A N S T)
  (hT:Kp (Ki 13)) (Y:Kp (Ki 6))
  (Z:Kp (PK 31)) (I:Kp (FQ 32)) (E:Kp (FQ 33)) (G:Kp (FQ 34)) (D:Kp (FQ 35)) (F:Kp (PL 36)) :
  Calls prog 5 #[.slice p n V] w λe w'=>e=.returned (.bool true)∧Below w.heap.size w w':=by
 replace R:=Z_ R;obtain⟨i0,aa,ag,ah,ai⟩:=Zsi;go_in;go_wp2_with fail;go_loopw [3,4] (λfv iv wr=>∃(i:Nat) (l:List ZB),i<=n∧iv=.int .i64 i∧l.length<=i∧Kp (∀t,t∈l->t.size<=maxLen)∧Kp (wr.ownsRow w.heap.size 9 1 fv l.length (Jw l))∧Kp (Below w.heap.size w wr)) (λ_ iv _=>n-(intOf iv).toNat);case atStart=>exact⟨0,[],by omega,rfl,Qb _,⟨λt M=>absurd M QV⟩,⟨Uq _ _ _ _⟩,⟨Qh _ _⟩⟩
 case round=>
  obtain⟨i,l,ak,rfl,al,L,d,O⟩:=hrel;by_cases hi:i<n
  ·obtain⟨g,o,K,A,N,S,T,rfl,H⟩:=R.o i hi;have ab:(i:Int)<(n:Int):=by omega
   have b:=H.step O.o;obtain⟨q,hq⟩:∃q,o+i*10=q:=⟨_,rfl⟩
   rw[hq]at b;have v:=λW (h:Below wr.heap.size wr W)=>ZtD w.heap.size u3 l K A N S T W (KU d.o h) L.o b.a b.n b.s b.t Z I E G D F;have r:=λW (h:Below wr.heap.size wr W)=>YX w.heap.size u3 l K A N S T W (KU d.o h) L.o b.a b.n b.s hT Y
   have c0:wr.cell? ⟨g,q,none⟩=some (.int .i64 K):=b.c 0 _ rfl;have c1:=b.c 1 _ rfl;have c2:=b.c 2 _ rfl;have c3:=b.c 3 _ rfl;have c4:=b.c 4 _ rfl;have c5:=b.c 5 _ rfl;have c6:=b.c 6 _ rfl;have c7:=b.c 7 _ rfl;have c8:=b.c 8 _ rfl;have c9:=b.c 9 _ rfl;unfold Mk at v r;replace v:=Z_ v;replace r:=Z_ r;have P:=b.lt;clear Z I E G D F hT Y;go_wp2_with fail;refine(v.o _ (Qh _ _)).mono ?_;rintro e w1 ⟨rfl,B⟩;have m:=b.step B;have C:Kp _:=⟨O.o.trans (B.mono O.o.size)⟩
   have c0:w1.cell? ⟨g,q,none⟩=some (.int .i64 K):=m.c 0 _ rfl;have c1:=m.c 1 _ rfl;have c2:=m.c 2 _ rfl;have c3:=m.c 3 _ rfl;have c4:=m.c 4 _ rfl;have c5:=m.c 5 _ rfl;have c6:=m.c 6 _ rfl;have c7:=m.c 7 _ rfl;have c8:=m.c 8 _ rfl;have c9:=m.c 9 _ rfl;have P:=m.lt;replace B:=Z_ B;clear b m O v;go_wp2_with fail;refine(r.o _ B.o).mono ?_;rintro e w2 ⟨t,ok,rfl,M,U⟩;have f:=C.o.trans (U.mono C.o.size);have k:=KU d.o (B.o.trans (U.mono B.o.size));replace f:=Z_ f;replace k:=Z_ k;replace M:=Z_ M;have aj:(i:Int)<9223372036854775807:=by omega
   clear c0 c1 c2 c3 c4 c5 c6 c7 c8 c9 r B U C d P;cases ok
   ·go_wp2_with fail;go_roundw;case rel=>exact⟨i+1,l,by omega,by go_num,by omega,L,k,f⟩
    case measure=>simp[intOf];omega
   ·have af:=f.o.size;go_wp2_with (at_builtin;refine wpList_append_own _ rfl _ _ 46 rfl w.heap.size 9 i0 (.string {data:=#[]}) 1 16 Tryz.underlying46 aa ag ah ai rfl (by decide) _ _ _ rfl (k.o.alloc _) ⟨w2.heap.size,0,none⟩ 1 1 [.string t] rfl rfl ?a1 ?a2 ?a3 ?a4 ?a5 ?_)
    case a1=>
     intro j u J;match j,J with
     | 0,J=>simp at J;subst J;simp[Addr.add]
    case a2=>intro u hu;simp at hu;subst hu;rfl
    case a3=>unfold maxLen;omega
    case a4=>omega
    case a5=>simp;omega
    intro v' w3 z y _;have ae:Kp (w3.ownsRow w.heap.size 9 1 v' (l++[t]).length (Jw (l++[t]))):=⟨by unfold Jw;rw[QK,Qe];exact z⟩
    have X:Kp (Below w.heap.size w w3):=⟨(f.o.alloc af _).grown y (by simp;omega) (λj J=>(k.o.lt j J).1)⟩
    have ad:Kp (∀x,x∈l++[t]->x.size<=maxLen):=⟨λx hx=>by
     rcases QI.1 hx with h|h
     ·exact L.o x h
     ·rw[QA.1 h];exact M.o⟩
    have Q:(l++[t]).length<=i+1:=by rw[Qe];simp;omega
    clear z y k f L M;go_wp2_with fail;go_roundw;case rel=>exact⟨i+1,l++[t],by omega,by go_num,Q,ad,ae,X⟩
    case measure=>simp[intOf];omega
  ·have e1:i=n:=by omega
   have ab:¬(i:Int)<(n:Int):=by omega
   clear R Z I E G D F hT Y d L;go_wp2;go_ret;exact⟨rfl,O.o⟩
end Go.Proofs.YtcnbifdlkalimabGreat
