/- Lemmas; their conditions stand in each. -/
import Derived.Test.YtcnbifdlkalimabGreatTrnF
import Derived.Test.YtcnbifdlkalimabGreatSrcB
namespace Go.Proofs.YtcnbifdlkalimabGreat
open Go.RowKit Go.Proofs.Tryz
set_option linter.all false
set_option maxRecDepth 100000
variable{n:Int}{b o:Nat}{f:Nat->Nat->Bool}{w:World}
structure CG(w:World)(b o:Nat)(n:Int)(f:Nat->Nat->Bool):Prop where
 lt:b<w.heap.size
 c0:w.cell? ⟨b,o,none⟩=some (.int .i64 n)
 c:∀i j:Nat,i<6->j<6->w.cell? ⟨b,o+1+6*i+j,none⟩=some (.bool (f i j))
 f:∀k:Nat,k<37->w.frozen? ⟨b,o+k,none⟩=false
structure GC(w w':World)(b o:Nat):Prop where
 os:w'.os=w.os
 tape:w'.tape=w.tape
 output:w'.output=w.output
 size:w'.heap.size=w.heap.size
 block:∀k,k≠b->w'.heap[k]?=w.heap[k]?
 cell:∀k,(k<=o∨o+37<=k)->w'.cell? ⟨b,k,none⟩=w.cell? ⟨b,k,none⟩
 frozen:∀k,w'.frozen? ⟨b,k,none⟩=w.frozen? ⟨b,k,none⟩
theorem GC.refl(w:World)(b o:Nat):GC w w b o:=⟨rfl,rfl,rfl,rfl,λ_ _=>rfl,λ_ _=>rfl,λ_=>rfl⟩
theorem GC.set{x:World}{k:Nat}(h:GC x w b o)(c:o<k∧k<o+37)(v:Value):GC x (w.setCell ⟨b,k,none⟩ v) b o:=
 ⟨h.os,h.tape,h.output,by simpa using h.size,λi a=>(Below.heap_setCell w ⟨b,k,none⟩ _ i a).trans (h.block i a),λi a=>(Bc _ _ _ _ _ (by omega)).trans (h.cell i a),λi=>(World.frozen?_setCell ..).trans (h.frozen i)⟩
theorem CG.set{i j:Nat}(H:CG w b o n f)(h:i<6)(l:j<6)(v:Bool):CG (w.setCell ⟨b,o+1+6*i+j,none⟩ (.bool v)) b o n (λx y=>if x=i∧y=j then v else f x y):=by
 refine⟨by simpa using H.lt,(Bc _ _ _ _ _ (by omega)).trans H.c0,λx y a d=>?_,λk g=>by rw[World.frozen?_setCell];exact H.f k g⟩;by_cases e:x=i∧y=j
 ·obtain⟨rfl,rfl⟩:=e;rw[Qk _ _ _ (H.c x y a d),if_pos ⟨rfl,rfl⟩]
 ·rw[Bc _ _ _ _ _ (by omega),if_neg e];exact H.c x y a d
theorem CG.congr{g:Nat->Nat->Bool}(H:CG w b o n f)(h:∀i j,i<6->j<6->f i j=g i j):CG w b o n g:=
 ⟨H.lt,H.c0,λi j a d=>by rw[<-h i j a d];exact H.c i j a d,H.f⟩
theorem CG.step{w':World}(H:CG w b o n f)(a:Below w.heap.size w w'):CG w' b o n f:=
 ⟨Qq H.lt a.size,by rw[a.cell (p:=⟨b,o,none⟩) H.lt];exact H.c0,λi j d e=>by rw[a.cell (p:=⟨b,o+1+6*i+j,none⟩) H.lt];exact H.c i j d e,λk g=>by rw[a.frozen (p:=⟨b,o+k,none⟩) H.lt];exact H.f k g⟩
set_option maxHeartbeats 6400000
theorem OF(b o i j:Nat)(n:Int)(f:Nat->Nat->Bool)(w:World)(H:CG w b o n f)(d:i<6)(h:j<6) :
  Calls prog 96 #[.pointer (some ⟨b,o,none⟩),.int .i64 i,.int .i64 j] w λe l=>e=.returned (.bool (f i j))∧l=w:=by
 have a:=H.c i j d h;have g:(i:Int)<6:=by omega
 have k:(j:Int)<6:=by omega
 generalize f i j=v at *;rw[show o+1+6*i+j=o+1+i*6+j from by omega]at a;clear H;go_in;go_wp2;go_ret;exact⟨rfl,rfl⟩
def DN(f:Nat->Nat->Bool)(a c i j:Nat):Nat->Nat->Bool:=λx y=>if x<i∨(x=i∧y<j) then f x y||(f x a&&f c y) else f x y
theorem Zsa(f:Nat->Nat->Bool)(a c i j x:Nat):DN f a c i j x a=f x a:=by
 unfold DN;split
 ·cases f x a<;>simp
 ·rfl
theorem Zsb(f:Nat->Nat->Bool)(a c i j y:Nat):DN f a c i j c y=f c y:=by
 unfold DN;split
 ·cases f c y<;>simp
 ·rfl
theorem SC(f:Nat->Nat->Bool)(a c i j:Nat):(λx y=>if x=i∧y=j then f i j||(f i a&&f c j) else DN f a c i j x y)=DN f a c i (j+1):=by
 funext x y;unfold DN;by_cases e:x=i∧y=j
 ·obtain⟨rfl,rfl⟩:=e;rw[if_pos ⟨rfl,rfl⟩,if_pos (by omega)]
 ·rw[if_neg e];by_cases d:x<i∨(x=i∧y<j)
  ·rw[if_pos d,if_pos (by omega)]
  ·rw[if_neg d,if_neg (by omega)]
theorem ZqU(f:Nat->Nat->Bool)(a c i j:Nat):DN f a c i j i j=f i j:=by unfold DN;rw[if_neg (by omega)]
theorem ZoJ(f:Nat->Nat->Bool)(a c i:Nat):∀x y,x<6->y<6->DN f a c i 6 x y=DN f a c (i+1) 0 x y:=by
 intro x y _ d;unfold DN;by_cases e:x<i∨(x=i∧y<6)
 ·rw[if_pos e,if_pos (by omega)]
 ·rw[if_neg e,if_neg (by omega)]
theorem XS(f:Nat->Nat->Bool)(a c:Nat):DN f a c 0 0=f:=by funext x y;unfold DN;rw[if_neg (by omega)]
theorem ZoK(f:Nat->Nat->Bool)(a c:Nat):∀x y,x<6->y<6->DN f a c 6 0 x y=(f x y||(f x a&&f c y)):=by intro x y d _;unfold DN;rw[if_pos (by omega)]
theorem ZoL(b o a c:Nat)(n:Int)(f:Nat->Nat->Bool)(w:World)(H:CG w b o n f)(O:(a:Int)<n)(P:(c:Int)<n)(S:n<=6) :
  Calls prog 91 #[.pointer (some ⟨b,o,none⟩),.int .i64 a,.int .i64 c] w λe J=>e=.returned (.tuple #[])∧CG J b o n (λx y=>f x y||(f x a&&f c y))∧GC w J b o:=by
 have L:=H.c0;have G:Kp (CG w b o n (DN f a c 0 0)):=⟨by rw[XS];exact H⟩
 have z:a<6:=by omega
 have A:c<6:=by omega
 clear H;go_in;go_wp2_with fail;go_loopw [30] (λE wr=>∃i:Nat,i<=6∧E=.int .i64 i∧Kp (CG wr b o n (DN f a c i 0))∧Kp (GC w wr b o)) (λE _=>6-(intOf E).toNat);case atStart=>exact⟨0,by omega,rfl,G,⟨GC.refl _ _ _⟩⟩
 case round=>
  clear G L;obtain⟨i,Q,rfl,d,k⟩:=hrel;by_cases l:i<6
  ·have M:(i:Int)<6:=by omega
   obtain⟨T,D⟩:∃x,x=wr:=⟨_,rfl⟩
   go_wp2_with fail;go_loopw [33] (λF wr=>∃j:Nat,j<=6∧F=.int .i64 j∧Kp (CG wr b o n (DN f a c i j))∧Kp (GC w wr b o)) (λF _=>6-(intOf F).toNat);case atStart=>exact⟨0,by omega,rfl,d,k⟩
   case round=>
    clear d k D;obtain⟨j,R,rfl,d,k⟩:=hrel;by_cases m:j<6
    ·have N:(j:Int)<6:=by omega
     have h:=OF b o i a n _ wr d.o l z;rw[Zsa]at h;have s:=OF b o c j n _ wr d.o A m;rw[Zsb]at s;have u:=d.o.c i j l m;have v:=d.o.f (1+6*i+j) (by omega);rw[show o+(1+6*i+j)=o+1+i*6+j from by omega]at v;rw[show o+1+6*i+j=o+1+i*6+j from by omega]at u;replace h:=Z_ h;replace s:=Z_ s;by_cases r:(f i a&&f c j)=true
     ·have q:Kp (CG (wr.setCell ⟨b,o+1+i*6+j,none⟩ (.bool true)) b o n (DN f a c i (j+1))):=⟨by
       have:=d.o.set l m true;rw[show o+1+6*i+j=o+1+i*6+j from by omega]at this;rw[<-SC,r,Bool.or_true];exact this⟩
      have K:Kp (GC w (wr.setCell ⟨b,o+1+i*6+j,none⟩ (.bool true)) b o):=⟨k.o.set (by omega) _⟩
      rw[Qr]at r;rw[r.1]at h;rw[r.2]at s;clear d k r;go_wp2_with fail;refine h.o.mono ?_;rintro e t ⟨rfl,p⟩;subst p;go_wp2_with fail;refine s.o.mono ?_;rintro e t ⟨rfl,p⟩;subst p;go_wp2_with fail;go_roundw;case rel=>exact⟨j+1,by omega,by go_num,q,K⟩
      case measure=>simp[intOf];omega
     ·have g:(f i a&&f c j)=false:=by simpa using r
      have q:Kp (CG wr b o n (DN f a c i (j+1))):=⟨by
       rw[<-SC,g,Bool.or_false];refine d.o.congr λx y _ _=>?_;by_cases e:x=i∧y=j
       ·obtain⟨rfl,rfl⟩:=e;rw[if_pos ⟨rfl,rfl⟩,ZqU]
       ·rw[if_neg e]⟩
      clear d;cases I:f i a with
      | false=>
       rw[I]at h;clear r g;go_wp2_with fail;refine h.o.mono ?_;rintro e t ⟨rfl,p⟩;subst p;go_wp2_with fail;go_roundw;case rel=>exact⟨j+1,by omega,by go_num,q,k⟩
       case measure=>simp[intOf];omega
      | true=>
       rw[I]at h g;rw[show f c j=false from by simpa using g]at s;clear r g;go_wp2_with fail;refine h.o.mono ?_;rintro e t ⟨rfl,p⟩;subst p;go_wp2_with fail;refine s.o.mono ?_;rintro e t ⟨rfl,p⟩;subst p;go_wp2_with fail;go_roundw;case rel=>exact⟨j+1,by omega,by go_num,q,k⟩
       case measure=>simp[intOf];omega
    ·have C:j=6:=by omega
     subst C;have q:Kp (CG wr b o n (DN f a c (i+1) 0)):=⟨d.o.congr (ZoJ f a c i)⟩
     clear d m;go_wp2_with fail;go_roundw;case rel=>exact⟨i+1,by omega,by go_num,q,k⟩
     case measure=>simp[intOf];omega
  ·have B:i=6:=by omega
   subst B;have q:Kp (CG wr b o n (λx y=>f x y||(f x a&&f c y))):=⟨d.o.congr (ZoK f a c)⟩
   clear d l;go_wp2_with fail;first|go_end0|refine Qi (Qp rfl _ _ _) rfl ?_
   exact⟨rfl,q.o,k.o⟩
def ZS(n:Int)(f:Nat->Nat->Bool)(k:Nat):Value:=if k=0 then .int .i64 n else .bool (f ((k-1)/6) ((k-1)%6))
theorem Py(n:Int)(f:Nat->Nat->Bool)(k:Nat):(ZS n f k).oneCell'=true:=by unfold ZS;split<;>rfl
theorem ZoM:prog.built 100 []=some (Bg 37 (ZS 0 (λ_ _=>false))):=by kernel_rfl
theorem ZtA(w:World)(a c:Obj):((w.alloc a).alloc c).heap[w.heap.size]?=some a:=by rw[Below.heap_alloc (w.alloc a) c w.heap.size (by simp)];exact heap_alloc_new w a
theorem VH(w:World)(c a:Obj):((w.alloc c).alloc a).heap[w.heap.size+1]?=some a:=by have:=heap_alloc_new (w.alloc c) a;simpa using this
theorem CG.of_cells(c:b<w.heap.size)(h:∀j,j<37->w.cell? ⟨b,o+j,none⟩=some (ZS n f j))(a:∀j,j<37->w.frozen? ⟨b,o+j,none⟩=false):CG w b o n f:=by refine⟨c,by have:=h 0 (by omega);simpa [ZS] using this,λi j d e=>?_,a⟩;have:=h (1+6*i+j) (by omega);rw[show o+(1+6*i+j)=o+1+6*i+j from by omega]at this;rw[this];unfold ZS;rw[if_neg (by omega),show (1+6*i+j-1)/6=i from by omega,show (1+6*i+j-1)%6=j from by omega]
theorem CG.cells(H:CG w b o n f)(k:Nat)(a:k<37):w.cell? ⟨b,o+k,none⟩=some (ZS n f k):=by
 unfold ZS;by_cases e:k=0
 ·subst e;rw[if_pos rfl];exact H.c0
 ·rw[if_neg e];have:=H.c ((k-1)/6) ((k-1)%6) (by omega) (by omega);rw[show o+1+6*((k-1)/6)+(k-1)%6=o+k from by omega]at this;exact this
theorem Wp(n:Int)(w:World)(h0:0<=n)(h6:n<=6) :
  Calls prog 88 #[.int .i64 n] w λe Z=>e=.returned (.agg (Bg 37 (ZS n (λi j=>decide (i=j∧i<6)))))∧Below w.heap.size w Z:=by
 obtain⟨q,a⟩:∃q,q=((w.alloc (.cells #[.int .i64 0,.bool false,.bool false,.bool false,.bool false,.bool false,.bool false,.bool false,.bool false,.bool false,.bool false,.bool false,.bool false,.bool false,.bool false,.bool false,.bool false,.bool false,.bool false,.bool false,.bool false,.bool false,.bool false,.bool false,.bool false,.bool false,.bool false,.bool false,.bool false,.bool false,.bool false,.bool false,.bool false,.bool false,.bool false,.bool false,.bool false] 100)).alloc (.cells #[.int .i64 0,.bool false,.bool false,.bool false,.bool false,.bool false,.bool false,.bool false,.bool false,.bool false,.bool false,.bool false,.bool false,.bool false,.bool false,.bool false,.bool false,.bool false,.bool false,.bool false,.bool false,.bool false,.bool false,.bool false,.bool false,.bool false,.bool false,.bool false,.bool false,.bool false,.bool false,.bool false,.bool false,.bool false,.bool false,.bool false,.bool false] 100)):=⟨_,rfl⟩
 have O:q.heap.size=w.heap.size+2:=by rw[a];simp
 have l:Bk q (w.heap.size+1) 37:=by rw[a];exact Bk.of_row (VH _ _ _) (by kernel_rfl)
 have D:Bk q w.heap.size 37:=by rw[a];exact Bk.of_row (ZtA _ _ _) (by kernel_rfl)
 have x:Below w.heap.size w q:=by rw[a];exact((Qh _ _).alloc (Qb _) _).alloc (by simp) _
 obtain⟨v,d⟩:∃v,v=q.setCells (w.heap.size+1) 0 (Bg 37 (ZS 0 (λ_ _=>false))).toList:=⟨_,rfl⟩
 have u:AG (w.heap.size+1) q.heap.size q v:=by rw[d];exact Z6 (AG.refl _ _ _) _ _
 have t:CG v (w.heap.size+1) 0 0 (λ_ _=>false):=CG.of_cells (by have:=u.size;omega) (by rw[d];exact ZE q _ 0 37 _ l.c) (λj M=>by rw[d,QQ];exact l.f j M);have E:=D.but u (by omega);have B:Below w.heap.size w v:=x.trans ((u.mono x.size).below (by omega));obtain⟨g,z⟩:∃g,g=w.heap.size+1:=⟨_,rfl⟩
 have W:w.heap.size<g:=by omega
 rw[<-z]at l d t;have U:v.cell? ⟨w.heap.size+1,0,none⟩=some (.int .i64 0):=by rw[<-z];exact t.c0
 have V:v.frozen? ⟨w.heap.size+1,0,none⟩=false:=by rw[<-z];exact t.f 0 (by omega)
 obtain⟨F,h⟩:∃F,F=v.setCell ⟨g,0,none⟩ (.int .i64 n):=⟨_,rfl⟩
 have G:CG F g 0 n (λi j=>decide (i=j∧i<0)):=by rw[h];refine⟨by simpa using t.lt,World.cell?_setCell_same _ _ _ t.c0,λi j X M=>?_,λk Q=>by rw[World.frozen?_setCell];exact t.f k Q⟩;rw[Bc _ _ _ _ _ (by omega),t.c i j X M];simp
 have r:Below w.heap.size w F:=by rw[h];exact B.setCell (by show w.heap.size<=g;omega) _
 have s:Bk F w.heap.size 37:=E.but (by rw[h];exact(AG.refl g _ _).setCell _ _) (by omega);replace a:=Z_ a;replace d:=Z_ d;replace h:=Z_ h;replace z:=Z_ z;replace G:=Z_ G;replace r:=Z_ r;replace s:=Z_ s;clear D x u t E B O;go_in;repeat (first|refine IP 100 #[] rfl _ ZoM ?_|(refine Zp 100 (.tmp 3) (.tmp 5) rfl g 0 37 (ZS 0 (λ_ _=>false)) (by rw[z.o];rfl) rfl (by kernel_rfl) (by rw[<-a.o];exact l.c) (by rw[<-a.o];exact l.f) (λj _=>Py _ _ j) ?_;rw[<-a.o,<-d.o];dsimp only [Act.put])|go_step)
 rw[<-z.o,<-h.o];clear U V a d h l;go_loopw [15] (λP wr=>∃k:Nat,k<=6∧P=.int .i64 k∧Kp (CG wr g 0 n (λi j=>decide (i=j∧i<k)))∧Kp (Below w.heap.size w wr)∧Kp (Bk wr w.heap.size 37)) (λP _=>6-(intOf P).toNat);case atStart=>exact⟨0,by omega,rfl,G,r,s⟩
 case round=>
  clear G r s;obtain⟨k,Q,rfl,A,u,C⟩:=hrel;by_cases m:k<6
  ·have Y:(k:Int)<6:=by omega
   have I:=A.o.c k k m m;have J:=A.o.f (1+6*k+k) (by omega);rw[show 0+(1+6*k+k)=1+k*6+k from by omega]at J;rw[show 0+1+6*k+k=1+k*6+k from by omega]at I;have R:Kp (CG (wr.setCell ⟨g,1+k*6+k,none⟩ (.bool true)) g 0 n (λi j=>decide (i=j∧i<k+1))):=⟨by
    have:=A.o.set m m true;rw[show 0+1+6*k+k=1+k*6+k from by omega]at this;refine this.congr λi j _ _=>?_;by_cases e:i=k∧j=k
    ·obtain⟨rfl,rfl⟩:=e;rw[if_pos ⟨rfl,rfl⟩];exact(Qv ⟨rfl,by omega⟩).symm
    ·rw[if_neg e];apply QM.2;rw[decide_eq_true_eq,decide_eq_true_eq];omega⟩
   have S:Kp (Below w.heap.size w (wr.setCell ⟨g,1+k*6+k,none⟩ (.bool true))):=⟨u.o.setCell (by show w.heap.size<=g;omega) _⟩
   have T:Kp (Bk (wr.setCell ⟨g,1+k*6+k,none⟩ (.bool true)) w.heap.size 37):=⟨C.o.but ((AG.refl g _ _).setCell _ _) (by omega)⟩
   clear A u C;go_wp2_with fail;go_roundw;case rel=>exact⟨k+1,by omega,by go_num,R,S,T⟩
   case measure=>simp[intOf];omega
  ·have N:k=6:=by omega
   subst N;obtain⟨H,p⟩:∃H:World,wr.setCells w.heap.size 0 (Bg 37 (ZS n (λi j=>decide (i=j∧i<6)))).toList=H:=⟨_,rfl⟩
   have y:Kp (∀j,j<37->H.cell? ⟨w.heap.size,0+j,none⟩=some (ZS n (λi j=>decide (i=j∧i<6)) j)):=⟨by rw[<-p];exact ZE wr w.heap.size 0 37 _ C.o.c⟩
   have K:Below w.heap.size w H:=by rw[<-p];exact Hs u.o (b:=w.heap.size) (by omega) _ 0
   replace p:=Z_ p;have L:=A.o.cells;clear m;repeat (first|refine KO 100 (.tmp 3) rfl g 0 37 (ZS n (λi j=>decide (i=j∧i<6))) rfl _ Tryz.underlying100 rfl (by kernel_rfl) L ?_|(refine Zp 100 (.tmp 2) (.tmp 24) rfl w.heap.size 0 37 (ZS n (λi j=>decide (i=j∧i<6))) rfl rfl (by kernel_rfl) C.o.c C.o.f (λj _=>Py _ _ j) ?_;rw[p.o];dsimp only [Act.put])|go_step)
   refine Qi (Ms (by rfl) _ _ w.heap.size 0 37 _ _ rfl Tryz.underlying100 rfl (by kernel_rfl) y.o) rfl ⟨rfl,K⟩
def Z9(f:Nat->Nat->Bool)(m k:Nat):List Int:=(List.range k).map λi=>if f (i/m) (i%m)=true then 49 else 48
theorem Rk(f:Nat->Nat->Bool)(m k:Nat):(Z9 f m k).length=k:=by simp[Z9]
theorem Rl(f:Nat->Nat->Bool)(m:Nat):Z9 f m (m*m)=cells f m:=rfl
theorem Rb(f:Nat->Nat->Bool){m a c:Nat}(d:c<m):Z9 f m (a*m+c+1)=Z9 f m (a*m+c)++[if f a c=true then 49 else 48]:=by
 unfold Z9;rw[List.range_succ,QK];have e:(a*m+c)/m=a:=by rw[Nat.mul_comm,Nat.mul_add_div (by omega),Nat.div_eq_of_lt d];omega
 have g:(a*m+c)%m=c:=by rw[Nat.mul_comm,Nat.mul_add_mod,Nat.mod_eq_of_lt d]
 simp[e,g]
theorem Vz{m a c:Nat}(e:m<=6)(d:a<=m)(g:c<=m):a*m+c<=42:=by
 have:=Us d e;have:m*6<=36:=by omega
 omega
theorem AF.grow{w':World}{vs:List Value}{d:Option Nat}(h:AF w b vs)(e:w.grownBy w' d)(a:some b≠d):AF w' b vs:=
 ⟨Qq h.lt e.size,λi v g=>by rw[Qo (w:=w) (e.block b h.lt a)];exact h.c i v g,λi v g=>by rw[Qz (w:=w) (e.block b h.lt a)];exact h.f i v g⟩
theorem XT(b o m:Nat)(f:Nat->Nat->Bool)(w:World)(H:CG w b o m f)(hm:m<=6) :
  Calls prog 40 #[.pointer (some ⟨b,o,none⟩)] w λe w'=>e=.returned (.string (bs (cells f m)))∧Below w.heap.size w w':=by
 have aa:=H.lt;obtain⟨Y,z,C,D,E⟩:=AX Na;obtain⟨J,q⟩:∃J,J=w.alloc (.cells #[] 5):=⟨_,rfl⟩
 have W:Kp (J.ownsRow w.heap.size 5 1 (.slice (some ⟨w.heap.size,0,none⟩) 0 0) 0 ((Z9 f m 0).map (Value.int .u8))):=⟨by
  rw[q];have:=World.ownsRow_lit (base:=w.heap.size) (e:=5) (size:=1) w #[] 0 (by omega) (by unfold maxLen;omega) rfl;simpa [Z9] using this⟩
 have U:Kp (Below w.heap.size w J):=⟨by rw[q];exact(Qh _ _).alloc (Qb _) _⟩
 have V:Kp _:=⟨H⟩
 replace q:=Z_ q;have ab:(m:Int)<=6:=by omega
 clear H;go_in;go_wp2_with fail;rw[<-q.o];go_loopw [3,4] (λS K wr=>∃a:Nat,a<=m∧K=.int .i64 a∧Kp (wr.ownsRow w.heap.size 5 1 S (a*m) ((Z9 f m (a*m)).map (Value.int .u8)))∧Kp (Below w.heap.size w wr)) (λ_ K _=>m-(intOf K).toNat);case atStart=>exact⟨0,by omega,rfl,by rw[Nat.zero_mul];exact W,U⟩
 case round=>
  clear W U;obtain⟨a,ha,rfl,d,p⟩:=hrel;have r:=V.o.step p.o;have X:=r.c0;by_cases O:a<m
  ·have N:(a:Int)<(m:Int):=by omega
   obtain⟨wq,R⟩:∃x,x=wr:=⟨_,rfl⟩
   clear r;go_wp2_with fail;go_loopw [3,5] (λS L wr=>∃c:Nat,c<=m∧L=.int .i64 c∧Kp (wr.ownsRow w.heap.size 5 1 S (a*m+c) ((Z9 f m (a*m+c)).map (Value.int .u8)))∧Kp (Below w.heap.size w wr)) (λ_ L _=>m-(intOf L).toNat);case atStart=>exact⟨0,by omega,rfl,d,p⟩
   case round=>
    clear d p X R;obtain⟨c,hc,rfl,d,p⟩:=hrel;have r:=V.o.step p.o;have X:=r.c0;by_cases t:c<m
    ·have Q:(c:Int)<(m:Int):=by omega
     have G:=OF b o a c m f wr r (by omega) (by omega);have i:=Rb f (a:=a) t;have ad:=Vz hm ha hc;have B:=p.o.size;replace G:=Z_ G;replace i:=Z_ i;clear r;cases hf:f a c;all_goals
      rw[hf]at G i;go_wp2_with fail;refine G.o.mono ?_;rintro e Z ⟨rfl,hw⟩;subst hw
     ·go_wp2_with (at_builtin;refine wpList_append_own _ rfl _ _ 56 rfl w.heap.size 5 Y (.int .u8 0) 1 1 Tryz.underlying56 z C D E rfl (by decide) _ _ _ rfl (d.o.alloc _) ⟨Z.heap.size,0,none⟩ 1 1 [.int .u8 48] rfl rfl ?a1 ?a2 ?a3 ?a4 ?a5 ?_)
      case a1=>
       intro j u l;match j,l with
       | 0,l=>simp at l;subst l;simp[Addr.add]
      case a2=>intro u A;simp at A;subst A;rfl
      case a3=>unfold maxLen;omega
      case a4=>omega
      case a5=>simp;omega
      intro T F h g _;have k:Kp (F.ownsRow w.heap.size 5 1 T (a*m+(c+1)) ((Z9 f m (a*m+(c+1))).map (Value.int .u8))):=⟨by rw[<-Uv,i.o,QK];exact h⟩
      have s:Kp (Below w.heap.size w F):=⟨(p.o.alloc B _).grown g (by simp;omega) (λj l=>(d.o.lt j l).1)⟩
      clear h g d p i;go_wp2_with fail;go_roundw;case rel=>exact⟨c+1,by omega,by go_num,k,s⟩
      case measure=>simp[intOf];omega
     ·go_wp2_with (at_builtin;refine wpList_append_own _ rfl _ _ 56 rfl w.heap.size 5 Y (.int .u8 0) 1 1 Tryz.underlying56 z C D E rfl (by decide) _ _ _ rfl (d.o.alloc _) ⟨Z.heap.size,0,none⟩ 1 1 [.int .u8 49] rfl rfl ?a1 ?a2 ?a3 ?a4 ?a5 ?_)
      case a1=>
       intro j u l;match j,l with
       | 0,l=>simp at l;subst l;simp[Addr.add]
      case a2=>intro u A;simp at A;subst A;rfl
      case a3=>unfold maxLen;omega
      case a4=>omega
      case a5=>simp;omega
      intro T F h g _;have k:Kp (F.ownsRow w.heap.size 5 1 T (a*m+(c+1)) ((Z9 f m (a*m+(c+1))).map (Value.int .u8))):=⟨by rw[<-Uv,i.o,QK];exact h⟩
      have s:Kp (Below w.heap.size w F):=⟨(p.o.alloc B _).grown g (by simp;omega) (λj l=>(d.o.lt j l).1)⟩
      clear h g d p i;go_wp2_with fail;go_roundw;case rel=>exact⟨c+1,by omega,by go_num,k,s⟩
      case measure=>simp[intOf];omega
    ·have P:c=m:=by omega
     subst P;have e1:a*c+c=(a+1)*c:=by rw[Nat.add_mul,Nat.one_mul]
     rw[e1]at d;have Q:¬(c:Int)<(c:Int):=by omega
     clear r t;go_wp2_with fail;go_roundw;case rel=>exact⟨a+1,by omega,by go_num,d,p⟩
     case measure=>simp[intOf];omega
  ·have M:a=m:=by omega
   subst M;have v:=MN (Z9 f a (a*a)) (by rw[Rk];exact d.o);rw[Rl]at v;obtain⟨y,I⟩:∃y,bs (cells f a)=y:=⟨_,rfl⟩
   rw[I]at v;replace I:=Z_ I;have N:¬(a:Int)<(a:Int):=by omega
   clear r O d;go_wp2;go_ret;exact⟨by rw[I.o];rfl,p.o⟩
end Go.Proofs.YtcnbifdlkalimabGreat
