/- Lemmas; their conditions stand in each. -/
import Derived.Test.YtcnbifdlkalimabGreatWayB
import Derived.Deep.RegionHeld3
namespace Go.Proofs.YtcnbifdlkalimabGreat
open Go.RowKit Go.Proofs.Tryz
set_option linter.all false
set_option maxRecDepth 100000
variable{c:Int}{xs:List Value}{B b g k z:Nat}{S S':Nat->Value}{r:Rd}{q:Tq}{v:Value}{w w':World}{s:ZB}
structure Cr(w:World)(b:Nat)(s:ZB)(r:Rd):Prop where
 lt:b<w.heap.size
 c0:w.cell? ⟨b,0,none⟩=some (.string s)
 c1:w.cell? ⟨b,1,none⟩=some (.int .i64 r.a)
 c2:w.cell? ⟨b,2,none⟩=some (.int .i64 r.er)
 f1:w.frozen? ⟨b,1,none⟩=false
 f2:w.frozen? ⟨b,2,none⟩=false
structure Zi(w w':World)(b:Nat)(r:Rd):Prop where
 os:w'.os=w.os
 tape:w'.tape=w.tape
 output:w'.output=w.output
 size:w'.heap.size=w.heap.size
 block:∀k,k≠b->w'.heap[k]?=w.heap[k]?
 cell:∀k,k≠1->k≠2->w'.cell? ⟨b,k,none⟩=w.cell? ⟨b,k,none⟩
 frozen:∀k,w'.frozen? ⟨b,k,none⟩=w.frozen? ⟨b,k,none⟩
 c1:w'.cell? ⟨b,1,none⟩=some (.int .i64 r.a)
 c2:w'.cell? ⟨b,2,none⟩=some (.int .i64 r.er)
theorem Cr.to{r':Rd}(H:Cr w b s r)(h:Zi w w' b r'):Cr w' b s r':=
 ⟨by rw[h.size];exact H.lt,by rw[h.cell 0 (by omega) (by omega)];exact H.c0,h.c1,h.c2,by rw[h.frozen];exact H.f1,by rw[h.frozen];exact H.f2⟩
theorem Zi.trans{x y z:World}{r':Rd}(h:Zi x y b r)(k:Zi y z b r'):Zi x z b r':=
 ⟨k.os.trans h.os,k.tape.trans h.tape,k.output.trans h.output,k.size.trans h.size,λi e=>(k.block i e).trans (h.block i e),λi a d=>(k.cell i a d).trans (h.cell i a d),λi=>(k.frozen i).trans (h.frozen i),k.c1,k.c2⟩
theorem Zi.refl(H:Cr w b s r):Zi w w b r:=
 ⟨rfl,rfl,rfl,rfl,λ_ _=>rfl,λ_ _ _=>rfl,λ_=>rfl,H.c1,H.c2⟩
theorem Zi.drewN(h:Zi w w' b r)(k:Nat):Zi w (w'.drewN k) b r:=
 ⟨h.os,h.tape,h.output,h.size,h.block,h.cell,h.frozen,h.c1,h.c2⟩
theorem Bc(w:World)(b i j:Nat)(x:Value)(h:i≠j):(w.setCell ⟨b,i,none⟩ x).cell? ⟨b,j,none⟩=w.cell? ⟨b,j,none⟩:=
 QN w ⟨b,i,none⟩ ⟨b,j,none⟩ x (by intro k;have:=congrArg Addr.off k;simp at this;omega)
theorem Zi.setA(H:Cr w b s r)(a:Nat):Zi w (w.setCell ⟨b,1,none⟩ (.int .i64 a)) b ⟨a,r.er⟩:=
 ⟨rfl,rfl,rfl,by simp,λk d=>QH w ⟨b,1,none⟩ _ k d,λk e _=>Bc _ _ _ _ _ (by omega),λk=>Qu ..,Qk _ _ _ H.c1,by rw[Bc _ _ _ _ _ (by omega)];exact H.c2⟩
theorem Zi.setE(H:Cr w b s r)(e:Int):Zi w (w.setCell ⟨b,2,none⟩ (.int .i64 e)) b ⟨r.a,e⟩:=
 ⟨rfl,rfl,rfl,by simp,λk d=>QH w ⟨b,2,none⟩ _ k d,λk f _=>Bc _ _ _ _ _ (by omega),λk=>Qu ..,by rw[Bc _ _ _ _ _ (by omega)];exact H.c1,Qk _ _ _ H.c2⟩
structure Ci(s:ZB)(r:Rd):Prop where
 sz:s.size<=300
 le:r.a<=s.size
set_option maxHeartbeats 6400000
theorem MK(b:Nat)(s:ZB)(r:Rd)(w:World)(H:Cr w b s r)(O:Ci s r) :
  Calls prog 210 #[.pointer (some ⟨b,0,none⟩)] w λe w'=>e=.returned (.int .u8 (here s r))∧∃k,w'=w.drewN k:=by
 obtain⟨a,f⟩:=r;have n:=H.c0;have o:w.cell? ⟨b,1,none⟩=some (.int .i64 a):=H.c1;have p:w.cell? ⟨b,2,none⟩=some (.int .i64 f):=H.c2;have A:=O.sz;have le:a<=s.size:=O.le;by_cases h:f=0
 ·subst h;by_cases i:a<s.size
  ·have y:=ZJ s a i;have d:here s ⟨a,0⟩=bv s a:=if_pos ⟨rfl,i⟩;rw[d];obtain⟨C,D⟩:=Zx s a;generalize bv s a=x at *;clear d H O;have j:decide ((a:Int)<0)=false:=Qx (by omega);have l:decide ((s.size:Int)<=(a:Int))=false:=Qx (by omega);have m:(a:Int)<(s.size:Int):=by omega
   go_in;go_wp2;go_quiet (fail);go_wp2;go_quiet (fail);go_wp2;go_ret;exact⟨rfl,_,World.drewN_drewN _ _ _⟩
  ·have d:here s ⟨a,0⟩=0:=if_neg λk=>i k.2;rw[d];have j:decide ((a:Int)<0)=false:=Qx (by omega)
   have l:decide ((s.size:Int)<=(a:Int))=true:=Qv (by omega);have t:s.size<=a:=by omega
   clear d H O i le;go_in;go_wp2;go_quiet (fail);go_wp2;go_ret;exact⟨rfl,_,rfl⟩
 ·have d:here s ⟨a,f⟩=0:=Tz h;rw[d];have u:(f != 0)=true:=QO.2 h;clear d H O h;go_in;go_wp2;go_quiet (fail);go_wp2;go_ret;exact⟨rfl,_,rfl⟩
theorem Zpm(h:here s r=32∨here s r=10):Aa s r=Aa s (nx r):=by
 have d:=JP (s:=s) (r:=r) (by omega);have e:here s r=bv s r.a:=if_pos d;rw[Fp d.1,Fp (by rw[EZ];exact d.1)];have:(nx r).a=r.a+1:=by unfold nx;rw[if_pos d.1]
 rw[this,PE d.2];rw[e]at h;unfold blk;rcases h with h|h<;>rw[h]<;>rfl
theorem WI(e:here s r≠32)(f:here s r≠10):Aa s r=r:=by
 by_cases d:r.er=0
 ·rw[Fp d,Kj]
  ·rw[<-d]
  ·rintro⟨a,b⟩;have h:here s r=bv s r.a:=if_pos ⟨d,a⟩;rw[h]at e f;unfold blk at b;simp[e,f]at b
 ·exact ZD d
theorem Fn(b:Nat)(s:ZB)(r:Rd)(w:World)(H:Cr w b s r)(O:Ci s r) :
  Calls prog 158 #[.pointer (some ⟨b,0,none⟩)] w λe w'=>e=.returned (.int .u8 (Ae s r))∧Zi w w' b (Aa s r):=by
 have R:=O.sz;go_in;go_wp2_with fail;refine(MK b s r w H O).mono ?_;rintro e X ⟨rfl,I,rfl⟩;have F:Kp (Zi w (w.drewN I) b r):=⟨(Zi.refl H).drewN I⟩
 have J:Kp _:=⟨H⟩
 have f:Kp (r.a<=s.size):=⟨O.le⟩
 clear H O;go_wp2_with fail;go_loopg [3] (Ah s r) (λg Q wr=>∃d:Rd,Q=.int .u8 (here s d)∧Kp (Aa s d=Aa s r)∧Kp (d.a<=s.size)∧Kp (Zi w wr b d)∧Kp (g=Ah s d));case atStart=>exact⟨r,rfl,⟨rfl⟩,f,F,⟨rfl⟩⟩
 case round=>
  clear F f;obtain⟨d,rfl,p,f,l,G⟩:=hrel;by_cases h:here s d=32∨here s d=10
  ·have D:=JP (s:=s) (r:=d) (by omega);have j:=J.o.to l.o;obtain⟨a,L⟩:=d;have M:L=0:=D.1;subst M;have y:a<s.size:=D.2;have V:wr.cell? ⟨b,1,none⟩=some (.int .i64 a):=j.c1;have W:=j.f1;have t:Zi wr (wr.setCell ⟨b,1,none⟩ (.int .i64 ((a:Int)+1))) b ⟨a+1,0⟩:=Zi.setA j (a+1);have E:=j.to t;have C:=MK b s ⟨a+1,0⟩ ((wr.setCell ⟨b,1,none⟩ (.int .i64 ((a:Int)+1)))) E ⟨R,y⟩;have i:Kp (Aa s ⟨a+1,0⟩=Aa s r):=⟨by rw[<-p.o,Zpm h];rfl⟩
   have N:Kp (Ah s ⟨a+1,0⟩<Ah s ⟨a,0⟩):=⟨KS (s:=s) (r:=⟨a,0⟩) (by omega)⟩
   have u:Kp (Zi w (wr.setCell ⟨b,1,none⟩ (.int .i64 ((a:Int)+1))) b ⟨a+1,0⟩):=⟨l.o.trans t⟩
   replace C:=Z_ C;clear t E j D l;have A:here s ⟨a,0⟩=32∨here s ⟨a,0⟩=10:=h;generalize here s ⟨a,0⟩=x at *;clear h;rcases A with rfl|rfl;all_goals
    go_wp2_with fail;refine C.o.mono ?_;rintro e Y ⟨rfl,P,rfl⟩;go_wp2_with fail;go_roundg (Ah s ⟨a+1,0⟩);case measure=>have m:=G.o;have n:=N.o;omega
    case rel=>exact⟨⟨a+1,0⟩,rfl,i,⟨by show a+1<=s.size;omega⟩,⟨u.o.drewN P⟩,⟨rfl⟩⟩
  ·have m:here s d≠32:=λc=>h (.inl c);have n:here s d≠10:=λc=>h (.inr c)
   have i:=WI m n;have K:Kp (here s d=Ae s r):=⟨by unfold Ae;rw[<-p.o,i]⟩
   have u:Kp (Zi w wr b (Aa s r)):=⟨by rw[<-p.o,i];exact l.o⟩
   have T:(here s d==32)=false:=Qf.2 m;have U:(here s d==10)=false:=Qf.2 n;clear i l h m n G p;generalize here s d=x at *;go_wp2;go_ret;exact⟨by rw[K.o];rfl,u.o⟩
theorem Ih(b:Nat)(s:ZB)(r:Rd)(w:World)(H:Cr w b s r)(O:Ci s r) :
  Calls prog 160 #[.pointer (some ⟨b,0,none⟩)] w λe w'=>e=.returned (.tuple #[])∧Zi w w' b (nx r):=by
 obtain⟨a,d⟩:=r;have h:w.cell? ⟨b,1,none⟩=some (.int .i64 a):=H.c1;have i:w.cell? ⟨b,2,none⟩=some (.int .i64 d):=H.c2;have j:=H.f1;have m:=O.sz;have le:a<=s.size:=O.le;by_cases f:d=0
 ·subst f;have T:Kp (Zi w (w.setCell ⟨b,1,none⟩ (.int .i64 ((a:Int)+1))) b (nx ⟨a,0⟩)):=⟨Zi.setA H (a+1)⟩
  clear H O;go_in;go_wp2_with fail;first|go_end0|refine Qi (Qp rfl _ _ _) rfl ?_
  exact⟨rfl,T.o⟩
 ·have T:Kp (Zi w w b (nx ⟨a,d⟩)):=⟨by rw[Ve f];exact Zi.refl H⟩
  have l:(d==0)=false:=Qf.2 f;clear H O;go_in;go_wp2_with fail;first|go_end0|refine Qi (Qp rfl _ _ _) rfl ?_
  exact⟨rfl,T.o⟩
theorem H9(b:Nat)(s:ZB)(r:Rd)(x:Int)(w:World)(H:Cr w b s r) :
  Calls prog 159 #[.pointer (some ⟨b,0,none⟩),.int .i64 x] w λe w'=>e=.returned (.tuple #[])∧Zi w w' b (Bi r x):=by
 obtain⟨a,d⟩:=r;have h:w.cell? ⟨b,1,none⟩=some (.int .i64 a):=H.c1;have i:w.cell? ⟨b,2,none⟩=some (.int .i64 d):=H.c2;have j:=H.f2;by_cases f:d=0
 ·subst f;have T:Kp (Zi w (w.setCell ⟨b,2,none⟩ (.int .i64 x)) b (Bi ⟨a,0⟩ x)):=⟨Zi.setE H x⟩
  clear H;go_in;go_wp2_with fail;first|go_end0|refine Qi (Qp rfl _ _ _) rfl ?_
  exact⟨rfl,T.o⟩
 ·have T:Kp (Zi w w b (Bi ⟨a,d⟩ x)):=⟨by rw[Pk f];exact Zi.refl H⟩
  have l:(d==0)=false:=Qf.2 f;clear H;go_in;go_wp2_with fail;first|go_end0|refine Qi (Qp rfl _ _ _) rfl ?_
  exact⟨rfl,T.o⟩
theorem Ci.adv(O:Ci s r):Ci s (Go.Proofs.YtcnbifdlkalimabGreat.Aa s r):=⟨O.sz,Ze O.le⟩
theorem Ci.tk(O:Ci s r)(a:c≠0):Ci s (Go.Proofs.YtcnbifdlkalimabGreat.tk s r c):=⟨O.sz,Z4 O.le a⟩
theorem Ci.nx(O:Ci s r)(h:here s r≠0):Ci s (Go.Proofs.YtcnbifdlkalimabGreat.nx r):=⟨O.sz,Nu h⟩
theorem Gi(b:Nat)(s:ZB)(r:Rd)(c:Int)(w:World)(H:Cr w b s r)(O:Ci s r) :
  Calls prog 92 #[.pointer (some ⟨b,0,none⟩),.int .u8 c] w λe w'=>e=.returned (.tuple #[])∧Zi w w' b (tk s r c):=by
 have d:=λ(j:World) (T:Zi w j b (Aa s r))=>H.to T;have m:=O.adv
 have f:=Fn b s r w H O;by_cases h:Ae s r=c
 ·have l:tk s r c=nx (Aa s r):=by unfold tk BW;rw[if_pos (by rw[QL];exact h)]
  rw[l];rw[h]at f;replace f:=Z_ f;replace d:=Z_ d;clear H O l h;go_in;go_wp2_with fail;refine f.o.mono ?_;rintro e j ⟨rfl,a⟩;have i:=Ih b s (Aa s r) j (d.o j a) m;replace i:=Z_ i;replace a:=Z_ a;clear d m;go_wp2_with fail;refine i.o.mono ?_;rintro e p ⟨rfl,n⟩;go_wp2_with fail;first|go_end0|refine Qi (Qp rfl _ _ _) rfl ?_
  exact⟨rfl,a.o.trans n⟩
 ·have t:(Ae s r != c)=true:=QO.2 h;have l:tk s r c=Bi (Aa s r) 11:=by unfold tk BW;rw[if_neg (by rw[QL];exact h)]
  rw[l];generalize Ae s r=x at *;replace f:=Z_ f;replace d:=Z_ d;clear H O l h;go_in;go_wp2_with fail;refine f.o.mono ?_;rintro e j ⟨rfl,a⟩;have i:=H9 b s (Aa s r) 11 j (d.o j a);replace i:=Z_ i;replace a:=Z_ a;clear d m;go_wp2_with fail;refine i.o.mono ?_;rintro e p ⟨rfl,n⟩;go_wp2_with fail;first|go_end0|refine Qi (Qp rfl _ _ _) rfl ?_
  exact⟨rfl,a.o.trans n⟩
theorem NH(x:Int)(w:World):Calls prog 236 #[.int .u8 x] w λe w'=>e=.returned (.bool (decide (48<=x∧x<=57)))∧w'=w:=by
 by_cases a:48<=x
 ·by_cases d:x<=57
  ·rw[show decide (48<=x∧x<=57)=true from Qv ⟨a,d⟩];go_in;go_wp2;go_ret;exact⟨rfl,rfl⟩
  ·rw[show decide (48<=x∧x<=57)=false from Qx (λk=>d k.2)];go_in;go_wp2;go_ret;exact⟨rfl,rfl⟩
 ·rw[show decide (48<=x∧x<=57)=false from Qx (λk=>a k.1)];go_in;go_wp2;go_ret;exact⟨rfl,rfl⟩
theorem Rf(x:Int)(w:World):Calls prog 161 #[.int .u8 x] w λe w'=>e=.returned (.bool (Ct x))∧w'=w:=by
 unfold Ct;by_cases a:97<=x
 ·by_cases d:x<=104
  ·rw[show decide (97<=x∧x<=104)=true from Qv ⟨a,d⟩];go_in;go_wp2;go_ret;exact⟨rfl,rfl⟩
  ·rw[show decide (97<=x∧x<=104)=false from Qx (λk=>d k.2)];go_in;go_wp2;go_ret;exact⟨rfl,rfl⟩
 ·rw[show decide (97<=x∧x<=104)=false from Qx (λk=>a k.1)];go_in;go_wp2;go_ret;exact⟨rfl,rfl⟩
theorem Rg(b:Nat)(s:ZB)(r:Rd)(c:Int)(w:World)(H:Cr w b s r)(O:Ci s r) :
  Calls prog 89 #[.pointer (some ⟨b,0,none⟩),.int .u8 c] w λe w'=>e=.returned (.bool (decide (r.er=0∧Ae s r≠c)))∧Zi w w' b (Aa s r):=by
 have f:=Fn b s r w H O;have h:(Aa s r).er=r.er:=Zl s r;replace f:=Z_ f;replace h:=Z_ h;obtain⟨j,d⟩:∃j,r.er=j:=⟨_,rfl⟩
 obtain⟨x,n⟩:∃x,Ae s r=x:=⟨_,rfl⟩
 rw[d]at h;rw[d,n];rw[n]at f;clear H O d n;by_cases l:j=0
 ·subst l;by_cases m:x=c
  ·subst m;rw[show decide ((0:Int)=0∧x≠x)=false from Qx (λk=>k.2 rfl)];go_in;go_wp2_with fail;refine f.o.mono ?_;rintro e p ⟨rfl,a⟩;have i:=a.c2;rw[h.o]at i;replace a:=Z_ a;go_wp2;go_ret;exact⟨rfl,a.o⟩
  ·rw[show decide ((0:Int)=0∧x≠c)=true from Qv ⟨rfl,m⟩];have t:(x != c)=true:=QO.2 m;clear m;go_in;go_wp2_with fail;refine f.o.mono ?_;rintro e p ⟨rfl,a⟩;have i:=a.c2;rw[h.o]at i;replace a:=Z_ a;go_wp2;go_ret;exact⟨rfl,a.o⟩
 ·rw[show decide (j=0∧x≠c)=false from Qx (λk=>l k.1)];have t:(j==0)=false:=Qf.2 l;clear l;go_in;go_wp2_with fail;refine f.o.mono ?_;rintro e p ⟨rfl,a⟩;have i:=a.c2;rw[h.o]at i;replace a:=Z_ a;go_wp2;go_ret;exact⟨rfl,a.o⟩
theorem VT(b:Nat)(s:ZB)(r:Rd)(w:World)(H:Cr w b s r)(O:Ci s r) :
  Calls prog 94 #[.pointer (some ⟨b,0,none⟩)] w λe w'=>e=.returned (.bool (decide (r.er=0∧(Aa s r).a<s.size)))∧Zi w w' b (Aa s r):=by
 have l:=Fn b s r w H O;have j:=λ(i:World) (T:Zi w i b (Aa s r))=>H.to T;have p:(Aa s r).er=r.er:=Zl s r
 have I:=O.sz;have le:=O.adv.le;replace l:=Z_ l;replace j:=Z_ j;obtain⟨t,m⟩:∃t,r.er=t:=⟨_,rfl⟩
 rw[m]at p ⊢;generalize Aa s r=E at *;obtain⟨a,f⟩:=E;have p:f=t:=p;have le:a<=s.size:=le;subst p;generalize Ae s r=x at *;clear H O m;show Calls _ _ _ _ λe w'=>e=.returned (.bool (decide (f=0∧a<s.size)))∧_;by_cases n:f=0
 ·subst n;by_cases u:a<s.size
  ·rw[show decide ((0:Int)=0∧a<s.size)=true from Qv ⟨rfl,u⟩];have D:decide ((a:Int)<(s.size:Int))=true:=Qv (by omega);go_in;go_wp2_with fail;refine l.o.mono ?_;rintro e i ⟨rfl,d⟩;have h:=j.o i d;have A:=h.c0;have C:i.cell? ⟨b,1,none⟩=some (.int .i64 a):=h.c1;have y:i.cell? ⟨b,2,none⟩=some (.int .i64 0):=h.c2;replace d:=Z_ d;clear h j l;go_wp2_with fail;go_quiet (fail);go_wp2;go_ret;exact⟨rfl,d.o.drewN _⟩
  ·rw[show decide ((0:Int)=0∧a<s.size)=false from Qx (λk=>u k.2)];have D:decide ((a:Int)<(s.size:Int))=false:=Qx (by omega);have F:s.size<=a:=by omega
   clear u le;go_in;go_wp2_with fail;refine l.o.mono ?_;rintro e i ⟨rfl,d⟩;have h:=j.o i d;have A:=h.c0;have C:i.cell? ⟨b,1,none⟩=some (.int .i64 a):=h.c1;have y:i.cell? ⟨b,2,none⟩=some (.int .i64 0):=h.c2;replace d:=Z_ d;clear h j l;go_wp2_with fail;go_quiet (fail);go_wp2;go_ret;exact⟨by show Ending.returned (Value.bool (decide (a<s.size)))=_;rw[Qx (by omega)],d.o.drewN _⟩
 ·rw[show decide (f=0∧a<s.size)=false from Qx (λk=>n k.1)];have G:(f==0)=false:=Qf.2 n;clear n;go_in;go_wp2_with fail;refine l.o.mono ?_;rintro e i ⟨rfl,d⟩;have h:=j.o i d;have y:i.cell? ⟨b,2,none⟩=some (.int .i64 f):=h.c2;replace d:=Z_ d;clear h j l;go_wp2_with fail;go_quiet (fail);go_wp2;go_ret;exact⟨rfl,d.o.drewN _⟩
theorem Q1(b:Nat)(s:ZB)(r:Rd)(l j:Int)(w:World)(H:Cr w b s r)(O:Ci s r) :
  Calls prog 87 #[.pointer (some ⟨b,0,none⟩),.int .i64 l,.int .i64 j] w λe w'=>e=.returned (.int .i64 (AW s r l j))∧Zi w w' b (An s r l j):=by
 have h:=Fn b s r w H O;have f:=λ(i:World) (T:Zi w i b (Aa s r))=>H.to T;have y:=O.adv
 obtain⟨D,E⟩:=Zr4 s r;cases hd:Eo s r l j with
 | true=>
  have n:AW s r l j=Ae s r-48:=by unfold AW;rw[if_pos hd]
  have p:An s r l j=nx (Aa s r):=by unfold An BW;rw[if_pos hd]
  have t:=QB hd;rw[n,p];generalize Ae s r=x at *;replace h:=Z_ h;replace f:=Z_ f;clear hd n p H O;obtain⟨t,A⟩:=t;go_in;go_wp2_with fail;refine h.o.mono ?_;rintro e i ⟨rfl,a⟩;have d:=Ih b s (Aa s r) i (f.o i a) y;replace d:=Z_ d;replace a:=Z_ a;clear f h;go_wp2_with fail;refine d.o.mono ?_;rintro e u ⟨rfl,m⟩;go_wp2;go_ret;exact⟨rfl,a.o.trans m⟩
 | false=>
  have n:AW s r l j=0:=by unfold AW;rw[if_neg (by rw[hd];simp)]
  have p:An s r l j=Bi (Aa s r) 11:=by unfold An BW;rw[if_neg (by rw[hd];simp)]
  have t:=Ul hd;rw[n,p];generalize Ae s r=x at *;replace h:=Z_ h;replace f:=Z_ f;clear hd n p H O;by_cases A:x-48<l
  ·clear t;go_in;go_wp2_with fail;refine h.o.mono ?_;rintro e i ⟨rfl,a⟩;have d:=H9 b s (Aa s r) 11 i (f.o i a);replace d:=Z_ d;replace a:=Z_ a;clear f h;go_wp2_with fail;refine d.o.mono ?_;rintro e u ⟨rfl,m⟩;go_wp2;go_ret;exact⟨rfl,a.o.trans m⟩
  ·have C:j<x-48:=by omega
   clear t;go_in;go_wp2_with fail;refine h.o.mono ?_;rintro e i ⟨rfl,a⟩;have d:=H9 b s (Aa s r) 11 i (f.o i a);replace d:=Z_ d;replace a:=Z_ a;clear f h;go_wp2_with fail;refine d.o.mono ?_;rintro e u ⟨rfl,m⟩;go_wp2;go_ret;exact⟨rfl,a.o.trans m⟩
theorem V4(b:Nat)(s:ZB)(r:Rd)(w:World)(H:Cr w b s r)(O:Ci s r) :
  Calls prog 237 #[.pointer (some ⟨b,0,none⟩)] w λe w'=>e=.returned (.int .i64 (num s r).1)∧Zi w w' b (num s r).2:=by
 have Y:=O.sz;go_in;go_wp2_with fail;refine(MK b s r w H O).mono ?_;rintro e w1 ⟨rfl,Q,rfl⟩;have t:Kp (Zi w (w.drewN Q) b r):=⟨(Zi.refl H).drewN Q⟩
 have R:Kp _:=⟨H⟩
 have i:Kp (r.a<=s.size):=⟨O.le⟩
 clear H O;go_wp2_with fail;go_loopg [3,4] (Ah s r) (λg Z X wr=>∃(d:Rd) (v:Int),Z=.int .i64 v∧X=.int .u8 (here s d)∧0<=v∧v<=255∧Kp (num s r=DD s g d v)∧Kp (d.a<=s.size)∧Kp (Zi w wr b d)∧Kp (g=Ah s d));case atStart=>exact⟨r,0,rfl,rfl,by omega,by omega,⟨rfl⟩,i,t,⟨rfl⟩⟩
 case round=>
  clear t i;obtain⟨d,v,rfl,rfl,v0,v9,p,i,F,K⟩:=hrel;by_cases u:48<=here s d∧here s d<=57
  ·have n:=R.o.to F.o;have A:here s d≠0:=by omega
   have D:Ci s d:=⟨Y,i.o⟩
   have E:=D.nx A;have y:Kp (Ah s (nx d)<Ah s d):=⟨KS A⟩
   have h:=λf=>NH (here s d) f;rw[Qv u]at h;obtain⟨M,N⟩:=u;by_cases I:255<10*v+here s d-48
   ·have l:=λf (T:Zi wr f b d)=>H9 b s d 11 f (n.to T);have j:Kp (num s r=(0,Bi d 11)):=⟨by
     rw[p.o];have:=K.o;obtain⟨g,rfl⟩:∃V,gk=V+1:=⟨gk-1,by have:=y.o;omega⟩
     simp only[DD];rw[if_pos ⟨M,N⟩,if_pos I]⟩
    have t:=Zi.refl n;replace l:Kp _:=⟨l wr t⟩
    replace h:=Z_ h;clear p n D E A t;generalize here s d=x at *;go_wp2_with fail;refine(h.o _).mono ?_;rintro e f ⟨rfl,C⟩;subst C;go_wp2_with fail;refine l.o.mono ?_;rintro e f ⟨rfl,m⟩;go_wp2;go_ret;exact⟨by rw[j.o];rfl,by rw[j.o];exact F.o.trans m⟩
   ·have l:=Ih b s d wr n D;have J:=λf (T:Zi wr f b (nx d))=>MK b s (nx d) f (n.to T) E;have j:Kp (num s r=DD s (Ah s (nx d)) (nx d) (10*v+here s d-48)):=⟨by
     rw[p.o];have P:=K.o;have U:Ah s d=Ah s (nx d)+1:=by have L:=JP A;unfold Ah;rw[EZ,if_pos L.1,if_pos L.1];unfold nx;rw[if_pos L.1];show s.size-d.a=s.size-(d.a+1)+1;omega
     rw[P,U];simp only[DD];rw[if_pos ⟨M,N⟩,if_neg I]⟩
    have G:=E.le;replace l:=Z_ l;replace J:=Z_ J;replace h:=Z_ h;replace G:=Z_ G;clear p n D E A;generalize here s d=x at *;go_wp2_with fail;refine(h.o _).mono ?_;rintro e f ⟨rfl,C⟩;subst C;go_wp2_with fail;refine l.o.mono ?_;rintro e f ⟨rfl,m⟩;replace m:=Z_ m;go_wp2_with fail;refine(J.o f m.o).mono ?_;rintro e w3 ⟨rfl,W,rfl⟩;go_wp2_with fail;go_roundg (Ah s (nx d));case measure=>have P:=K.o;have I:=y.o;omega
    case rel=>exact⟨nx d,10*v+x-48,by go_num,rfl,by omega,by omega,j,G,⟨(F.o.trans m.o).drewN W⟩,⟨rfl⟩⟩
  ·have h:=λf=>NH (here s d) f;rw[Qx u]at h;have j:Kp (num s r=(v,d)):=⟨by
    rw[p.o];cases gk with
    | zero=>rfl
    | succ g=>simp only[DD];rw[if_neg u]⟩
   replace h:=Z_ h;clear u p;generalize here s d=x at *;go_wp2_with fail;refine(h.o _).mono ?_;rintro e f ⟨rfl,C⟩;subst C;go_wp2;go_ret;exact⟨by rw[j.o];rfl,by rw[j.o];exact F.o⟩
def BS(x:Sq):List Value:=[.int .i64 x.k,.int .i64 x.pl,.int .i64 x.ou,.int .i64 x.ta,.bool (x.rd 0),.bool (x.rd 1),.bool (x.rd 2),.bool (x.rd 3),.bool (x.rd 4),.bool (x.rd 5),.bool (x.tp 0),.bool (x.tp 1),.bool (x.tp 2),.bool (x.tp 3),.bool (x.tp 4),.bool (x.tp 5)]
def DQ(j:Nat):Nat:=if j=0 then 41 else if j=1 then 42 else if j=2 then 43 else 46
def VJ(j:Nat):TypeId:=if j=3 then 109 else 5
def VK(j:Nat):Nat:=if j=3 then 16 else 1
def ET(q:Tq)(j:Nat):Nat:=if j=0 then q.ls.length else if j=1 then q.vs.length else if j=2 then q.cd.length else q.ss.length
def EU(q:Tq)(j:Nat):List Value:=if j=0 then q.ls.map (Value.int .u8) else if j=1 then q.vs.map (Value.int .u8) else if j=2 then q.cd.map (Value.int .u8) else q.ss.flatMap BS
theorem M9(j:Nat):DQ j=41∨DQ j=42∨DQ j=43∨DQ j=46:=by
 unfold DQ;split
 ·exact .inl rfl
 ·split
  ·exact .inr (.inl rfl)
  ·split
   ·exact .inr (.inr (.inl rfl))
   ·exact .inr (.inr (.inr rfl))
theorem Zo{e:TypeId}(h:w.ownsRow B e z v k xs)(l:Below w.heap.size w w'):w'.ownsRow B e z v k xs:=by
 refine⟨h.1,?_⟩;rcases h.2 with m|⟨g,f,i,rfl,j,a,d⟩
 ·exact .inl m
 ·exact .inr ⟨g,f,i,rfl,j,by rw[l.block g (Ug.1 a).1];exact a,d⟩
theorem ZQ{e:TypeId}(h:w.ownsRow B e z v k xs)(l:∀g,v.ownBlock=some g->w'.heap[g]?=w.heap[g]?):w'.ownsRow B e z v k xs:=by
 refine⟨h.1,?_⟩;rcases h.2 with m|⟨g,d,f,rfl,i,j,a⟩
 ·exact .inl m
 ·exact .inr ⟨g,d,f,rfl,i,by rw[l g rfl];exact j,a⟩
structure Zw(w:World)(b:Nat)(s:ZB)(q:Tq)(S:Nat->Value):Prop where
 lt:b<w.heap.size
 c0:w.cell? ⟨b,0,none⟩=some (.string s)
 c1:w.cell? ⟨b,1,none⟩=some (.int .i64 q.r.a)
 c2:w.cell? ⟨b,2,none⟩=some (.int .i64 q.r.er)
 c3:w.cell? ⟨b,3,none⟩=some (.int .i64 q.n)
 c4:w.cell? ⟨b,4,none⟩=some (.int .i64 q.pn)
 cp:∀i j:Nat,i<6->j<6->w.cell? ⟨b,5+6*i+j,none⟩=some (.bool (q.pr i j))
 ch:w.cell? ⟨b,44,none⟩=some (.int .i64 q.h)
 ci:w.cell? ⟨b,45,none⟩=some (.int .i64 q.hi)
 c:∀j:Nat,j<4->w.cell? ⟨b,DQ j,none⟩=some (S j)
 o:∀j:Nat,j<4->w.ownsRow (b+1) (VJ j) (VK j) (S j) (ET q j) (EU q j)
 d:∀i j:Nat,i<4->j<4->i≠j->(S i).ownBlock=none∨(S i).ownBlock≠(S j).ownBlock
 f:∀j:Nat,j<47->w.frozen? ⟨b,j,none⟩=false
structure Zq(b g:Nat)(S S':Nat->Value)(w w':World):Prop where
 os:w'.os=w.os
 tape:w'.tape=w.tape
 output:w'.output=w.output
 size:w.heap.size<=w'.heap.size
 block:∀k,k<w.heap.size->k≠b->k≠g->(∀j,j<4->(S j).ownBlock≠some k)->w'.heap[k]?=w.heap[k]?
 rows:∀j,j<4->(S' j).ownBlock=(S j).ownBlock∨∀k,(S' j).ownBlock=some k->w.heap.size<=k
theorem Zq.refl(b g:Nat)(S:Nat->Value)(w:World):Zq b g S S w w:=⟨rfl,rfl,rfl,Qb _,λ_ _ _ _ _=>rfl,λ_ _=>.inl rfl⟩
theorem Zq.trans{a:Nat->Value}{x y z:World}(h:Zq b g S S' x y)(k:Zq b g S' a y z):Zq b g S a x z:=by
 refine⟨k.os.trans h.os,k.tape.trans h.tape,k.output.trans h.output,Qg h.size k.size,λi o l m n=>?_,λj d=>?_⟩
 ·rw[k.block i (Qq o h.size) l m ?_,h.block i o l m n];intro j d e;rcases h.rows j d with c|c
  ·exact n j d (by rw[<-c];exact e)
  ·have:=c i e;omega
 ·rcases k.rows j d with c|c
  ·rcases h.rows j d with f|f
   ·exact .inl (c.trans f)
   ·exact .inr λi e=>f i (by rw[<-c];exact e)
  ·exact .inr λi e=>Qg h.size (c i e)
theorem Zq.up(h:Zq b b S S' w w'):Zq b g S S' w w':=⟨h.os,h.tape,h.output,h.size,λk e a _ d=>h.block k e a a d,h.rows⟩
theorem Zq.below(h:Below w.heap.size w w'):Zq b g S S w w':=⟨h.os,h.tape,h.output,h.size,λk a _ _ _=>h.block k a,λ_ _=>.inl rfl⟩
theorem Zq.rd(h:Zi w w' b r):Zq b g S S w w':=⟨h.os,h.tape,h.output,by rw[h.size];exact Qb _,λk _ a _ _=>h.block k a,λ_ _=>.inl rfl⟩
theorem Zq.o(h:Zq b g S S' w w')(H:Zw w b s q S)(f:b<=g):Below b w w':=
 ⟨h.os,h.tape,h.output,h.size,λk d=>h.block k (Nat.lt_trans d H.lt) (by omega) (by omega) λj a e=>by have:=((H.o j a).lt k e).1;omega⟩
structure IG(w:World)(b:Nat)(S:Nat->Value)(g:Nat):Prop where
 lt:g<w.heap.size
 ne:g≠b
 no:∀j,j<4->(S j).ownBlock≠some g
theorem IG.to{h:Nat}(F:IG w b S g)(T:Zq b h S S' w w'):IG w' b S' g:=
 ⟨Qq F.lt T.size,F.ne,λj a e=>by
  rcases T.rows j a with c|c
  ·exact F.no j a (by rw[<-c];exact e)
  ·have:=c g e;have:=F.lt;omega⟩
theorem IG.same(F:IG w b S g)(T:Zq b b S S' w w'):w'.heap[g]?=w.heap[g]?:=T.block g F.lt F.ne F.ne F.no
theorem Zw.rdAt(H:Zw w b s q S):Cr w b s q.r:=⟨H.lt,H.c0,H.c1,H.c2,H.f 1 (by omega),H.f 2 (by omega)⟩
theorem Zw.rd(H:Zw w b s q S)(h:Zi w w' b r):Zw w' b s {q with r:=r} S:=by
 have e:∀j,DQ j≠1∧DQ j≠2:=λj=>by have:=M9 j;omega
 refine⟨by rw[h.size];exact H.lt,(h.cell 0 (by omega) (by omega)).trans H.c0,h.c1,h.c2,(h.cell 3 (by omega) (by omega)).trans H.c3,(h.cell 4 (by omega) (by omega)).trans H.c4,λi j m a=>(h.cell _ (by omega) (by omega)).trans (H.cp i j m a),(h.cell 44 (by omega) (by omega)).trans H.ch,(h.cell 45 (by omega) (by omega)).trans H.ci,λj a=>(h.cell _ (e j).1 (e j).2).trans (H.c j a),λj a=>?_,H.d,λj a=>(h.frozen j).trans (H.f j a)⟩;exact ZQ (H.o j a) λg l=>h.block g (by have:=((H.o j a).lt g l).1;omega)
theorem Zw.step(H:Zw w b s q S)(h:Below w.heap.size w w'):Zw w' b s q S:=by have a:∀k:Nat,w'.cell? ⟨b,k,none⟩=w.cell? ⟨b,k,none⟩:=λk=>h.cell (p:=⟨b,k,none⟩) H.lt;exact⟨Qq H.lt h.size,(a _).trans H.c0,(a _).trans H.c1,(a _).trans H.c2,(a _).trans H.c3,(a _).trans H.c4,λi j l e=>(a _).trans (H.cp i j l e),(a _).trans H.ch,(a _).trans H.ci,λj e=>(a _).trans (H.c j e),λj e=>Zo (H.o j e) h,H.d,λj e=>by rw[h.frozen (p:=⟨b,j,none⟩) H.lt];exact H.f j e⟩
theorem Zw.cellSet{l:Tq}{x:Value}(H:Zw w b s q S)(J:2<k)(I:∀j,j<4->DQ j≠k)
  (p:l.r=q.r) (A:(w.setCell ⟨b,k,none⟩ x).cell? ⟨b,3,none⟩=some (.int .i64 l.n)) (C:(w.setCell ⟨b,k,none⟩ x).cell? ⟨b,4,none⟩=some (.int .i64 l.pn))
  (G:∀i j:Nat,i<6->j<6->(w.setCell ⟨b,k,none⟩ x).cell? ⟨b,5+6*i+j,none⟩=some (.bool (l.pr i j)))
  (F:(w.setCell ⟨b,k,none⟩ x).cell? ⟨b,44,none⟩=some (.int .i64 l.h)) (u:(w.setCell ⟨b,k,none⟩ x).cell? ⟨b,45,none⟩=some (.int .i64 l.hi))
  (D:∀j,j<4->ET l j=ET q j) (E:∀j,j<4->EU l j=EU q j):Zw (w.setCell ⟨b,k,none⟩ x) b s l S∧Zq b b S S w (w.setCell ⟨b,k,none⟩ x):=by
 have e:∀i:Nat,i≠k->(w.setCell ⟨b,k,none⟩ x).cell? ⟨b,i,none⟩=w.cell? ⟨b,i,none⟩:=λi u=>Bc _ _ _ _ _ (by omega);have t:∀g,g≠b->(w.setCell ⟨b,k,none⟩ x).heap[g]?=w.heap[g]?:=λg m=>QH w ⟨b,k,none⟩ x g m
 refine⟨⟨by simpa using H.lt,(e _ (by omega)).trans H.c0,by rw[p];exact(e _ (by omega)).trans H.c1,by rw[p];exact(e _ (by omega)).trans H.c2,A,C,G,F,u,λj a=>(e _ (I j a)).trans (H.c j a),λj a=>?_,H.d,λj a=>by rw[World.frozen?_setCell];exact H.f j a⟩,⟨rfl,rfl,rfl,by simp,λi _ y _ _=>t i y,λ_ _=>.inl rfl⟩⟩;rw[D j a,E j a];exact ZQ (H.o j a) λg m=>t g (by have:=((H.o j a).lt g m).1;omega)
theorem Pb(h:k≠41)(a:k≠42)(d:k≠43)(f:k≠46):∀j,j<4->DQ j≠k:=by
 intro j i;match j,i with
 | 0,_=>exact λe=>h (by rw[<-e];rfl)
 | 1,_=>exact λe=>a (by rw[<-e];rfl)
 | 2,_=>exact λe=>d (by rw[<-e];rfl)
 | 3,_=>exact λe=>f (by rw[<-e];rfl)
theorem Zw.setH(H:Zw w b s q S)(y:Int):Zw (w.setCell ⟨b,44,none⟩ (.int .i64 y)) b s {q with h:=y} S∧Zq b b S S w (w.setCell ⟨b,44,none⟩ (.int .i64 y)):=
 H.cellSet (by omega) (Pb (by omega) (by omega) (by omega) (by omega)) rfl ((Bc _ _ _ _ _ (by omega)).trans H.c3) ((Bc _ _ _ _ _ (by omega)).trans H.c4) (λi j a d=>(Bc _ _ _ _ _ (by omega)).trans (H.cp i j a d)) (Qk _ _ _ H.ch) ((Bc _ _ _ _ _ (by omega)).trans H.ci) (λ_ _=>rfl) (λ_ _=>rfl)
theorem Zw.setHi(H:Zw w b s q S)(y:Int):Zw (w.setCell ⟨b,45,none⟩ (.int .i64 y)) b s {q with hi:=y} S∧Zq b b S S w (w.setCell ⟨b,45,none⟩ (.int .i64 y)):=
 H.cellSet (by omega) (Pb (by omega) (by omega) (by omega) (by omega)) rfl ((Bc _ _ _ _ _ (by omega)).trans H.c3) ((Bc _ _ _ _ _ (by omega)).trans H.c4) (λi j hi a=>(Bc _ _ _ _ _ (by omega)).trans (H.cp i j hi a)) ((Bc _ _ _ _ _ (by omega)).trans H.ch) (Qk _ _ _ H.ci) (λ_ _=>rfl) (λ_ _=>rfl)
theorem Zw.setN(H:Zw w b s q S)(y:Int):Zw (w.setCell ⟨b,3,none⟩ (.int .i64 y)) b s {q with n:=y} S∧Zq b b S S w (w.setCell ⟨b,3,none⟩ (.int .i64 y)):=
 H.cellSet (by omega) (Pb (by omega) (by omega) (by omega) (by omega)) rfl (Qk _ _ _ H.c3) ((Bc _ _ _ _ _ (by omega)).trans H.c4) (λi j a d=>(Bc _ _ _ _ _ (by omega)).trans (H.cp i j a d)) ((Bc _ _ _ _ _ (by omega)).trans H.ch) ((Bc _ _ _ _ _ (by omega)).trans H.ci) (λ_ _=>rfl) (λ_ _=>rfl)
theorem Zw.told{O C:World}{l:Nat}{A:Tq}{x:Value}(H:Zw w b s q S)(N:l<4)(K:Below w.heap.size w O)(y:O.grownBy C (S l).ownBlock)(I:C.ownsRow (b+1) (VJ l) (VK l) x (ET A l) (EU A l))(m:x.ownBlock=(S l).ownBlock∨x.ownBlock=some O.heap.size)
  (W:A.r=q.r) (hn:A.n=q.n) (T:A.pn=q.pn) (U:A.pr=q.pr) (hh:A.h=q.h) (F:A.hi=q.hi) (Z:∀j,j<4->j≠l->ET A j=ET q j) (hV:∀j,j<4->j≠l->EU A j=EU q j) :
  Zw (C.setCell ⟨b,DQ l,none⟩ x) b s A (λj=>if j=l then x else S j)∧Zq b b S (λj=>if j=l then x else S j) w (C.setCell ⟨b,DQ l,none⟩ x):=by
 have aa:=K.size;have Q:=H.lt;have R:some b≠(S l).ownBlock:=λe=>by have:=(H.o l N).lt _ e.symm;omega
 have blk:C.heap[b]?=w.heap[b]?:=by rw[y.block b (by omega) R,K.block b Q]
 have J:∀k:Nat,C.cell? ⟨b,k,none⟩=w.cell? ⟨b,k,none⟩:=λk=>Qo (w:=w) (a:=⟨b,k,none⟩) blk;have t:∀k:Nat,k≠DQ l->(C.setCell ⟨b,DQ l,none⟩ x).cell? ⟨b,k,none⟩=w.cell? ⟨b,k,none⟩:=λk G=>(Bc _ _ _ _ _ (by omega)).trans (J k)
 have u:∀k,(k<41∨k=44∨k=45)->k≠DQ l:=by intro k G e;have:=M9 l;omega
 have P:∀j,j<4->j≠l->DQ j≠DQ l:=by
  intro j p E e;unfold DQ at e;match j,l,p,N with
  | 0,0,_,_=>exact E rfl
  | 1,1,_,_=>exact E rfl
  | 2,2,_,_=>exact E rfl
  | 3,3,_,_=>exact E rfl
  | 0,1,_,_=>simp at e
  | 0,2,_,_=>simp at e
  | 0,3,_,_=>simp at e
  | 1,0,_,_=>simp at e
  | 1,2,_,_=>simp at e
  | 1,3,_,_=>simp at e
  | 2,0,_,_=>simp at e
  | 2,1,_,_=>simp at e
  | 2,3,_,_=>simp at e
  | 3,0,_,_=>simp at e
  | 3,1,_,_=>simp at e
  | 3,2,_,_=>simp at e
 have L:∀g,g≠b->(C.setCell ⟨b,DQ l,none⟩ x).heap[g]?=C.heap[g]?:=λg y=>QH C ⟨b,DQ l,none⟩ x g y;have M:∀k:Nat,k<4->(S k).ownBlock≠some O.heap.size:=λk G e=>by have:=(H.o k G).lt _ e;omega
 refine⟨⟨?_,?_,?_,?_,?_,?_,λi j F p=>?_,?_,?_,λj p=>?_,λj p=>?_,λi j F p D=>?_,λj p=>?_⟩,⟨?_,?_,?_,?_,λk G X _ Y=>?_,λj p=>?_⟩⟩
 ·have:=y.size;simp;omega
 ·exact(t _ (u 0 (by omega))).trans H.c0
 ·rw[W];exact(t _ (u 1 (by omega))).trans H.c1
 ·rw[W];exact(t _ (u 2 (by omega))).trans H.c2
 ·rw[hn];exact(t _ (u 3 (by omega))).trans H.c3
 ·rw[T];exact(t _ (u 4 (by omega))).trans H.c4
 ·rw[U];exact(t _ (u _ (by omega))).trans (H.cp i j F p)
 ·rw[hh];exact(t _ (u 44 (by omega))).trans H.ch
 ·rw[F];exact(t _ (u 45 (by omega))).trans H.ci
 ·by_cases e:j=l
  ·subst e;rw[if_pos rfl];exact Qk _ _ _ ((J _).trans (H.c j p))
  ·rw[if_neg e,t _ (P j p e)];exact H.c j p
 ·by_cases e:j=l
  ·subst e;rw[if_pos rfl];exact ZQ I λg y=>L g (by have:=(I.lt g y).1;omega)
  ·rw[if_neg e,Z j p e,hV j p e];exact ZQ ((Zo (H.o j p) K).kept y (H.d j l p N e)) λg y=>L g (by have:=((H.o j p).lt g y).1;omega)
 ·show (if i=l then x else S i).ownBlock=none∨(if i=l then x else S i).ownBlock≠(if j=l then x else S j).ownBlock;by_cases e:i=l
  ·subst e;rw[if_pos rfl,if_neg (λk=>D k.symm)];rcases m with m|m
   ·rw[m];exact H.d i j F p D
   ·rw[m];exact .inr (λk=>M j p k.symm)
  ·rw[if_neg e];by_cases V:j=l
   ·subst V;rw[if_pos rfl];rcases m with m|m
    ·rw[m];exact H.d i j F p D
    ·rw[m];exact .inr (M i F)
   ·rw[if_neg V];exact H.d i j F p D
 ·rw[Qu,Qz (w:=w) (a:=⟨b,j,none⟩) blk];exact H.f j p
 ·exact y.os.trans K.os
 ·exact y.tape.trans K.tape
 ·exact y.output.trans K.output
 ·have:=y.size;simp;omega
 ·rw[L k X,y.block k (by omega) (λe=>Y l N e.symm),K.block k G]
 ·by_cases e:j=l
  ·subst e;show (if j=j then x else S j).ownBlock=_∨_;rw[if_pos rfl];rcases m with m|m
   ·exact .inl m
   ·refine .inr λk G=>?_;rw[m]at G;have:=Option.some.inj G
    omega
  ·show (if j=l then x else S j).ownBlock=_∨_;rw[if_neg e];exact .inl rfl
theorem Zc{e:TypeId}(h:w.ownsRow B e z v k xs):∃(p:Option Addr) (c:Nat),v=.slice p k c:=by
 rcases h.2 with ⟨rfl,rfl⟩|⟨g,a,d,rfl,_⟩
 ·exact⟨none,0,rfl⟩
 ·exact⟨_,_,rfl⟩
structure HW(q:Tq):Prop where
 cd:q.cd.length<=100000
 h0:-(q.cd.length:Int)<=q.h
 h1:q.h<=q.cd.length
 ss:q.ss.length<=100000
 ls:q.ls.length<=1000
 vs:q.vs.length=q.ls.length
theorem JT(b:Nat)(s:ZB)(q:Tq)(S:Nat->Value)(w:World)(H:Zw w b s q S)(M:HW q) :
  Calls prog 42 #[.pointer (some ⟨b,0,none⟩)] w λe w'=>e=.returned (.int .i64 (plQ q))∧w'=w:=by
 have c:=H.c 2 (by omega);obtain⟨p,k,e⟩:=Zc (H.o 2 (by omega));rw[e]at c;have c:w.cell? ⟨b,43,none⟩=some (.slice p q.cd.length k):=c;have d:=M.cd;have a:((plQ q:Nat):Int)=(q.cd.length:Int)/2:=by unfold plQ;omega
 rw[a];generalize q.cd.length=n at *;clear H M e a;go_in;go_wp2;go_ret;exact⟨rfl,rfl⟩
theorem CY{x:Int}(a:-9223372036854775808<=x)(d:x<=9223372036854775807):IntKind.i64.wrap x=x∧wrap64 x=x:=by
 constructor
 ·rw[IntKind.wrap];simp[IntKind.signed,IntKind.bits];omega
 ·unfold wrap64;omega
theorem Mt(b:Nat)(s:ZB)(q:Tq)(S:Nat->Value)(w:World)(H:Zw w b s q S)(O:Ci s q.r)(i:0<=q.n∧q.n<=6) :
  Calls prog 90 #[.pointer (some ⟨b,0,none⟩)] w λe w'=>e=.returned (.int .i64 (AW s q.r 0 (q.n-1)))∧Zi w w' b (An s q.r 0 (q.n-1)):=by
 have f:=H.c3;have a:=Q1 b s q.r 0 (q.n-1) w.drew ((Zi.refl H.rdAt).drewN 1 |> H.rdAt.to) O;have h:Kp (∀k,Zi w (w.drewN k) b q.r):=⟨λk=>(Zi.refl H.rdAt).drewN k⟩
 obtain⟨p,t⟩:=i;generalize q.n=n at *;generalize AW s q.r 0 (n-1)=d at *;generalize An s q.r 0 (n-1)=u at *;replace a:=Z_ a;obtain⟨j,l⟩:=CY (x:=n-1) (by omega) (by omega);clear H O;go_in;go_wp2_with fail;go_region_held3 (λw'=>w'.cell? ⟨b,3,none⟩=some (.int .i64 n)) (go_keep) ((go_at_call 87;refine a.o.mono ?_;rintro e y ⟨rfl,T⟩;have m:=(T.cell 3 (by omega) (by omega)).trans f));all_goals
  go_wp2;go_ret;exact⟨rfl,(h.o 1).trans T⟩
theorem Dg(x:Int):IntKind.u8.wrap x=x%256:=by unfold IntKind.wrap;simp[IntKind.signed,IntKind.bits]
theorem Na:(prog.info? 5).map (λi=>(i.zero,i.size,i.bytes))=some (some (.int .u8 0),1,1):=by kernel_rfl
theorem AX{t:TypeId}{z:Value}{a c:Nat}(h:(prog.info? t).map (λi=>(i.zero,i.size,i.bytes))=some (some z,a,c)):∃i,prog.info? t=some i∧i.zero=some z∧i.size=a∧i.bytes=c:=by
 cases d:prog.info? t with
 | none=>rw[d]at h;simp at h
 | some i=>rw[d]at h;simp at h;exact⟨i,rfl,h.1,h.2.1,h.2.2⟩
def Jy(q:Tq)(op x:Int):Tq:={q with cd:=q.cd++[op,x%256]}
theorem GM(b:Nat)(s:ZB)(q:Tq)(S:Nat->Value)(op x:Int)(w:World)(H:Zw w b s q S)(M:HW q)(ho:0<=op∧op<=11) :
  Calls prog 212 #[.pointer (some ⟨b,0,none⟩),.int .i64 op,.int .i64 x] w λe w'=>e=.returned (.tuple #[])∧∃S',Zw w' b s (Ad q op x) S'∧Zq b b S S' w w':=by
 obtain⟨o0,o1⟩:=ho;have c:=H.c 2 (by omega);have c:w.cell? ⟨b,43,none⟩=some (S 2):=c;have af:=H.lt;have hl:=M.cd;have ad:=M.h0;have ae:=M.h1;obtain⟨i0,aj,ak,al,am⟩:=AX Na;have ar:IntKind.u8.wrap op=op:=by rw[Dg];omega
 have au:=Dg x;have i:w.ownsRow (b+1) 5 1 (S 2) q.cd.length (q.cd.map (Value.int .u8)):=H.o 2 (by omega);have E:some b≠(S 2).ownBlock:=λe=>by have:=(i.lt _ e.symm).1;omega
 have g0:0<=Ar op∧Ar op<=1:=by unfold Ar;split<;>omega
 have t0:0<=Aj op∧Aj op<=2:=by
  unfold Aj;split
  ·omega
  ·split<;>omega
 have K:=λw1=>NL op w1 o0 o1;have J:=λw1=>Og op w1 o0 o1
 obtain⟨g0,g1⟩:=g0;obtain⟨t0,t1⟩:=t0;have hE:Ad q op x={Jy q op x with h:=q.h+Ar op-Aj op,hi:=max q.hi (q.h+Ar op-Aj op)}:=rfl;rw[hE];clear hE;generalize Ar op=d at *;generalize Aj op=C at *;obtain⟨k,hk⟩:∃k,q.cd.length=k:=⟨_,rfl⟩
 rw[hk]at i hl ad ae;obtain⟨a,t⟩:∃a,q.h=a:=⟨_,rfl⟩
 obtain⟨I,y⟩:∃I,q.hi=I:=⟨_,rfl⟩
 rw[t,y];rw[t]at ad ae;replace t:=Z_ t;replace y:=Z_ y;have H':Kp _:=⟨H⟩
 replace K:=Z_ K;replace J:=Z_ J;replace i:=Z_ i;replace E:=Z_ E;replace hk:=Z_ hk;clear H M;go_in;go_wp2_with (at_builtin;refine wpList_append_own_at _ rfl _ _ 56 rfl (b+1) 5 i0 (.int .u8 0) 1 1 Tryz.underlying56 aj ak al am rfl (by decide) _ _ _ rfl (i.o.alloc _) ⟨w.heap.size,0,none⟩ 2 2 [.int .u8 op,.int .u8 (x%256)] rfl rfl ?a1 ?a2 ?a3 ?a4 ?a5 ?_)
 case a1=>
  intro j u L;match j,L with
  | 0,L=>simp at L;subst L;simp[Addr.add]
  | 1,L=>simp at L;subst L;simp[Addr.add]
 case a2=>intro u hu;simp at hu;rcases hu with rfl|rfl<;>rfl
 case a3=>unfold maxLen;omega
 case a4=>omega
 case a5=>simp;omega
 intro U V G m _ aa;have hR:Zw (V.setCell ⟨b,43,none⟩ U) b s (Jy q op x) (λj=>if j=2 then U else S j)∧Zq b b S (λj=>if j=2 then U else S j) w (V.setCell ⟨b,43,none⟩ U):=
  Zw.told (l:=2) H'.o (by omega) ((Qh _ _).alloc (Qb _) _) m (by
   have e1:ET (Jy q op x) 2=k+2:=by show (q.cd++[op,x%256]).length=_;rw[Qe,hk.o];rfl
   have e2:EU (Jy q op x) 2=q.cd.map (Value.int .u8)++[.int .u8 op,.int .u8 (x%256)]:=by show (q.cd++[op,x%256]).map _=_;rw[QK];rfl
   rw[e1,e2];exact G) (by simpa using aa) rfl rfl rfl rfl rfl rfl (λj L F=>by unfold ET;rw[if_neg F,if_neg F];rfl) (λj L F=>by unfold EU;rw[if_neg F,if_neg F];rfl)
 have a1:V.cell? ⟨b,43,none⟩=some (S 2):=by rw[Qo (w:=w.alloc (.cells #[.int .u8 op,.int .u8 (x%256)] 5)) (m.block b (by simp;omega) E.o)];rw[((Qh _ w).alloc (Qb _) (.cells #[.int .u8 op,.int .u8 (x%256)] 5)).cell (p:=⟨b,43,none⟩) af];exact c
 have f1:V.frozen? ⟨b,43,none⟩=false:=by rw[Qz (w:=w.alloc (.cells #[.int .u8 op,.int .u8 (x%256)] 5)) (m.block b (by simp;omega) E.o)];rw[((Qh _ w).alloc (Qb _) (.cells #[.int .u8 op,.int .u8 (x%256)] 5)).frozen (p:=⟨b,43,none⟩) af];exact H'.o.f 43 (by omega)
 obtain⟨P,Z⟩:∃P,P=λj=>if j=2 then U else S j:=⟨_,rfl⟩
 rw[<-Z]at hR;obtain⟨R1,T1⟩:=hR;obtain⟨T,N⟩:∃T,T=V.setCell ⟨b,43,none⟩ U:=⟨_,rfl⟩
 obtain⟨pp,cc,hv⟩:=Zc G;subst hv;clear G m aa Z i E hk;obtain⟨an,ao⟩:=CY (x:=a+d) (by omega) (by omega);obtain⟨ap,aq⟩:=CY (x:=a+d-C) (by omega) (by omega);have W:(V.setCell ⟨b,43,none⟩ (.slice pp (k+2) cc)).cell? ⟨b,44,none⟩=some (.int .i64 a):=by rw[<-t.o];exact R1.ch
 have ag:=R1.f 44 (by omega);obtain⟨R2,T2⟩:=R1.setH (a+d);obtain⟨R3,T3⟩:=R2.setH (a+d-C);have Q:=T1.trans (T2.trans T3);rw[<-N]at W ag R3 Q;have X:(T.setCell ⟨b,44,none⟩ (.int .i64 (a+d))).cell? ⟨b,44,none⟩=some (.int .i64 (a+d)):=by rw[N];exact R2.ch
 clear R1 T1 R2 T2 T3;go_wp2_with fail;rw[<-N];clear N a1 f1;go_region_with (go_at_call 183;refine(K.o _).mono ?_;rintro e w9 ⟨rfl,R⟩;subst R)
 all_goals
  have ah:(T.setCell ⟨b,44,none⟩ (.int .i64 (a+d))).drew.cell? ⟨b,44,none⟩=some (.int .i64 (a+d)):=X;clear W X K;go_wp2_with fail;go_region_with (go_at_call 182;refine(J.o _).mono ?_;rintro e w9 ⟨rfl,R⟩;subst R)
  all_goals
   have O:Zw ((T.setCell ⟨b,44,none⟩ (.int .i64 (a+d))).setCell ⟨b,44,none⟩ (.int .i64 (a+d-C))).drew.drew b s {Jy q op x with h:=a+d-C} P:=R3.step ⟨rfl,rfl,rfl,Qb _,λ_ _=>rfl⟩;have Y:Zq b b S P w ((T.setCell ⟨b,44,none⟩ (.int .i64 (a+d))).setCell ⟨b,44,none⟩ (.int .i64 (a+d-C))).drew.drew:=Q.trans (Zq.below ⟨rfl,rfl,rfl,Qb _,λ_ _=>rfl⟩);generalize ((T.setCell ⟨b,44,none⟩ (.int .i64 (a+d))).setCell ⟨b,44,none⟩ (.int .i64 (a+d-C))).drew.drew=w6 at *;clear R3 Q ah J;have d1:w6.cell? ⟨b,44,none⟩=some (.int .i64 (a+d-C)):=O.ch;have d2:w6.cell? ⟨b,45,none⟩=some (.int .i64 I):=by rw[<-y.o];exact O.ci
   have d3:=O.f 45 (by omega);obtain⟨D,A⟩:∃D,a+d-C=D:=⟨_,rfl⟩
   rw[A]at O d1;by_cases ab:I<D
   ·have R5:=O.setHi D;have n:Kp (∃S',Zw ((w6.setCell ⟨b,45,none⟩ (.int .i64 D)).drew) b s {Jy q op x with h:=a+d-C,hi:=max I (a+d-C)} S'∧Zq b b S S' w (w6.setCell ⟨b,45,none⟩ (.int .i64 D)).drew):=⟨P,by
     rw[A,show max I D=D from by omega];exact R5.1.step ⟨rfl,rfl,rfl,Qb _,λ_ _=>rfl⟩,(Y.trans R5.2).trans (Zq.below ⟨rfl,rfl,rfl,Qb _,λ_ _=>rfl⟩)⟩
    clear R5 O Y;replace A:=Z_ A;have ai:decide (I<D)=true:=Qv ab;go_wp2_with fail;go_quiet (fail);go_wp2_with fail;first|go_end0|refine Qi (Qp rfl _ _ _) rfl ?_
    exact⟨rfl,n.o.choose,n.o.choose_spec.1.step ⟨rfl,rfl,rfl,Qb _,λ_ _=>rfl⟩,n.o.choose_spec.2.trans (Zq.below ⟨rfl,rfl,rfl,Qb _,λ_ _=>rfl⟩)⟩
   ·have n:Kp (Zw w6 b s {Jy q op x with h:=a+d-C,hi:=max I (a+d-C)} P):=⟨by
     rw[A,show max I D=I from by omega,<-y.o];exact O⟩
    clear O;replace Y:=Z_ Y;replace A:=Z_ A;have ai:decide (I<D)=false:=Qx ab;go_wp2_with fail;go_quiet (fail);go_wp2_with fail;first|go_end0|refine Qi (Qp rfl _ _ _) rfl ?_
    exact⟨rfl,P,n.o.step ⟨rfl,rfl,rfl,Qb _,λ_ _=>rfl⟩,Y.o.trans (Zq.below ⟨rfl,rfl,rfl,Qb _,λ_ _=>rfl⟩)⟩
theorem NY{e:TypeId}{p:Option Addr}{c:Nat}{L:List Int}(h:w.ownsRow B e 1 (.slice p k c) k (L.map (Value.int .u8))){i:Nat}(t:i<k):∃g,p=some ⟨g,0,none⟩∧∃x,L[i]?=some x∧w.cell? ⟨g,i,none⟩=some (.int .u8 x)∧w.frozen? ⟨g,i,none⟩=false:=by
 have a:=h.1;have u:L.length=k:=by simpa using a
 obtain⟨x,j⟩:∃x,L[i]?=some x:=⟨L[i],Qn (by omega)⟩
 rcases h.2 with ⟨_,o⟩|⟨g,d,l,f,_⟩
 ·omega
 ·have n:p=some ⟨g,0,none⟩:=by have:=Value.slice.inj f;exact this.1
  have m:c=d:=(Value.slice.inj f).2.2;subst n;subst m;refine⟨g,rfl,x,j,?_,h.frozenAt i⟩;rw[h.cellAt i (by omega),Ui,j];rfl
def DW(c:Int)(l:List Int):Nat:=if fnd c l<l.length then fnd c l else 0
def FD(c:Int)(l:List Int):Bool:=decide (fnd c l<l.length)
theorem Is{l:List Int}{i:Nat}(h:fnd c l=i)(a:i<l.length):DW c l=i∧FD c l=true:=by subst h;exact⟨if_pos a,Qv a⟩
theorem FR{l:List Int}(h:fnd c l=l.length):DW c l=0∧FD c l=false:=⟨if_neg (by omega),Qx (by omega)⟩
theorem Ti(b:Nat)(s:ZB)(q:Tq)(S:Nat->Value)(c:Int)(w:World)(H:Zw w b s q S)(M:HW q) :
  Calls prog 162 #[.pointer (some ⟨b,0,none⟩),.int .u8 c] w λe w'=>e=.returned (.tuple #[.int .i64 (DW c q.ls:Nat),.bool (FD c q.ls)])∧w'=w:=by
 have y:=H.c 0 (by omega);have a:w.ownsRow (b+1) 5 1 (S 0) q.ls.length (q.ls.map (Value.int .u8)):=H.o 0 (by omega);have F:=M.ls;obtain⟨p,k,e⟩:=Zc a;rw[e]at y a;have y:w.cell? ⟨b,41,none⟩=some (.slice p q.ls.length k):=y;generalize q.ls=L at *;replace a:=Z_ a;clear H M e;obtain⟨n,u⟩:∃n,L.length=n:=⟨_,rfl⟩
 rw[u]at y F a;replace u:=Z_ u;go_in;go_wp2_with fail;go_loop [6] (λv=>∃i:Nat,v=.int .i64 i∧i<=n∧Kp (∀j,j<i->L[j]?≠some c)) (λv=>n-(intOf v).toNat);case atStart=>exact⟨0,rfl,by omega,⟨λj E=>by omega⟩⟩
 case round=>
  obtain⟨i,rfl,J,l⟩:=hrel;by_cases f:i<n
  ·obtain⟨g,rfl,x,A,G,I⟩:=NY a.o f;have t:(i:Int)<(n:Int):=by omega
   replace A:=Z_ A;by_cases d:x=c
   ·subst d;have m:Kp (DW x L=i∧FD x L=true):=⟨Is (Nq A.o l.o) (by rw[u.o];exact f)⟩
    clear l a;go_wp2;go_ret2;exact⟨by rw[m.o.1,m.o.2];rfl,rfl⟩
   ·have K:(x==c)=false:=Qf.2 d;have C:Kp (∀j,j<i+1->L[j]?≠some c):=⟨λj E=>by
     by_cases e:j=i
     ·rw[e,A.o];intro h;exact d (Option.some.inj h)
     ·exact l.o j (by omega)⟩
    clear l d;go_wp2_with fail;go_round;case rel=>exact⟨i+1,by go_num,by omega,C⟩
    case measure=>simp[intOf];omega
  ·have D:i=n:=by omega
   have m:Kp (DW c L=0∧FD c L=false):=⟨FR (Ia λj E=>l.o j (by rw[D,<-u.o];exact E))⟩
   have t:¬(i:Int)<(n:Int):=by omega
   clear l a f;go_wp2;go_ret2;exact⟨by rw[m.o.1,m.o.2];rfl,rfl⟩
theorem Rp(b:Nat)(s:ZB)(q:Tq)(S:Nat->Value)(v:Nat)(w:World)(H:Zw w b s q S)(M:HW q)(h:∀x,x∈q.vs->0<=x∧x<=255) :
  Calls prog 217 #[.pointer (some ⟨b,0,none⟩),.int .i64 v] w λe w'=>e=.returned (.int .i64 (BN q v))∧w'=w:=by
 have f:=H.c 1 (by omega);have a:w.ownsRow (b+1) 5 1 (S 1) q.vs.length (q.vs.map (Value.int .u8)):=H.o 1 (by omega);have m:=M.ls;rw[<-M.vs]at m;obtain⟨p,k,e⟩:=Zc a;rw[e]at f a;have f:w.cell? ⟨b,42,none⟩=some (.slice p q.vs.length k):=f;unfold BN;generalize q.vs=L at *;clear H M e;by_cases l:v<L.length
 ·obtain⟨g,rfl,x,j,t,u⟩:=NY a l;have d:L.getD v 0=x:=by rw[Qs,j];rfl
  rw[d];obtain⟨y,A⟩:=h x (Qw j);generalize L.length=n at *;have i:(v:Int)<(n:Int):=by omega
  clear a j d h;go_in;go_wp2;go_ret;exact⟨rfl,rfl⟩
 ·have d:L.getD v 0=0:=by rw[Qs,Uh (by omega)];rfl
  rw[d];generalize L.length=n at *;have i:¬(v:Int)<(n:Int):=by omega
  clear a d h l;go_in;go_wp2;go_ret;exact⟨rfl,rfl⟩
theorem P8(b:Nat)(s:ZB)(q:Tq)(S:Nat->Value)(w:World)(H:Zw w b s q S)(M:HW q)(O:Ci s q.r) :
  Calls prog 216 #[.pointer (some ⟨b,0,none⟩)] w λe w'=>e=.returned (.int .i64 (varI s q.r q.ls:Nat))∧Zi w w' b (AD s q.r q.ls):=by
 have u:=Fn b s q.r w H.rdAt O;have C:Kp (∀a A,Zi w a b A->Zw a b s {q with r:=A} S):=⟨λa A T=>H.rd T⟩
 have I:=O.adv;have hF:Kp (∀a A,Zi w a b A->Calls prog 162 #[.pointer (some ⟨b,0,none⟩),.int .u8 (Ae s q.r)] a λe w'=>e=.returned (.tuple #[.int .i64 (DW (Ae s q.r) q.ls:Nat),.bool (FD (Ae s q.r) q.ls)])∧w'=a):=⟨λa A T=>Ti b s {q with r:=A} S (Ae s q.r) a (H.rd T) ⟨M.cd,M.h0,M.h1,M.ss,M.ls,M.vs⟩⟩
 have h:=λa=>Rf (Ae s q.r) a;replace u:=Z_ u;cases y:Ct (Ae s q.r) with
 | false=>
  have f:CW s q.r q.ls=false:=by unfold CW;rw[y];rfl
  have n:varI s q.r q.ls=0:=by unfold varI;rw[if_neg (by rw[f];simp)]
  have p:AD s q.r q.ls=Bi (Aa s q.r) 11:=by unfold AD BW;rw[if_neg (by rw[f];simp),if_neg (by rw[y];simp)]
  rw[n,p];rw[y]at h;clear f n p H M O hF;generalize Ae s q.r=t at *;replace h:=Z_ h;go_in;go_wp2_with fail;refine u.o.mono ?_;rintro e a ⟨rfl,d⟩;have m:=C.o a _ d;have j:=H9 b s (Aa s q.r) 11 a m.rdAt;replace j:=Z_ j;replace d:=Z_ d;clear m C u;go_wp2_with fail;refine(h.o _).mono ?_;rintro e F ⟨rfl,l⟩;subst l;go_wp2_with fail;refine j.o.mono ?_;rintro e G ⟨rfl,E⟩;go_wp2;go_ret;exact⟨rfl,d.o.trans E⟩
 | true=>
  rw[y]at h;by_cases D:fnd (Ae s q.r) q.ls<q.ls.length
  ·have f:CW s q.r q.ls=true:=by unfold CW;rw[y,Qv D];rfl
   have n:varI s q.r q.ls=fnd (Ae s q.r) q.ls:=by unfold varI;rw[if_pos f]
   have p:AD s q.r q.ls=nx (Aa s q.r):=by unfold AD BW;rw[if_pos f]
   rw[n,p];rw[(Is rfl D).1,(Is rfl D).2]at hF;clear f n p H M O D;generalize fnd (Ae s q.r) q.ls=i at *;generalize Ae s q.r=t at *;replace h:=Z_ h;go_in;go_wp2_with fail;refine u.o.mono ?_;rintro e a ⟨rfl,d⟩;have m:=C.o a _ d;have j:=Ih b s (Aa s q.r) a m.rdAt I;replace j:=Z_ j;replace d:=Z_ d;clear m C u;go_wp2_with fail;refine(h.o _).mono ?_;rintro e F ⟨rfl,l⟩;subst l;go_wp2_with fail;refine(hF.o _ _ d.o).mono ?_;rintro e F ⟨rfl,l⟩;subst l;go_wp2_with fail;refine j.o.mono ?_;rintro e G ⟨rfl,E⟩;go_wp2;go_ret;exact⟨rfl,d.o.trans E⟩
  ·have f:CW s q.r q.ls=false:=by unfold CW;rw[y,Qx D];rfl
   have n:varI s q.r q.ls=0:=by unfold varI;rw[if_neg (by rw[f];simp)]
   have p:AD s q.r q.ls=Bi (Aa s q.r) 12:=by unfold AD BW;rw[if_neg (by rw[f];simp),if_pos y]
   rw[n,p];have x:fnd (Ae s q.r) q.ls=q.ls.length:=by have:=Kk (Ae s q.r) q.ls;omega
   rw[(FR x).1,(FR x).2]at hF;clear x;clear f n p H M O D;generalize Ae s q.r=t at *;replace h:=Z_ h;go_in;go_wp2_with fail;refine u.o.mono ?_;rintro e a ⟨rfl,d⟩;have m:=C.o a _ d;have j:=H9 b s (Aa s q.r) 12 a m.rdAt;replace j:=Z_ j;replace d:=Z_ d;clear m C u;go_wp2_with fail;refine(h.o _).mono ?_;rintro e F ⟨rfl,l⟩;subst l;go_wp2_with fail;refine(hF.o _ _ d.o).mono ?_;rintro e F ⟨rfl,l⟩;subst l;go_wp2_with fail;refine j.o.mono ?_;rintro e G ⟨rfl,E⟩;go_wp2;go_ret;exact⟨rfl,d.o.trans E⟩
end Go.Proofs.YtcnbifdlkalimabGreat
