/- Lemmas; their conditions stand in each. -/
import Derived.Test.YtcnbifdlkalimabGreatMchC
namespace Go.Proofs.YtcnbifdlkalimabGreat
open Go.RowKit Go.Proofs.Tryz
set_option linter.all false
set_option maxRecDepth 100000
variable{m:BC}{T:Int->ZB}{b p:Nat}{w:World}
structure ZO(w:World)(b:Nat)(T:Int->ZB)(m:BC):Prop where
 lt:b<w.heap.size
 tp:∀j:Nat,j<6->w.cell? ⟨b,j,none⟩=some (.string (tl (T j) (m.po j)))
 lo:∀j:Nat,j<6->w.cell? ⟨b,6+j,none⟩=some (.string (bs (m.lo j)))
 va:∀j:Nat,j<8->w.cell? ⟨b,12+j,none⟩=some (.int .i64 (m.va j))
 f:∀j:Nat,j<20->w.frozen? ⟨b,j,none⟩=false
theorem ZO.step{w1:World}(H:ZO w b T m)(d:Below w.heap.size w w1):ZO w1 b T m:=by have c:∀k:Nat,w1.cell? ⟨b,k,none⟩=w.cell? ⟨b,k,none⟩:=λk=>d.cell (p:=⟨b,k,none⟩) H.lt;exact⟨Qq H.lt d.size,λj a=>(c _).trans (H.tp j a),λj a=>(c _).trans (H.lo j a),λj a=>(c _).trans (H.va j a),λj a=>by rw[d.frozen (p:=⟨b,j,none⟩) H.lt];exact H.f j a⟩
theorem ZO.with{k:BC}(H:ZO w b T m)(d:k.po=m.po)(c:k.lo=m.lo)(e:k.va=m.va):ZO w b T k:=
 ⟨H.lt,λj a=>by rw[d];exact H.tp j a,λj a=>by rw[c];exact H.lo j a,λj a=>by rw[e];exact H.va j a,H.f⟩
theorem ZO.setVa(H:ZO w b T m)(g:p<8)(y:Int):ZO (w.setCell ⟨b,12+p,none⟩ (.int .i64 y)) b T {m with va:=up m.va p y}:=by
 have c:∀k:Nat,k≠12+p->(w.setCell ⟨b,12+p,none⟩ (.int .i64 y)).cell? ⟨b,k,none⟩=w.cell? ⟨b,k,none⟩:=λk d=>Z1 _ _ _ _ _ (by omega);refine⟨by simpa using H.lt,λj a=>(c _ (by omega)).trans (H.tp j a),λj a=>(c _ (by omega)).trans (H.lo j a),λj a=>?_,λj a=>by rw[World.frozen?_setCell];exact H.f j a⟩;by_cases e:j=p
 ·subst e;rw[Qk _ _ _ (H.va j a)];show _=some (Value.int .i64 (up m.va (j:Int) y j));rw[Fa]
 ·rw[c _ (by omega)];show _=some (Value.int .i64 (up m.va (p:Int) y j));rw[DI (by omega)];exact H.va j a
theorem ZO.setPo(H:ZO w b T m)(g:p<6):ZO (w.setCell ⟨b,p,none⟩ (.string (tl (T p) ((m.po p+1:Nat):Int)))) b T {m with po:=up m.po p (m.po p+1)}:=by
 have c:∀k:Nat,k≠p->(w.setCell ⟨b,p,none⟩ (.string (tl (T p) ((m.po p+1:Nat):Int)))).cell? ⟨b,k,none⟩=w.cell? ⟨b,k,none⟩:=λk d=>Z1 _ _ _ _ _ (by omega);refine⟨by simpa using H.lt,λj a=>?_,λj a=>(c _ (by omega)).trans (H.lo j a),λj a=>(c _ (by omega)).trans (H.va j a),λj a=>by rw[World.frozen?_setCell];exact H.f j a⟩;by_cases e:j=p
 ·subst e;rw[Qk _ _ _ (H.tp j a)];show _=some (Value.string (tl (T j) ((up m.po (j:Int) (m.po j+1) j:Nat):Int)));rw[Fa]
 ·rw[c _ (by omega)];show _=some (Value.string (tl (T j) ((up m.po (p:Int) (m.po p+1) j:Nat):Int)));rw[DI (by omega)];exact H.tp j a
theorem ZO.over(H:ZO w b T m)(h:(T p).size<=m.po p):ZO w b T {m with po:=up m.po p (m.po p+1)}:=by
 refine⟨H.lt,λj a=>?_,H.lo,H.va,H.f⟩;by_cases e:j=p
 ·subst e;show _=some (Value.string (tl (T j) ((up m.po (j:Int) (m.po j+1) j:Nat):Int)));rw[Fa,Ps (by omega),H.tp j a,Ps h]
 ·show _=some (Value.string (tl (T j) ((up m.po (p:Int) (m.po p+1) j:Nat):Int)));rw[DI (by omega)];exact H.tp j a
theorem ZO.setLo(H:ZO w b T m)(g:p<6)(x:Int):ZO (w.setCell ⟨b,6+p,none⟩ (.string (bs (m.lo p)++bs [x]))) b T {m with lo:=up m.lo p (m.lo p++[x])}:=by
 have c:∀k:Nat,k≠6+p->(w.setCell ⟨b,6+p,none⟩ (.string (bs (m.lo p)++bs [x]))).cell? ⟨b,k,none⟩=w.cell? ⟨b,k,none⟩:=λk d=>Z1 _ _ _ _ _ (by omega);refine⟨by simpa using H.lt,λj a=>(c _ (by omega)).trans (H.tp j a),λj a=>?_,λj a=>(c _ (by omega)).trans (H.va j a),λj a=>by rw[World.frozen?_setCell];exact H.f j a⟩;by_cases e:j=p
 ·subst e;rw[Qk _ _ _ (H.lo j a)];show _=some (Value.string (bs (up m.lo (j:Int) (m.lo j++[x]) j)));rw[Fa,Zg]
 ·rw[c _ (by omega)];show _=some (Value.string (bs (up m.lo (p:Int) (m.lo p++[x]) j)));rw[DI (by omega)];exact H.lo j a
theorem Yv(W:World)(g:Nat)(x:Int)(f:0<=x)(i:x<=255)(c:W.cell? ⟨g,0,none⟩=some (.int .u8 x)):(convert 56 9 (.slice (some ⟨g,0,none⟩) 1 1)).run prog W=.ok (.string (bs [x])) W:=by
 have h:=run_convert_bytes_back (P:=prog) W 56 9 5 ⟨g,0,none⟩ 1 [UInt8.ofNat x.toNat] Tryz.underlying56 Tryz.underlying5 Tryz.underlying9 (λj d=>by
  have e:j=0:=by simp at d;omega
  subst e;have a:(⟨g,0,none⟩:Addr).add 0=⟨g,0,none⟩:=by unfold Addr.add;split<;>simp_all
  rw[a,c];simp;omega)
 exact h
set_option maxHeartbeats 6400000
theorem JN(x:Int)(w:World)(a:0<=x)(c:x<=255):Calls prog 51 #[.int .i64 x] w λe f=>e=.returned (.string (bs [x]))∧Below w.heap.size w f:=by have d:IntKind.u8.wrap x=x:=NW a c;go_in;go_wp2_with fail;rw[Yv _ _ x a c (by simp[go_sem])];go_wp2;go_ret;exact⟨rfl,(Qh _ _).alloc (Qb _) _⟩
theorem Xh(op x y:Int)(w:World)(i:3<=op∧op<=7)(c:0<=x∧x<=255)(d:0<=y∧y<=255) :
  Calls prog 197 #[.int .i64 op,.int .i64 x,.int .i64 y] w λe j=>e=.returned (.int .i64 (AE op x y))∧j=w:=by
 obtain⟨n,o⟩:=i;have g:=UW c d;obtain⟨q,r⟩:=c;obtain⟨s,t⟩:=d;obtain⟨k,l⟩:=g;have a:op=3∨op=4∨op=5∨op=6∨op=7:=by omega
 rcases a with rfl|rfl|rfl|rfl|rfl
 ·have e:AE 3 x y=(x+y)%256:=by unfold AE;simp
  rw[e];go_in;go_wp2;go_ret;exact⟨ZG (by omega),rfl⟩
 ·have e:AE 4 x y=(x+256-y)%256:=by unfold AE;simp
  rw[e];go_in;go_wp2;go_ret;exact⟨ZG (by omega),rfl⟩
 ·have e:AE 5 x y=x*y%256:=by unfold AE;simp
  rw[e];go_in;go_wp2;go_ret;exact⟨ZG (by omega),rfl⟩
 ·by_cases h:x<y
  ·have e:AE 6 x y=1:=by unfold AE;simp[h]
   rw[e];go_in;go_wp2;go_ret;exact⟨rfl,rfl⟩
  ·have e:AE 6 x y=0:=by unfold AE;simp[h]
   rw[e];go_in;go_wp2;go_ret;exact⟨rfl,rfl⟩
 ·by_cases h:x=y
  ·have e:AE 7 x y=1:=by unfold AE;simp[h]
   have f:(x==y)=true:=QL.2 h;rw[e];go_in;go_wp2;go_ret;exact⟨rfl,rfl⟩
  ·have e:AE 7 x y=0:=by unfold AE;simp[h]
   have f:(x==y)=false:=Qf.2 h;rw[e];go_in;go_wp2;go_ret;exact⟨rfl,rfl⟩
theorem ZoU(b:Nat)(T:Int->ZB)(m:BC)(l:Nat)(w:World)(H:ZO w b T m)(u:l<6)(i:(T l).size<=maxLen) :
  Calls prog 196 #[.pointer (some ⟨b,0,none⟩),.int .i64 l] w λe A=>e=.returned (.int .i64 (bv (T l) (m.po l)))∧ZO A b T {m with po:=up m.po l (m.po l+1)}∧AG b w.heap.size w A:=by
 have q:=H.tp l u;have J:=H.f l (by omega);have D:=H.lt;have C:(l:Int)<6:=by omega
 by_cases h:(T l).size<=m.po l
 ·have a:Kp _:=⟨H.over h⟩
  have c:bv (T l) (m.po l)=0:=TL (by omega);rw[Ps h]at q;rw[c];clear H c h i;go_in;go_wp2;go_ret;exact⟨rfl,a.o,AG.refl _ _ _⟩
 ·have d:m.po l<(T l).size:=by omega
  have a:=H.setPo u;have c:=Zs4 (s:=T l) (k:=m.po l) d;have z:=WU (T l) (m.po l);have j:=Zs3 (T l) (m.po l);obtain⟨G,I⟩:=Zx (T l) (m.po l);obtain⟨t,g⟩:∃t,tl (T l) (m.po l)=t:=⟨_,rfl⟩
  rw[g]at q c z j;rw[<-j]at a;have n:1<=t.size:=by omega
  have v:=ZJ t 0 n;rw[show ((0:Nat):Int)=0 from rfl,c]at v;obtain⟨x,y⟩:∃x,bv (T l) (m.po l)=x:=⟨_,rfl⟩
  rw[y]at v G I ⊢;have F:t.size<=9223372036854775807:=by unfold maxLen at i;omega
  have E:(t.toList==[])=false:=by
   rw[Ur];apply Qf.2;intro e;have:t.data.toList.length=0:=by rw[e];rfl
   have K:t.data.toList.length=t.size:=by simp
   omega
  have r:tl t 1=t.extract 1 t.size:=rfl;rw[r]at a;have B:Kp (AG b w.heap.size w (w.setCell ⟨b,l,none⟩ (.string (t.extract 1 t.size)))):=⟨(AG.refl b _ w).setCell l _⟩
  replace a:=Z_ a;clear H c z j g y h d i r;go_in;go_wp2_with fail;go_region_with (fail)
  all_goals go_wp2;go_ret;exact⟨rfl,a.o.step (Qh _ _).drew,B.o.trans (AG.of (Qh _ _).drew)⟩
theorem ZoV(b:Nat)(T:Int->ZB)(m:BC)(l:Nat)(x:Int)(w:World)(H:ZO w b T m)(n:l<6)(A:0<=x)(B:x<=255)(s:(m.lo l).length<=20000) :
  Calls prog 144 #[.pointer (some ⟨b,0,none⟩),.int .i64 l,.int .i64 x] w λe t=>e=.returned (.tuple #[])∧ZO t b T {m with lo:=up m.lo l (m.lo l++[x])}∧AG b w.heap.size w t:=by
 have v:=H.lo l n;have E:=H.lt;have D:(l:Int)<6:=by omega
 have i:=Zd (m.lo l);have g:=Zd [x];obtain⟨j,a⟩:∃j,bs (m.lo l)=j:=⟨_,rfl⟩
 obtain⟨h,c⟩:∃h,bs [x]=h:=⟨_,rfl⟩
 rw[a]at v i;rw[c]at g;have J:h.size=1:=g;have F:¬(9223372036854775807:Int)<(j.size:Int)+h.size:=by omega
 have G:¬(9223372036854775807:Int)<((j.size+h.size:Nat):Int):=by omega
 have I:(j.size:Int)+h.size<=9223372036854775807:=by omega
 have d:=λW=>JN x W A B;rw[c]at d;replace d:=Z_ d;have u:Kp _:=⟨H⟩
 replace a:=Z_ a;replace c:=Z_ c;clear H i g;go_in;go_wp2_with fail;go_region_with ((go_at_call 51;refine(d.o _).mono ?_;rintro e K ⟨rfl,y⟩;have q:Below w.heap.size w K:=(Qh _ _).drew.trans y;have k:=u.o.step q;have z:=k.lo l n;rw[a.o]at z;have L:=k.f (6+l) (by omega);have C:=k.lt))
 all_goals
  go_wp2_with fail;first|go_end0|refine Qi (Qp rfl _ _ _) rfl ?_
  have r:=k.setLo n x;rw[a.o,c.o]at r;exact⟨rfl,r,(AG.of q).setCell _ _⟩
theorem ZoW(b:Nat)(T:Int->ZB)(m:BC)(l:Nat)(w:World)(H:ZO w b T m)(d:l<6)(c:(T l).size<=maxLen) :
  Calls prog 196 #[.pointer (some ⟨b,0,none⟩),.int .i64 l] w λe a=>e=.returned (.int .i64 (bv (T l) (m.po l)))∧ZO a b T {m with po:=up m.po l (m.po l+1)}∧Below b w a:=
 (ZoU b T m l w H d c).mono λe a h=>⟨h.1,h.2.1,(h.2.2.mono (Uf H.lt)).below (Qb _)⟩
theorem ZoX(b:Nat)(T:Int->ZB)(m:BC)(l:Nat)(x:Int)(w:World)(H:ZO w b T m)(g:l<6)(d:0<=x)(f:x<=255)(a:(m.lo l).length<=20000) :
  Calls prog 144 #[.pointer (some ⟨b,0,none⟩),.int .i64 l,.int .i64 x] w λe c=>e=.returned (.tuple #[])∧ZO c b T {m with lo:=up m.lo l (m.lo l++[x])}∧Below b w c:=
 (ZoV b T m l x w H g d f a).mono λe c h=>⟨h.1,h.2.1,(h.2.2.mono (Uf H.lt)).below (Qb _)⟩
def ED(en st:Int)(y:Nat->ZB)(v:ZB):Value:=.agg #[.int .i64 en,.int .i64 st,.string (y 0),.string (y 1),.string (y 2),.string (y 3),.string (y 4),.string (y 5),.string v]
theorem ZX.boxD(w:World)(t:TypeId)(en st:Int)(y:Nat->ZB)(v:ZB):ZX (w.alloc (.cells #[.int .i64 en,.int .i64 st,.string (y 0),.string (y 1),.string (y 2),.string (y 3),.string (y 4),.string (y 5),.string v] t)) w.heap.size en st y v:=by
 refine⟨by simp,by simp[go_sem],by simp[go_sem],λj a=>?_,by simp[go_sem],λj a=>?_⟩
 ·match j with
  | 0=>simp[go_sem]
  | 1=>simp[go_sem]
  | 2=>simp[go_sem]
  | 3=>simp[go_sem]
  | 4=>simp[go_sem]
  | 5=>simp[go_sem]
  | j+6=>omega
 ·simp[go_sem]
theorem Ry(b:Nat)(T:Int->ZB)(m:BC)(en st:Int)(k:Nat)(w:World)(H:ZO w b T m)(V:Kp (DR m))(hk:k<=8) :
  Calls prog 29 #[.pointer (some ⟨b,0,none⟩),.int .i64 en,.int .i64 st,.int .i64 k] w λe w'=>e=.returned (ED en st (λj=>bs (m.lo j)) (bs (CM m.va k)))∧Below w.heap.size w w':=by
 have hl:=H.lt;have Y:=H.lo 0 (by omega);have Z:=H.lo 1 (by omega);have l2:=H.lo 2 (by omega);have l3:=H.lo 3 (by omega);have l4:=H.lo 4 (by omega);have l5:=H.lo 5 (by omega);obtain⟨y,M⟩:∃y:Nat->ZB,∀j:Nat,bs (m.lo j)=y j:=⟨_,λ_=>rfl⟩
 rw[M]at Y Z l2 l3 l4 l5;have N:Kp ((λj:Nat=>bs (m.lo j))=y):=⟨by funext j;exact M j⟩
 rw[N.o];obtain⟨D,h⟩:∃D,D=(w.alloc (.cells #[.int .i64 0,.int .i64 0,.string {data:=#[]},.string {data:=#[]},.string {data:=#[]},.string {data:=#[]},.string {data:=#[]},.string {data:=#[]},.string {data:=#[]}] 36)).alloc (.cells #[.int .i64 en,.int .i64 st,.string (y 0),.string (y 1),.string (y 2),.string (y 3),.string (y 4),.string (y 5),.string {data:=#[]}] 36):=⟨_,rfl⟩
 have E:ZX D w.heap.size 0 0 (λ_=>{data:=#[]}) {data:=#[]}:=by rw[h];exact(ZX.new w _ 0 0).step ((Qh _ _).alloc (Qb _) _)
 have G:ZX D (w.heap.size+1) en st y {data:=#[]}:=by rw[h];have:=ZX.boxD (w.alloc (.cells #[.int .i64 0,.int .i64 0,.string {data:=#[]},.string {data:=#[]},.string {data:=#[]},.string {data:=#[]},.string {data:=#[]},.string {data:=#[]},.string {data:=#[]}] 36)) 36 en st y {data:=#[]};simpa using this
 have q:Below w.heap.size w D:=by rw[h];exact((Qh _ _).alloc (Qb _) _).alloc (by simp) _
 replace h:=Z_ h;replace E:=Z_ E;replace G:=Z_ G;replace q:=Z_ q;have Q:Kp _:=⟨H⟩
 have ae:(k:Int)<=8:=by omega
 clear H M;go_in;go_wp2_with fail;rw[<-h.o];clear h Y Z l2 l3 l4 l5;go_loopw [10] (λO wr=>∃i:Nat,i<=k∧O=.int .i64 i∧Kp (ZX wr w.heap.size 0 0 (λ_=>{data:=#[]}) {data:=#[]})∧Kp (ZX wr (w.heap.size+1) en st y (bs (CM m.va i)))∧Kp (Below w.heap.size w wr)) (λO _=>k-(intOf O).toNat);case atStart=>exact⟨0,by omega,rfl,E,G,q⟩
 case round=>
  clear E G q;obtain⟨i,hi,rfl,a,g,l⟩:=hrel;have aj:=g.o.lt;by_cases ad:i<k
  ·have ab:(i:Int)<k:=by omega
   have aa:(i:Int)<8:=by omega
   have R:=Q.o.step l.o;have q0:=R.va i (by omega);have cv:=g.o.cv;have fv:=g.o.f 8 (by omega);have z:=Zd (CM m.va i);rw[Pq]at z;obtain⟨x0,x9⟩:=V.o.va i;obtain⟨x,L⟩:∃x,m.va i=x:=⟨_,rfl⟩
   rw[L]at q0 x0 x9;have s:=λW=>JN x W x0 x9;have B:=Zd [x]
   obtain⟨t,A⟩:∃t,bs [x]=t:=⟨_,rfl⟩
   obtain⟨n,c⟩:∃n,bs (CM m.va i)=n:=⟨_,rfl⟩
   rw[A]at s B;rw[c]at cv z;have ah:t.size=1:=B;have af:¬(9223372036854775807:Int)<(n.size:Int)+t.size:=by omega
   have ag:¬(9223372036854775807:Int)<((n.size+t.size:Nat):Int):=by omega
   have u:Kp (n++t=bs (CM m.va (i+1))):=⟨by rw[<-c,<-A,OE,Zg,L]⟩
   replace s:=Z_ s;replace c:=Z_ c;clear B z R A L;go_wp2_with fail;go_region_with ((go_at_call 51;refine(s.o _).mono ?_;rintro e P ⟨rfl,U⟩;have J:Below wr.heap.size wr P:=(Qh _ _).drew.trans U;have S:=a.o.step J;have C:=g.o.step J;have X:=C.cv;rw[c.o]at X;have gv:=C.f 8 (by omega);have ai:=C.lt))
   all_goals
    have I:=C.setVars (n++t);rw[u.o]at I;have F:=S.but ((AG.refl (w.heap.size+1) P.heap.size P).setCell 8 (.string (n++t))) (by omega);have r:=(l.o.trans (J.mono l.o.size)).setCell (p:=⟨w.heap.size+1,8,none⟩) (by show w.heap.size<=w.heap.size+1;omega) (.string (n++t));rw[u.o]at F r;rw[u.o];replace I:=Z_ I;replace F:=Z_ F;replace r:=Z_ r;clear S C U J a g l X gv;go_wp2_with fail;go_roundw;case rel=>exact⟨i+1,by omega,by go_num,F,I,r⟩
    case measure=>simp[intOf];omega
  ·have e:i=k:=by omega
   subst e;have d0:=g.o.c0;have d1:=g.o.c1;have d2:=g.o.cl 0 (by omega);have d3:=g.o.cl 1 (by omega);have d4:=g.o.cl 2 (by omega);have d5:=g.o.cl 3 (by omega);have d6:=g.o.cl 4 (by omega);have d7:=g.o.cl 5 (by omega);have d8:=g.o.cv;have r0:=a.o.c0;have r1:=a.o.c1;have r2:=a.o.cl 0 (by omega);have r3:=a.o.cl 1 (by omega);have r4:=a.o.cl 2 (by omega);have r5:=a.o.cl 3 (by omega);have r6:=a.o.cl 4 (by omega);have r7:=a.o.cl 5 (by omega);have r8:=a.o.cv;have f0:=a.o.f 0 (by omega);have f1:=a.o.f 1 (by omega);have f2:=a.o.f 2 (by omega);have f3:=a.o.f 3 (by omega);have f4:=a.o.f 4 (by omega);have f5:=a.o.f 5 (by omega);have f6:=a.o.f 6 (by omega);have f7:=a.o.f 7 (by omega);have f8:=a.o.f 8 (by omega);obtain⟨n,c⟩:∃n,bs (CM m.va i)=n:=⟨_,rfl⟩
   rw[c]at d8;replace c:=Z_ c;have K:=l.o;have d:w.heap.size<=w.heap.size:=Qb _;clear a g l Q;go_wp2;exact bodyPost_ret (v:=ED en st y n) (by simp[results,Tryz.results29,go_sem,r0,r1,r2,r3,r4,r5,r6,r7,r8,ED]) rfl ⟨by rw[c.o],((((((((K.setCell d _).setCell d _).setCell d _).setCell d _).setCell d _).setCell d _).setCell d _).setCell d _).setCell d _⟩
theorem ZO.new(w:World)(t:TypeId)(T:Int->ZB):ZO (w.alloc (.cells #[.string (T 0),.string (T 1),.string (T 2),.string (T 3),.string (T 4),.string (T 5),.string {data:=#[]},.string {data:=#[]},.string {data:=#[]},.string {data:=#[]},.string {data:=#[]},.string {data:=#[]},.int .i64 0,.int .i64 0,.int .i64 0,.int .i64 0,.int .i64 0,.int .i64 0,.int .i64 0,.int .i64 0] t)) w.heap.size T start:=by
 refine⟨by simp,λj a=>?_,λj a=>?_,λj a=>?_,λj a=>by simp[go_sem]⟩
 ·show _=some (Value.string (tl (T j) ((0:Nat):Int)));rw[show ((0:Nat):Int)=0 from rfl,ZqT];match j with
  | 0=>simp[go_sem]
  | 1=>simp[go_sem]
  | 2=>simp[go_sem]
  | 3=>simp[go_sem]
  | 4=>simp[go_sem]
  | 5=>simp[go_sem]
  | j+6=>omega
 ·show _=some (Value.string (bs []));rw[Zr1];match j with
  | 0=>simp[go_sem]
  | 1=>simp[go_sem]
  | 2=>simp[go_sem]
  | 3=>simp[go_sem]
  | 4=>simp[go_sem]
  | 5=>simp[go_sem]
  | j+6=>omega
 ·show _=some (Value.int .i64 0);match j with
  | 0=>simp[go_sem]
  | 1=>simp[go_sem]
  | 2=>simp[go_sem]
  | 3=>simp[go_sem]
  | 4=>simp[go_sem]
  | 5=>simp[go_sem]
  | 6=>simp[go_sem]
  | 7=>simp[go_sem]
  | j+8=>omega
theorem Zq2(d:Nat)(y:ZB)(w:World):(Op.equalIn (d+1) 9 (.string y) (.string y)).run prog w=.ok true w:=by simp only[Op.equalIn,run_underlying Tryz.underlying9,Ue,Sem.run_pure,Uo];rw[beq_toListBytes];simp
theorem JK(a:Array Value)(i:Nat)(v:Value)(w:World)(h:a[i]?=some v):(part 9 a i).run prog w=.ok v w:=by
 have c:(isAgg 9).run prog w=.ok false w:=by unfold isAgg;rw[Ue,run_underlying Tryz.underlying9 w];simp
 unfold part;simp[Sem.run_bind,c,h]
theorem ZoY(d:Nat)(c e f g h j:ZB)(w:World):(Op.equalIn (d+2) 23 (.agg #[.string c,.string e,.string f,.string g,.string h,.string j]) (.agg #[.string c,.string e,.string f,.string g,.string h,.string j])).run prog w=.ok true w:=by
 have n:(sizeOf 9).run prog w=.ok 1 w:=by
  unfold sizeOf typeInfo;cases a:prog.info? 9 with
  | none=>
   have:(prog.info? 9).isSome=true:=by kernel_rfl
   rw[a]at this;exact absurd this (by simp)
  | some i=>
   have k:(prog.info? 9).map (·.size)=some 1:=by kernel_rfl
   rw[a]at k;have l:i.size=1:=by simpa using k
   simp[Sem.run_bind,a,l]
 unfold Op.equalIn;simp only[Ue,run_underlying Tryz.underlying23,Uo,n];simp only[Std.Legacy.Range.forIn_eq_forIn_range',Std.Legacy.Range.size,Nat.sub_zero,Nat.add_sub_cancel,Nat.div_one,List.range'_succ,List.range'_zero];simp[Sem.run_bind,Zq2,JK _ 0 (.string c),JK _ 1 (.string e),JK _ 2 (.string f),JK _ 3 (.string g),JK _ 4 (.string h),JK _ 5 (.string j)]
theorem ZoZ{s:ZB}{f:Int}{r:Value}{x:Int}(h:Gw s T f r x):∃e j y v,r=ED e j y v:=by
 rcases h with ⟨p,c,d,a⟩|⟨c,k,d,a⟩|⟨c,g,i,d,a⟩
 ·exact⟨0,0,λ_=>{data:=#[]},{data:=#[]},a⟩
 ·exact⟨0,0,λ_=>{data:=#[]},{data:=#[]},a⟩
 ·exact⟨_,_,λq=>BM (Ao s) T f.toNat q,_,a⟩
theorem YP(en st:Int)(y:Nat->ZB)(v:ZB)(w:World) :
  Calls prog 11 #[ED en st y v,ED en st y v] w λe i=>e=.returned (.bool true)∧Below w.heap.size w i:=by
 have j:∀(a c d f g h:ZB) (w:World),(Op.equalIn 10000 23 (.agg #[.string a,.string c,.string d,.string f,.string g,.string h]) (.agg #[.string a,.string c,.string d,.string f,.string g,.string h])).run prog w=.ok true w:=ZoY 9998;unfold ED;go_in;go_wp2;go_ret;exact⟨Za (by simp),((Qh _ _).alloc (Qb _) _).alloc (by simp) _⟩
theorem IT(a:Int)(w:World) :
  Calls prog 8 #[.int .i64 a] w λe c=>e=.returned (.int .i64 a)∧c=w:=by
 go_in;go_wp2;go_ret;exact⟨rfl,rfl⟩
end Go.Proofs.YtcnbifdlkalimabGreat
