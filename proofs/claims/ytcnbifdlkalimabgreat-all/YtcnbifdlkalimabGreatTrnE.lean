/- Lemmas; their conditions stand in each. -/
import Derived.Test.YtcnbifdlkalimabGreatTrnF
import Derived.Test.YtcnbifdlkalimabGreatSrcB
import Derived.Deep.RegionLaw
namespace Go.Proofs.YtcnbifdlkalimabGreat
open Go.RowKit Go.Proofs.Tryz
set_option linter.all false
set_option maxRecDepth 100000
variable{vs:List Value}{b g i:Nat}{S:Nat->Value}{q:Tq}{x:Tq×Sq}{w w':World}{s:ZB}
theorem Zw.setCode{c:Nat}(H:Zw w b s q S)(p:S 2=.slice (some ⟨g,0,none⟩) q.cd.length c)(x:Int) :
  Zw (w.setCell ⟨g,i,none⟩ (.int .u8 x)) b s {q with cd:=q.cd.set i x} S∧Zq b b S S w (w.setCell ⟨g,i,none⟩ (.int .u8 x)):=by
 have n:w.ownsRow (b+1) 5 1 (S 2) q.cd.length (q.cd.map (Value.int .u8)):=H.o 2 (by omega);have l:=n;rw[p]at l;obtain⟨B,C⟩:=l.stored i (.int .u8 x);have z:b+1<=g:=(n.lt g (by rw[p];rfl)).1;have blk:∀k,k≠g->(w.setCell ⟨g,i,none⟩ (.int .u8 x)).heap[k]?=w.heap[k]?:=λk r=>QH w ⟨g,i,none⟩ _ k r;have h:∀k:Nat,(w.setCell ⟨g,i,none⟩ (.int .u8 x)).cell? ⟨b,k,none⟩=w.cell? ⟨b,k,none⟩:=λk=>Qo (w:=w) (a:=⟨b,k,none⟩) (blk b (by omega))
 refine⟨⟨by simpa using H.lt,(h _).trans H.c0,(h _).trans H.c1,(h _).trans H.c2,(h _).trans H.c3,(h _).trans H.c4,λi j A m=>(h _).trans (H.cp i j A m),(h _).trans H.ch,(h _).trans H.ci,λj m=>(h _).trans (H.c j m),λj m=>?_,H.d,λj m=>by rw[World.frozen?_setCell];exact H.f j m⟩,⟨rfl,rfl,rfl,by simp,λk _ _ _ y=>blk k (λe=>y 2 (by omega) (by rw[p,e];rfl)),λ_ _=>.inl rfl⟩⟩;by_cases e:j=2
 ·subst e;show (w.setCell ⟨g,i,none⟩ (.int .u8 x)).ownsRow (b+1) 5 1 (S 2) (q.cd.set i x).length ((q.cd.set i x).map (Value.int .u8));rw[p,Um,List.map_set];exact B
 ·have t:ET {q with cd:=q.cd.set i x} j=ET q j:=by unfold ET;rw[if_neg e,if_neg e]
  have u:EU {q with cd:=q.cd.set i x} j=EU q j:=by unfold EU;rw[if_neg e,if_neg e]
  rw[t,u];exact ZQ (H.o j m) λk r=>blk k (λv=>by
   rcases H.d j 2 m (by omega) e with c|c
   ·rw[c]at r;simp at r
   ·exact c (by rw[r,p,v];rfl))
set_option maxHeartbeats 6400000
theorem M5(b:Nat)(s:ZB)(q:Tq)(S:Nat->Value)(z:Nat)(w:World)(H:Zw w b s q S)(M:HW q)(u:2*z+1<q.cd.length) :
  Calls prog 215 #[.pointer (some ⟨b,0,none⟩),.int .i64 z] w λe w'=>e=.returned (.tuple #[])∧Zw w' b s (Bd q z) S∧Zq b b S S w w':=by
 have N:=M.cd;have f:=H.c 2 (by omega);have a:w.ownsRow (b+1) 5 1 (S 2) q.cd.length (q.cd.map (Value.int .u8)):=H.o 2 (by omega);obtain⟨p,y,e⟩:=Zc a;rw[e]at f a;have f:w.cell? ⟨b,43,none⟩=some (.slice p q.cd.length y):=f;obtain⟨g,rfl,x,L,B,C⟩:=NY a u;have d:=H.setCode (i:=2*z+1) e ((plQ q:Int)%256);have j:=λv (h:Below w.heap.size w v)=>JT b s q S v (H.step h) M;have r:Bd q z={q with cd:=q.cd.set (2*z+1) ((plQ q:Int)%256)}:=rfl
 rw[r];have K:=Dg (plQ q);have E:((plQ q:Nat):Int)<=50000:=by unfold plQ;omega
 generalize plQ q=O at *;generalize q.cd.length=n at *;obtain⟨k,t⟩:∃k,2*z+1=k:=⟨_,rfl⟩
 have D:2*(z:Int)+1=(k:Int):=by omega
 rw[t]at d u B C ⊢;have l:(k:Int)<(n:Int):=by omega
 obtain⟨F,G⟩:=CY (x:=2*(z:Int)) (by omega) (by omega);obtain⟨I,J⟩:=CY (x:=2*(z:Int)+1) (by omega) (by omega);replace d:=Z_ d;replace j:=Z_ j;have A:decide ((k:Int)<(n:Int))=true:=Qv l;clear H M a L e r t;go_in;go_wp2_with fail;go_region_with (go_at_call 42;refine(j.o _ ((Qh _ _).drew)).mono ?_;rintro e P ⟨rfl,m⟩;subst m)
 all_goals
  go_wp2_with fail;first|go_end0|refine Qi (Qp rfl _ _ _) rfl ?_
  exact⟨rfl,d.o.1.step ⟨rfl,rfl,rfl,Qb _,λ_ _=>rfl⟩,d.o.2.trans (Zq.below ⟨rfl,rfl,rfl,Qb _,λ_ _=>rfl⟩)⟩
theorem AF.same(h:AF w g vs)(e:w'.heap[g]?=w.heap[g]?)(j:w.heap.size<=w'.heap.size):AF w' g vs:=
 ⟨Qq h.lt j,λi v d=>by rw[Qo (w:=w) (a:=⟨g,i,none⟩) e];exact h.c i v d,λi v d=>by rw[Qz (w:=w) (a:=⟨g,i,none⟩) e];exact h.f i v d⟩
theorem AF.setv(h:AF w g vs)(d:i<vs.length)(x:Value):AF (w.setCell ⟨g,i,none⟩ x) g (vs.set i x):=by
 refine⟨by simpa using h.lt,λj v a=>?_,λj v a=>?_⟩
 ·by_cases e:i=j
  ·subst e;rw[List.getElem?_set_self d]at a;rw[<-Option.some.inj a];exact Qk _ _ _ (h.c i _ (Qn d))
  ·rw[List.getElem?_set_ne e]at a;rw[Bc _ _ _ _ _ e];exact h.c j v a
 ·rw[Qu];have k:j<vs.length:=by have:=(Ql.1 a).1;simpa using this
  exact h.f j _ (Qn k)
structure Cj(w:World)(b:Nat)(s:ZB)(S:Nat->Value)(g:Nat)(x:Tq×Sq):Prop where
 H:Zw w b s x.1 S
 F:IG w b S g
 W:AF w g (BS x.2)
def Gs(b:Nat)(s:ZB)(S:Nat->Value)(g:Nat)(w:World)(y:Tq×Sq)(e:Ending)(w':World):Prop:=
 e=.returned (.tuple #[])∧∃S',Cj w' b s S' g y∧Zq b g S S' w w'
theorem Cj.rd{r:Rd}(E:Cj w b s S g x)(h:Zi w w' b r):Cj w' b s S g ({x.1 with r:=r},x.2):=
 ⟨E.H.rd h,E.F.to (Zq.rd (g:=b) h),E.W.same (h.block g E.F.ne) (by rw[h.size];exact Qb _)⟩
theorem Cj.tr{a:Nat->Value}(E:Cj w b s S g x)(H:Zw w' b s q a)(T:Zq b b S a w w'):Cj w' b s a g (q,x.2):=
 ⟨H,E.F.to T,E.W.same (E.F.same T) T.size⟩
theorem U6{x:Sq}{l:Nat}(a:l<6):BS {x with rd:=Eb x.rd (l:Nat)}=(BS x).set (4+l) (.bool true):=by
 match l,a with
 | 0,_=>rfl
 | 1,_=>rfl
 | 2,_=>rfl
 | 3,_=>rfl
 | 4,_=>rfl
 | 5,_=>rfl
theorem ZrY{x:Sq}{l:Nat}(a:l<6):BS {x with tp:=Eb x.tp (l:Nat)}=(BS x).set (10+l) (.bool true):=by
 match l,a with
 | 0,_=>rfl
 | 1,_=>rfl
 | 2,_=>rfl
 | 3,_=>rfl
 | 4,_=>rfl
 | 5,_=>rfl
theorem Cj.note{y:Sq}{v:Value}(E:Cj w b s S g x)(t:BS y=(BS x.2).set i v)(n:i<16):Cj (w.setCell ⟨g,i,none⟩ v) b s S g (x.1,y)∧Zq b g S S w (w.setCell ⟨g,i,none⟩ v):=by
 have blk:∀k,k≠g->(w.setCell ⟨g,i,none⟩ v).heap[k]?=w.heap[k]?:=λk p=>QH w ⟨g,i,none⟩ _ k p;have m:=E.F.ne
 have h:∀k:Nat,(w.setCell ⟨g,i,none⟩ v).cell? ⟨b,k,none⟩=w.cell? ⟨b,k,none⟩:=λk=>Qo (w:=w) (a:=⟨b,k,none⟩) (blk b (λe=>m e.symm));have H:=E.H
 refine⟨⟨⟨by simpa using H.lt,(h _).trans H.c0,(h _).trans H.c1,(h _).trans H.c2,(h _).trans H.c3,(h _).trans H.c4,λi j n l=>(h _).trans (H.cp i j n l),(h _).trans H.ch,(h _).trans H.ci,λj l=>(h _).trans (H.c j l),λj l=>ZQ (H.o j l) λk p=>blk k (λe=>E.F.no j l (by rw[p,e])),H.d,λj l=>by rw[World.frozen?_setCell];exact H.f j l⟩,⟨by simpa using E.F.lt,m,E.F.no⟩,?_⟩,⟨rfl,rfl,rfl,by simp,λk _ _ r _=>blk k r,λ_ _=>.inl rfl⟩⟩;show AF _ g (BS y);rw[t];exact E.W.setv (by show i<16;exact n) v
theorem NJ(g o l:Nat)(vs:List Value)(w:World)(W:AF w g vs)(k:l<6)(a:o+l<vs.length) :
  Calls prog 241 #[.pointer (some ⟨g,o,none⟩),.int .i64 l] w λe w'=>e=.returned (.tuple #[])∧w'=w.setCell ⟨g,o+l,none⟩ (.bool true):=by
 have h:=W.c (o+l) _ (Qn a);have j:=W.f (o+l) _ (Qn a);have d:(l:Int)<6:=by omega
 generalize vs[o+l]=v at *;clear W;go_in;go_wp2_with fail;first|go_end0|refine Qi (Qp rfl _ _ _) rfl ?_
 exact⟨rfl,rfl⟩
theorem VU(t:Int)(w:World):Calls prog 240 #[.int .u8 t] w λe w'=>e=.returned (.tuple #[.int .i64 (AK t),.bool (AK t != 0)])∧w'=w:=by
 by_cases a:t=43
 ·subst a;go_in;go_wp2;go_ret2;exact⟨rfl,rfl⟩
 ·by_cases c:t=45
  ·subst c;go_in;go_wp2;go_ret2;exact⟨rfl,rfl⟩
  ·by_cases d:t=42
   ·subst d;go_in;go_wp2;go_ret2;exact⟨rfl,rfl⟩
   ·by_cases f:t=60
    ·subst f;go_in;go_wp2;go_ret2;exact⟨rfl,rfl⟩
    ·by_cases h:t=126
     ·subst h;go_in;go_wp2;go_ret2;exact⟨rfl,rfl⟩
     ·have e:AK t=0:=by unfold AK;rw[if_neg a,if_neg c,if_neg d,if_neg f,if_neg h]
      rw[e];have j:(t==43)=false:=Qf.2 a;have k:(t==45)=false:=Qf.2 c;have l:(t==42)=false:=Qf.2 d;have m:(t==60)=false:=Qf.2 f;have n:(t==126)=false:=Qf.2 h;clear a c d f h e;go_in;go_wp2;go_ret2;exact⟨rfl,rfl⟩
def JC(s:ZB)(r:Rd):Rd:=if AK (Ae s r)=0 then Aa s r else nx (Aa s r)
theorem VS(b:Nat)(s:ZB)(r:Rd)(w:World)(H:Cr w b s r)(O:Ci s r) :
  Calls prog 230 #[.pointer (some ⟨b,0,none⟩)] w λe w'=>e=.returned (.tuple #[.int .i64 (AK (Ae s r)),.bool (AK (Ae s r) != 0)])∧Zi w w' b (JC s r):=by
 have d:=Fn b s r w H O;have j:=λ(f:World) (T:Zi w f b (Aa s r))=>H.to T;have p:=O.adv
 have c:=λf=>VU (Ae s r) f;unfold JC;by_cases h:AK (Ae s r)=0
 ·rw[if_pos h,h];rw[h]at c;generalize Ae s r=t at *;replace d:=Z_ d;replace c:=Z_ c;clear H O h j;go_in;go_wp2_with fail;refine d.o.mono ?_;rintro e f ⟨rfl,a⟩;replace a:=Z_ a;go_wp2_with fail;refine(c.o _).mono ?_;rintro e n ⟨rfl,l⟩;subst l;go_wp2;go_ret2;exact⟨rfl,a.o⟩
 ·rw[if_neg h];have m:(AK (Ae s r) != 0)=true:=QO.2 h;rw[m]at c ⊢;generalize AK (Ae s r)=v at *;generalize Ae s r=t at *;replace d:=Z_ d;replace c:=Z_ c;replace j:=Z_ j;clear H O h m;go_in;go_wp2_with fail;refine d.o.mono ?_;rintro e f ⟨rfl,a⟩;have k:=Ih b s (Aa s r) f (j.o f a) p;replace k:=Z_ k;replace a:=Z_ a;clear j d;go_wp2_with fail;refine(c.o _).mono ?_;rintro e n ⟨rfl,l⟩;subst l;go_wp2_with fail;refine k.o.mono ?_;rintro e n ⟨rfl,u⟩;go_wp2;go_ret2;exact⟨rfl,a.o.trans u⟩
theorem Gd.sml(G:Gd s q)(a:AA s q<=9000):HW q:=by unfold AA at a;exact⟨by omega,G.h0,G.h1,by omega,G.ll,G.vl⟩
theorem Gd.ok(G:Gd s q)(a:s.size<=300):Ci s q.r:=⟨a,G.le⟩
theorem Zs2(G:Gd s q)(v:Nat):0<=BN q v∧BN q v<6:=by
 unfold BN;rw[Qs];cases h:q.vs[v]? with
 | none=>exact⟨QP _,by show (0:Int)<6;omega⟩
 | some x=>exact G.vb x (Qw h)
theorem No{r:Rd}{n:Int}(a:n<=6):0<=AW s r 0 (n-1)∧AW s r 0 (n-1)<6:=by
 unfold AW;split
 ·rename_i h;have:=QB h;omega
 ·omega
theorem Zon(b g:Nat)(s:ZB)(x:Tq×Sq)(S:Nat->Value)(w:World)(E:Cj w b s S g x)(G:Gd s x.1)(O:s.size<=300)(D:AA s x.1<=8000) :
  Calls prog 238 #[.pointer (some ⟨b,0,none⟩),.pointer (some ⟨g,0,none⟩)] w (Gs b s S g w (Jq s x)):=by
 have t:=Gi b s x.1.r 36 w E.H.rdAt (G.ok O);have T:Ci s (tk s x.1.r 36):=(G.ok O).tk (by omega);have R:Kp (Cj w b s S g x):=⟨E⟩
 have X:0<=x.1.n∧x.1.n<=6:=⟨G.n0,G.n6⟩
 obtain⟨l,u⟩:∃l:Nat,AW s (tk s x.1.r 36) 0 (x.1.n-1)=l:=⟨(AW s (tk s x.1.r 36) 0 (x.1.n-1)).toNat,by have:=No (s:=s) (r:=tk s x.1.r 36) G.n6;omega⟩
 have a:l<6:=by have:=No (s:=s) (r:=tk s x.1.r 36) G.n6;omega
 have N:Jq s x=(Ad {x.1 with r:=An s (tk s x.1.r 36) 0 (x.1.n-1)} 10 l,{x.2 with rd:=Eb x.2.rd l,tp:=Eb x.2.tp l}):=by unfold Jq;rw[u]
 rw[N];have K:Kp (Gd s x.1):=⟨G⟩
 replace D:=Z_ D;replace t:=Z_ t;replace u:=Z_ u;clear E G N;go_in;go_wp2_with fail;refine t.o.mono ?_;rintro e I ⟨rfl,k⟩;have h:=R.o.rd k;have c:=Mt b s {x.1 with r:=tk s x.1.r 36} S I h.H T X;have c:Calls prog 90 #[.pointer (some ⟨b,0,none⟩)] I λe w'=>e=.returned (.int .i64 (AW s (tk s x.1.r 36) 0 (x.1.n-1)))∧Zi I w' b (An s (tk s x.1.r 36) 0 (x.1.n-1)):=c;rw[u.o]at c;replace c:=Z_ c;replace h:=Z_ h;replace k:=Z_ k;clear t;go_wp2_with fail;refine c.o.mono ?_;rintro e P ⟨rfl,A⟩;have v:=h.o.rd A
 have d:=NJ g 4 l (BS x.2) P v.W a (by show 4+l<16;omega);have m:=v.note (y:={x.2 with rd:=Eb x.2.rd l}) (U6 a) (by omega);have f:=NJ g 10 l (BS {x.2 with rd:=Eb x.2.rd l}) _ m.1.W a (by show 10+l<16;omega);have j:=m.1.note (y:={x.2 with rd:=Eb x.2.rd l,tp:=Eb x.2.tp l}) (ZrY (x:={x.2 with rd:=Eb x.2.rd l}) a) (by omega);have L:Gd s {x.1 with r:=An s (tk s x.1.r 36) 0 (x.1.n-1)}:=K.o.r (DX (by omega) (Z4 K.o.le (by omega)));have M:=L.sml (by
  have V:=D7 (q:=x.1) (Qg (Z7 s (tk s x.1.r 36) 0 (x.1.n-1)) (ZT s x.1.r 36));have Y:=D.o;exact Qg V (by omega))
 have C:=GM b s {x.1 with r:=An s (tk s x.1.r 36) 0 (x.1.n-1)} S 10 l _ j.1.H M (by omega);have B:Zq b g S S w ((P.setCell ⟨g,4+l,none⟩ (.bool true)).setCell ⟨g,10+l,none⟩ (.bool true)):=((Zq.rd k.o).trans (Zq.rd A)).trans (m.2.trans j.2);replace d:=Z_ d;replace f:=Z_ f;replace C:=Z_ C;replace j:=Z_ j;replace B:=Z_ B;clear c h k v m A L M;go_wp2_with fail;refine d.o.mono ?_;rintro e Q ⟨rfl,F⟩;subst F;go_wp2_with fail;refine f.o.mono ?_;rintro e Q ⟨rfl,F⟩;subst F;go_wp2_with fail;refine C.o.mono ?_;rintro e Q ⟨rfl,U,J,p⟩;have z:=j.o.1.tr J p;replace z:=Z_ z;replace p:=Z_ p;clear J;go_wp2_with fail;first|go_end0|refine Qi (Qp rfl _ _ _) rfl ?_
 exact⟨rfl,U,z.o,B.o.trans p.o.up⟩
theorem XF(b g:Nat)(s:ZB)(x:Tq×Sq)(S:Nat->Value)(w:World)(E:Cj w b s S g x)(G:Gd s x.1)(Q:s.size<=300)(D:AA s x.1<=8000) :
  Calls prog 239 #[.pointer (some ⟨b,0,none⟩),.pointer (some ⟨g,0,none⟩)] w (Gs b s S g w (Jr s x)):=by
 have h:=P8 b s x.1 S w E.H (G.sml (by omega)) (G.ok Q);have N:Kp (Cj w b s S g x):=⟨E⟩
 have F:=Zs2 G (varI s x.1.r x.1.ls);obtain⟨l,j⟩:∃l:Nat,BN x.1 (varI s x.1.r x.1.ls)=l:=⟨(BN x.1 (varI s x.1.r x.1.ls)).toNat,by omega⟩
 have k:l<6:=by omega
 have L:Jr s x=(Ad {x.1 with r:=AD s x.1.r x.1.ls} 1 (varI s x.1.r x.1.ls),{x.2 with rd:=Eb x.2.rd l}):=by unfold Jr;rw[j]
 rw[L];have v:Kp (Gd s x.1):=⟨G⟩
 obtain⟨d,m⟩:∃d,varI s x.1.r x.1.ls=d:=⟨_,rfl⟩
 rw[m]at h j ⊢;replace D:=Z_ D;replace h:=Z_ h;replace j:=Z_ j;clear E G L F m;go_in;go_wp2_with fail;refine h.o.mono ?_;rintro e n ⟨rfl,A⟩;have p:=N.o.rd A;have K:Gd s {x.1 with r:=AD s x.1.r x.1.ls}:=v.o.r (Ik v.o.le);have z:=K.sml (by
  have P:=D7 (q:=x.1) (KX s x.1.r x.1.ls);have T:=D.o;exact Qg P (by omega))
 have c:=Rp b s {x.1 with r:=AD s x.1.r x.1.ls} S d n p.H z (λy R=>by have:=v.o.vb y R;omega);have c:Calls prog 217 #[.pointer (some ⟨b,0,none⟩),.int .i64 d] n λe w'=>e=.returned (.int .i64 (BN x.1 d))∧w'=n:=c;rw[j.o]at c;have a:=NJ g 4 l (BS x.2) n p.W k (by show 4+l<16;omega)
 have f:=p.note (y:={x.2 with rd:=Eb x.2.rd l}) (U6 k) (by omega);have C:=GM b s {x.1 with r:=AD s x.1.r x.1.ls} S 1 d _ f.1.H z (by omega);have B:Zq b g S S w (n.setCell ⟨g,4+l,none⟩ (.bool true)):=(Zq.rd A).trans f.2;replace c:=Z_ c;replace a:=Z_ a;replace C:=Z_ C;replace f:=Z_ f;replace B:=Z_ B;clear h p A K z;go_wp2_with fail;refine c.o.mono ?_;rintro e M ⟨rfl,I⟩;subst I;go_wp2_with fail;refine a.o.mono ?_;rintro e M ⟨rfl,I⟩;subst I;go_wp2_with fail;refine C.o.mono ?_;rintro e M ⟨rfl,O,J,t⟩;have u:=f.o.1.tr J t;replace u:=Z_ u;replace t:=Z_ t;clear J;go_wp2_with fail;first|go_end0|refine Qi (Qp rfl _ _ _) rfl ?_
 exact⟨rfl,O,u.o,B.o.trans t.o.up⟩
def PR(b g:Nat)(s:ZB)(k:Nat):Prop:=∀(x:Tq×Sq) (S:Nat->Value) (w:World),Cj w b s S g x->Gd s x.1->Ah s x.1.r<k->AA s x.1<=7000->
 Calls prog 211 #[.pointer (some ⟨b,0,none⟩),.pointer (some ⟨g,0,none⟩)] w (Gs b s S g w (AI s k x))
theorem Tt(b g:Nat)(s:ZB)(N:s.size<=300)(k:Nat)(ih:Kp (PR b g s k))(q:Tq)(z:Sq)(S:Nat->Value)(w:World)(E:Cj w b s S g (q,z))(G:Gd s q)(R:Ah s q.r<=k)(O:AA s q<=7002) :
  Calls prog 229 #[.pointer (some ⟨b,0,none⟩),.pointer (some ⟨g,0,none⟩)] w (Gs b s S g w (Bj s (AI s k) (q,z))):=by
 have j:=Fn b s q.r w E.H.rdAt (G.ok N);have E0:Kp (∀a,Zi w a b (Aa s q.r)->Cj a b s S g ({q with r:=Aa s q.r},z)):=⟨λa T=>E.rd T⟩
 have D:Gd s {q with r:=Aa s q.r}:=G.r (Ze G.le);have V:AA s {q with r:=Aa s q.r}<=7002:=Qg (D7 (Zh s q.r)) O;have f:=λa=>NH (Ae s q.r) a;obtain⟨y,d⟩:∃y,Bj s (AI s k) (q,z)=y:=⟨_,rfl⟩
 rw[d];unfold Bj at d;dsimp only at d;by_cases A:48<=Ae s q.r∧Ae s q.r<=57
 ·rw[if_pos A]at d;rw[Qv A]at f;obtain⟨A,I⟩:=A;obtain⟨n,p⟩:∃n,num s (Aa s q.r)=n:=⟨_,rfl⟩
  have hN:Kp (∀a,Zi w a b (Aa s q.r)->Calls prog 237 #[.pointer (some ⟨b,0,none⟩)] a λe w'=>e=.returned (.int .i64 n.1)∧Zi a w' b n.2):=⟨λa T=>by rw[<-p];exact V4 b s (Aa s q.r) a (E.rd T).H.rdAt (D.ok N)⟩
  have M:Gd s {q with r:=n.2}:=G.r (by rw[<-p];exact M0 _ _ _ (Ze G.le));have P:AA s {q with r:=n.2}<=9000:=by have B:=D7 (q:=q) (Qg (Oq s (Aa s q.r)) (Zh s q.r));rw[p]at B;exact Qg B (by omega)
  have hE:Kp (∀a,Zi w a b n.2->Calls prog 212 #[.pointer (some ⟨b,0,none⟩),.int .i64 0,.int .i64 n.1] a λe w'=>e=.returned (.tuple #[])∧∃v,Zw w' b s y.1 v∧Zq b b S v a w'):=⟨λa T=>by
   rw[<-d,p];exact GM b s {q with r:=n.2} S 0 n.1 a (E.rd T).H (M.sml P) (by omega)⟩
  have ab:Kp (y.2=z):=⟨by rw[<-d]⟩
  have W:Kp (∀a,Zi w a b n.2->Cj a b s S g ({q with r:=n.2},z)):=⟨λa T=>E.rd T⟩
  replace j:=Z_ j;replace f:=Z_ f;clear D V d p M P E G R O;generalize Ae s q.r=t at *;go_in;go_wp2_with fail;refine j.o.mono ?_;rintro e a ⟨rfl,c⟩;replace c:=Z_ c;go_wp2_with fail;refine(f.o _).mono ?_;rintro e L ⟨rfl,K⟩;subst K;go_wp2_with fail;refine(hN.o _ c.o).mono ?_;rintro e L ⟨rfl,m⟩;have l:Kp _:=⟨c.o.trans m⟩
  clear m;go_wp2_with fail;refine(hE.o _ l.o).mono ?_;rintro e w3 ⟨rfl,v,A3,F⟩;have C:=(W.o _ l.o).tr A3 F;replace C:=Z_ C;replace F:=Z_ F;clear A3;go_wp2_with fail;first|go_end0|refine Qi (Qp rfl _ _ _) rfl ?_
  exact⟨rfl,v,by have h:=C.o;rw[<-ab.o]at h;exact h,(Zq.rd l.o).trans F.o.up⟩
 ·rw[if_neg A]at d;rw[Qx A]at f;by_cases I:Ae s q.r=36
  ·rw[if_pos I]at d;rw[I]at j f;have Y:Kp (∀a,Zi w a b (Aa s q.r)->Calls prog 238 #[.pointer (some ⟨b,0,none⟩),.pointer (some ⟨g,0,none⟩)] a (Gs b s S g a y)):=⟨λa T=>by
    rw[<-d];exact Zon b g s ({q with r:=Aa s q.r},z) S a (E.rd T) D N (by show AA s {q with r:=Aa s q.r}<=8000;omega)⟩
   replace j:=Z_ j;replace f:=Z_ f;clear D V d E G R O A I;go_in;go_wp2_with fail;refine j.o.mono ?_;rintro e a ⟨rfl,c⟩;replace c:=Z_ c;go_wp2_with fail;refine(f.o _).mono ?_;rintro e L ⟨rfl,K⟩;subst K;go_wp2_with fail;refine(Y.o _ c.o).mono ?_;rintro e L ⟨rfl,v,J,m⟩;replace J:=Z_ J;replace m:=Z_ m;go_wp2_with fail;first|go_end0|refine Qi (Qp rfl _ _ _) rfl ?_
   exact⟨rfl,v,J.o,(Zq.rd c.o).trans m.o⟩
  ·rw[if_neg I]at d;have k2:(Ae s q.r==36)=false:=Qf.2 I;by_cases B:Ae s q.r=40
   ·rw[if_pos B]at d;have Z:=ZR (s:=s) (r:=q.r) (by omega);have aa:=Zt (s:=s) (r:=q.r) (by omega);have M:Gd s {q with r:=nx (Aa s q.r)}:=G.r (Dk (by omega));have P:AA s {q with r:=nx (Aa s q.r)}<=7000:=by have:=FJ s q (nx (Aa s q.r));have:=CH s q;omega
    obtain⟨u,U⟩:∃u,AI s k ({q with r:=nx (Aa s q.r)},z)=u:=⟨_,rfl⟩
    rw[U]at d;have hS:Kp (∀a,Zi w a b (Aa s q.r)->Calls prog 160 #[.pointer (some ⟨b,0,none⟩)] a λe w'=>e=.returned (.tuple #[])∧Zi a w' b (nx (Aa s q.r))):=⟨λa T=>Ih b s (Aa s q.r) a (E.rd T).H.rdAt (D.ok N)⟩
    have hX:Kp (∀a,Zi w a b (nx (Aa s q.r))->Calls prog 211 #[.pointer (some ⟨b,0,none⟩),.pointer (some ⟨g,0,none⟩)] a (Gs b s S g a u)):=⟨λa T=>by
     rw[<-U];exact ih.o ({q with r:=nx (Aa s q.r)},z) S a (E.rd T) M (by show Ah s (nx (Aa s q.r))<k;omega) P⟩
    have Gu:Gd s u.1:=by rw[<-U];exact Ka k _ M
    have hK:Kp (∀a S1,Cj a b s S1 g u->Calls prog 92 #[.pointer (some ⟨b,0,none⟩),.int .u8 41] a λe w'=>e=.returned (.tuple #[])∧Zi a w' b (tk s u.1.r 41)):=⟨λa S1 W=>Gi b s u.1.r 41 a W.H.rdAt (Gu.ok N)⟩
    rw[B]at j f;replace j:=Z_ j;replace f:=Z_ f;replace d:=Z_ d;clear D V E G R O A I B k2 M P U Gu Z aa E0;go_in;go_wp2_with fail;refine j.o.mono ?_;rintro e a ⟨rfl,c⟩;replace c:=Z_ c;go_wp2_with fail;refine(f.o _).mono ?_;rintro e L ⟨rfl,K⟩;subst K;go_wp2_with fail;refine(hS.o _ c.o).mono ?_;rintro e L ⟨rfl,m⟩;have l:Kp _:=⟨c.o.trans m⟩
    clear c m;go_wp2_with fail;refine(hX.o _ l.o).mono ?_;rintro e w3 ⟨rfl,v,C,F⟩;replace C:=Z_ C;replace F:=Z_ F;go_wp2_with fail;refine(hK.o _ _ C.o).mono ?_;rintro e w4 ⟨rfl,Q⟩;have X:=C.o.rd Q;replace X:=Z_ X;replace Q:=Z_ Q;go_wp2_with fail;first|go_end0|refine Qi (Qp rfl _ _ _) rfl ?_
    exact⟨rfl,v,by rw[<-d.o];exact X.o,((Zq.rd l.o).trans F.o).trans (Zq.rd Q.o)⟩
   ·rw[if_neg B]at d;have k3:(Ae s q.r==40)=false:=Qf.2 B;have Y:Kp (∀a,Zi w a b (Aa s q.r)->Calls prog 239 #[.pointer (some ⟨b,0,none⟩),.pointer (some ⟨g,0,none⟩)] a (Gs b s S g a y)):=⟨λa T=>by
     rw[<-d];exact XF b g s ({q with r:=Aa s q.r},z) S a (E.rd T) D N (by show AA s {q with r:=Aa s q.r}<=8000;omega)⟩
    generalize Ae s q.r=t at *;replace j:=Z_ j;replace f:=Z_ f;clear D V d E G R O A I B;go_in;go_wp2_with fail;refine j.o.mono ?_;rintro e a ⟨rfl,c⟩;replace c:=Z_ c;go_wp2_with fail;refine(f.o _).mono ?_;rintro e L ⟨rfl,K⟩;subst K;go_wp2_with fail;refine(Y.o _ c.o).mono ?_;rintro e L ⟨rfl,v,J,m⟩;replace J:=Z_ J;replace m:=Z_ m;go_wp2_with fail;first|go_end0|refine Qi (Qp rfl _ _ _) rfl ?_
    exact⟨rfl,v,J.o,(Zq.rd c.o).trans m.o⟩
def AJ(s:ZB)(r:Rd):Nat:=Ah s r+(if r.er=0 then 1 else 0)
theorem KF(b g:Nat)(s:ZB)(hs:s.size<=300):∀k,PR b g s k
 | 0=>λx S w E G Z hp=>by omega
 | k+1=>by
  have ih:Kp (PR b g s k):=⟨KF b g s hs k⟩
  rintro⟨q,R⟩ S w E G Z hp;have Z:Ah s q.r<k+1:=Z;have hp:AA s q<=7000:=hp;have G:Gd s q:=G;obtain⟨y,m⟩:∃y,Bj s (AI s k) (q,R)=y:=⟨_,rfl⟩
  have D:=Tt b g s hs k ih q R S w E G (by omega) (by omega);rw[m]at D;have hQ:AI s (k+1) (q,R)=BB s (Bj s (AI s k)) k y:=by simp only[AI];rw[m]
  rw[hQ];have G0:Kp (Gd s y.1):=⟨by rw[<-m];exact Nd (Ka k) G⟩
  have p0:Kp (AA s y.1<=7002):=⟨by rw[<-m];exact Qg (MW s _ (K8 s k) (q,R)) (by show AA s q+2<=7002;omega)⟩
  have r0:Kp (Ah s y.1.r<=k):=⟨by
   have h:=(IV s k (Ie s k) (q,R) ⟨q.r,q.n,q.ls,q.vs,[],[]⟩ ⟨rfl,rfl,rfl,rfl⟩ (by show Ah s q.r<=k;omega))
   rw[<-m,h.r];have:=h.le;have c:Ah s (⟨q.r,q.n,q.ls,q.vs,[],[]⟩:Rs).r=Ah s q.r:=rfl;omega⟩
  have hO:Kp (∀(x:Tq×Sq) p A,Cj p b s A g x->Gd s x.1->Calls prog 230 #[.pointer (some ⟨b,0,none⟩)] p λe w'=>e=.returned (.tuple #[.int .i64 (AK (Ae s x.1.r)),.bool (AK (Ae s x.1.r) != 0)])∧Zi p w' b (JC s x.1.r)):=⟨λx p A z G1=>VS b s x.1.r p z.H.rdAt (G1.ok hs)⟩
  obtain⟨l,d⟩:∃l,BB s (Bj s (AI s k)) k y=l:=⟨_,rfl⟩
  rw[d];replace D:=Z_ D;replace d:=Z_ d;clear E G Z hp m hQ;go_in;go_wp2_with fail;refine D.o.mono ?_;rintro e p ⟨rfl,A,z,V⟩;replace z:=Z_ z;replace V:=Z_ V;clear D;go_wp2_with fail;refine(hO.o y _ _ z.o G0.o).mono ?_;rintro e w2 ⟨rfl,K⟩;replace K:=Z_ K;go_wp2_with fail;go_loopg [4,5] (Ah s y.1.r) (λgm ov kv wr=>∃(j:Nat) (x:Tq×Sq) (t:Nat->Value),ov=.int .i64 (AK (Ae s x.1.r))∧kv=.bool (AK (Ae s x.1.r) != 0)∧Kp (Cj wr b s t g ({x.1 with r:=JC s x.1.r},x.2))∧Kp (Gd s x.1)∧Kp (AA s x.1<=7002)∧Kp (Ah s x.1.r<=j∧Ah s x.1.r<=k)∧Kp (BB s (Bj s (AI s k)) j x=l)∧Kp (Zq b g S t w wr)∧Kp (gm=Ah s x.1.r));case atStart=>exact⟨k,y,A,rfl,rfl,⟨z.o.rd K.o⟩,G0,p0,⟨r0.o,r0.o⟩,d,⟨V.o.trans (Zq.rd K.o)⟩,⟨rfl⟩⟩
  case round=>
   clear z V K G0 p0 r0 d;obtain⟨j,⟨a,v⟩,t,rfl,rfl,I,M,N,O,Y,D,hm⟩:=hrel;have I:Kp (Cj wr b s t g ({a with r:=JC s a.r},v)):=I;have M:Kp (Gd s a):=M;have N:Kp (AA s a<=7002):=N;have O:Kp (Ah s a.r<=j∧Ah s a.r<=k):=O;have hm:Kp (gk=Ah s a.r):=hm;by_cases B:AK (Ae s a.r)=0
   ·have e1:Kp (l=({a with r:=Aa s a.r},v)):=⟨by
     rw[<-Y.o];cases j with
     | zero=>rfl
     | succ j=>simp only[BB];rw[if_pos B]⟩
    have aa:Kp (Cj wr b s t g l):=⟨by rw[e1.o];have:=I.o;unfold JC at this;rw[if_pos B]at this;exact this⟩
    have Q:(AK (Ae s a.r) != 0)=false:=by rw[B];rfl
    show Code.wp _ _ _ _ _;rw[show (AK (Ae s (a,v).1.r) != 0)=false from Q];generalize AK (Ae s (a,v).1.r)=op at *;clear I M N O Y hm B Q e1;go_wp2_with fail;first|go_end0|refine Qi (Qp rfl _ _ _) rfl ?_
    exact⟨rfl,t,aa.o,D.o⟩
   ·have f:=Ib B;have ad:=ZR (s:=s) (r:=a.r) f.1;have ae:=Zt (s:=s) (r:=a.r) f.1;have hj:=O.o;obtain⟨j,rfl⟩:∃i,j=i+1:=⟨j-1,by omega⟩
    have Gn:Gd s {a with r:=nx (Aa s a.r)}:=M.o.r (Dk f.1);have pn:AA s {a with r:=nx (Aa s a.r)}<=6994:=by have:=FJ s a (nx (Aa s a.r));have:=CH s a;have:=N.o;omega
    have L:Cj wr b s t g ({a with r:=nx (Aa s a.r)},v):=by have:=I.o;unfold JC at this;rw[if_neg B]at this;exact this
    have C:=Tt b g s hs k ih {a with r:=nx (Aa s a.r)} v t wr L Gn (by show Ah s (nx (Aa s a.r))<=k;omega) (by omega);obtain⟨u,J⟩:∃u,Bj s (AI s k) ({a with r:=nx (Aa s a.r)},v)=u:=⟨_,rfl⟩
    rw[J]at C;have Gu:Gd s u.1:=by rw[<-J];exact Nd (Ka k) Gn
    have pu:AA s u.1<=7000:=by rw[<-J];exact Qg (MW s _ (K8 s k) ({a with r:=nx (Aa s a.r)},v)) (by show AA s {a with r:=nx (Aa s a.r)}+2<=7000;omega)
    have ru:Ah s u.1.r<=Ah s (nx (Aa s a.r)):=by
     have h:=(IV s k (Ie s k) ({a with r:=nx (Aa s a.r)},v) ⟨nx (Aa s a.r),a.n,a.ls,a.vs,[],[]⟩ ⟨rfl,rfl,rfl,rfl⟩ (by show Ah s (nx (Aa s a.r))<=k;omega))
     rw[<-J,h.r];exact h.le
    have F:BB s (Bj s (AI s k)) j (Ad u.1 (AK (Ae s a.r)) 0,u.2)=l:=by rw[<-Y.o];simp only[BB];rw[if_neg B,J]
    have ab:Kp (∀p A,Cj p b s A g u->Calls prog 212 #[.pointer (some ⟨b,0,none⟩),.int .i64 (AK (Ae s a.r)),.int .i64 0] p λe w'=>e=.returned (.tuple #[])∧∃t,Zw w' b s (Ad u.1 (AK (Ae s a.r)) 0) t∧Zq b b A t p w'):=⟨λp A z=>GM b s u.1 A _ 0 p z.H (Gu.sml (by omega)) (by omega)⟩
    have Ge:Kp (Gd s (Ad u.1 (AK (Ae s a.r)) 0)):=⟨Gu.emit _ _⟩
    have pe:Kp (AA s (Ad u.1 (AK (Ae s a.r)) 0)<=7002):=⟨by rw[EX];omega⟩
    have re:Kp (Ah s u.1.r<=j∧Ah s u.1.r<=k∧Ah s u.1.r<Ah s a.r):=⟨by omega⟩
    have Q:(AK (Ae s a.r) != 0)=true:=QO.2 B;rw[show (AK (Ae s (a,v).1.r) != 0)=true from Q];have P:AK (Ae s (a,v).1.r)=AK (Ae s a.r):=rfl;rw[P];generalize AK (Ae s a.r)=op at *;replace C:=Z_ C;replace F:=Z_ F;clear P Q B f ad ae hj Gn pn L Gu pu ru Y I M N O J;go_wp2_with fail;refine C.o.mono ?_;rintro e w3 ⟨rfl,S3,T,T3⟩;replace T:=Z_ T;replace T3:=Z_ T3;go_wp2_with fail;refine(ab.o _ _ T.o).mono ?_;rintro e w4 ⟨rfl,S4,A4,W⟩;have U:=T.o.tr A4 W;replace U:=Z_ U;replace W:=Z_ W;clear A4;go_wp2_with fail;refine(hO.o _ _ _ U.o Ge.o).mono ?_;rintro e w5 ⟨rfl,X⟩;replace X:=Z_ X;go_wp2_with fail;go_roundg (Ah s u.1.r);case measure=>have h1:=hm.o;have h2:=re.o;omega
    case rel=>exact⟨j,(Ad u.1 op 0,u.2),S4,rfl,rfl,⟨U.o.rd X.o⟩,Ge,pe,⟨re.o.1,re.o.2.1⟩,F,⟨(D.o.trans T3.o).trans (W.o.up.trans (Zq.rd X.o))⟩,⟨rfl⟩⟩
theorem Zr{P:Program}{p:Array Oper}{o:Oper}{a:Act}{w:World}{K:Act->World->Prop}{Q:Exit->Act->World->Prop}{E:Prop}
  (B:o.guard=none) (s x:Operand) (t:TypeId) (O:o.op=Op.call {callee:=Callee.builtin Builtin.append,args:=#[s,x],argTypes:=#[t,t]})
  (base:Nat) (e:TypeId) (i:TypeInfo) (z:Value) (size d:Nat) (U:P.underlying t=some (.slice e)) (M:P.info? e=some i) (Y:i.zero=some z)
  (k:i.size=size) (A:i.bytes=d) (D:z.cells.size=size) (C:0<size)
  (v:Value) (n:Nat) (F:List Value) (T:a.eval s=v) (m:w.ownsRow base e size v n F)
  (r:Addr) (c:List Value) (X:a.eval x=.slice (some r) 1 1) (N:c.length=1*size) (V:∀j u,c[j]?=some u->w.cell? (r.add j)=some u) (G:∀u∈c,u.oneCell'=true)
  (y:n+1<=maxLen) (f:(n+1)*d<=140737488355328) (h:base<=w.heap.size)
  (L:∀l w',w'.ownsRow base e size l (n+1) (F++c)->w.grownBy w' v.ownBlock->(l.ownBlock=v.ownBlock∨l.ownBlock=some w.heap.size)->K (a.put o.dst l) w') :
  if Region.wanted o (yielded p a.tmps)=true then Oper.wp P o a w K Q else E:=by
 have W:Region.wanted o (yielded p a.tmps)=true:=by simp[Region.wanted,B]
 rw[if_pos W];obtain⟨l,w',R,H,I,_,J⟩:=run_append_own_at (P:=P) w base t o.type e i z size d U M Y k A D C v n F m r 1 1 c N V G y f h;unfold Oper.wp execOp;simp only[O,resolve,invoke,builtin,Ue,Sem.run_pure,Uo,List.map_toArray,List.map_cons,List.map_nil,T,X,R];exact L l w' H I J
def D6(x:Sq):Value:=.agg #[.int .i64 x.k,.int .i64 x.pl,.int .i64 x.ou,.int .i64 x.ta,.bool (x.rd 0),.bool (x.rd 1),.bool (x.rd 2),.bool (x.rd 3),.bool (x.rd 4),.bool (x.rd 5),.bool (x.tp 0),.bool (x.tp 1),.bool (x.tp 2),.bool (x.tp 3),.bool (x.tp 4),.bool (x.tp 5)]
theorem Zqu:(prog.info? 109).map (λi=>(i.zero,i.size,i.bytes))=some (some (.agg #[.int .i64 0,.int .i64 0,.int .i64 0,.int .i64 0,.bool false,.bool false,.bool false,.bool false,.bool false,.bool false,.bool false,.bool false,.bool false,.bool false,.bool false,.bool false]),16,48):=by kernel_rfl
theorem laid(W:World)(t:TypeId):∀f d a:List Value,a.length=f.length->(W.alloc (.cells (d++a).toArray t)).setCells W.heap.size d.length f=W.alloc (.cells (d++f).toArray t)
 | [],d,a,h=>by have e:a=[]:=List.length_eq_zero_iff.1 h;subst e;rfl
 | c::f,d,p::a,h=>by
  have j:=laid W t f (d++[c]) a (by simpa using h);simp only[World.setCells];rw[World.setCell_alloc_new];have e:((d++p::a).toArray.setIfInBounds d.length c)=((d++[c])++a).toArray:=by simp
  rw[e];rw[show (d++[c]).length=d.length+1 by simp]at j;rw[j];simp
theorem own0(h:AF w g vs)(i:Nat)(v:Value)(e:vs[i]?=some v):w.cell? ⟨g,0+i,none⟩=some v:=by rw[QT];exact h.c i v e
theorem wl16{d:Array Oper}{c:List Oper}{op:Oper}{a:Act}{Q:Exit->Act->World->Prop}{o:Nat}{y:Sq}{x:Operand}(e:op.guard=none)(f:op.op=.load 109 x)(j:a.eval x=.pointer (some ⟨g,o,none⟩))(W:∀(i:Nat) (v:Value),(BS y)[i]?=some v->w.cell? ⟨g,o+i,none⟩=some v)(h:wpList prog d Q c (a.put op.dst (D6 y)) w):wpList prog d Q (op::c) a w:=
 wpList_load_mid e 109 x f g o j (BS y) _ W Tryz.underlying109 rfl (by kernel_rfl) h
theorem ws16{f:Array Oper}{c:List Oper}{op:Oper}{a:Act}{W:World}{Q:Exit->Act->World->Prop}{x y:Operand}{Z d:List Value}(l:op.guard=none)(r:op.op=.store 109 x y)(t:a.eval x=.pointer (some ⟨W.heap.size,0,none⟩))(u:a.eval y=.agg d.toArray)(n:Z.length=16)(k:d.length=16)(o:d.toArray.all (·.oneCell')=true)(h:wpList prog f Q c (a.put op.dst undef) (W.alloc (.cells d.toArray 109))):wpList prog f Q (op::c) a (W.alloc (.cells Z.toArray 109)):=by
 refine wpList_store_mid l 109 x y r W.heap.size 0 d.toArray t u ?_ ?_ o ?_
 ·intro j p;have m:j<16:=by simpa [k] using p
  rw[QT];exact⟨by simp[go_sem,n,m],by simp[go_sem]⟩
 ·rw[List.size_toArray,k];kernel_rfl
 ·have e:=laid W 109 d [] Z (by rw[n,k]);simp only[List.nil_append,Qy]at e;rw[e];exact h
theorem wa16{e:Array Oper}{c:List Oper}{op:Oper}{a:Act}{W:World}{Q:Exit->Act->World->Prop}{x:Operand}{d:List Value}(f:op.guard=none)(l:op.op=.load 109 x)(n:a.eval x=.pointer (some ⟨W.heap.size,0,none⟩))(k:d.length=16)(h:wpList prog e Q c (a.put op.dst (.agg d.toArray)) (W.alloc (.cells d.toArray 109))):wpList prog e Q (op::c) a (W.alloc (.cells d.toArray 109)):=by
 refine wpList_load_mid f 109 x l W.heap.size 0 n d _ ?_ Tryz.underlying109 rfl ?_ h
 ·intro j v m;rw[QT,<-m];simp[go_sem]
 ·rw[k];kernel_rfl
theorem Ep(w:World)(x:Sq)(t:TypeId):AF (w.alloc (.cells #[.int .i64 x.k,.int .i64 x.pl,.int .i64 x.ou,.int .i64 x.ta,.bool (x.rd 0),.bool (x.rd 1),.bool (x.rd 2),.bool (x.rd 3),.bool (x.rd 4),.bool (x.rd 5),.bool (x.tp 0),.bool (x.tp 1),.bool (x.tp 2),.bool (x.tp 3),.bool (x.tp 4),.bool (x.tp 5)] t)) w.heap.size (BS x):=by
 refine⟨by simp,?_,?_⟩
 ·intro i v a;have c:i<16:=by have:=(List.getElem?_eq_some_iff.1 a).1;simpa [BS] using this
  have e:(w.alloc (.cells #[.int .i64 x.k,.int .i64 x.pl,.int .i64 x.ou,.int .i64 x.ta,.bool (x.rd 0),.bool (x.rd 1),.bool (x.rd 2),.bool (x.rd 3),.bool (x.rd 4),.bool (x.rd 5),.bool (x.tp 0),.bool (x.tp 1),.bool (x.tp 2),.bool (x.tp 3),.bool (x.tp 4),.bool (x.tp 5)] t)).cell? ⟨w.heap.size,i,none⟩=(BS x)[i]?:=by
   match i,c with
   | 0,_=>simp[go_sem,BS]
   | 1,_=>simp[go_sem,BS]
   | 2,_=>simp[go_sem,BS]
   | 3,_=>simp[go_sem,BS]
   | 4,_=>simp[go_sem,BS]
   | 5,_=>simp[go_sem,BS]
   | 6,_=>simp[go_sem,BS]
   | 7,_=>simp[go_sem,BS]
   | 8,_=>simp[go_sem,BS]
   | 9,_=>simp[go_sem,BS]
   | 10,_=>simp[go_sem,BS]
   | 11,_=>simp[go_sem,BS]
   | 12,_=>simp[go_sem,BS]
   | 13,_=>simp[go_sem,BS]
   | 14,_=>simp[go_sem,BS]
   | 15,_=>simp[go_sem,BS]
  rw[e];exact a
 ·intro i v a;have c:i<16:=by have:=(List.getElem?_eq_some_iff.1 a).1;simpa [BS] using this
  match i,c with
  | 0,_=>simp[go_sem]
  | 1,_=>simp[go_sem]
  | 2,_=>simp[go_sem]
  | 3,_=>simp[go_sem]
  | 4,_=>simp[go_sem]
  | 5,_=>simp[go_sem]
  | 6,_=>simp[go_sem]
  | 7,_=>simp[go_sem]
  | 8,_=>simp[go_sem]
  | 9,_=>simp[go_sem]
  | 10,_=>simp[go_sem]
  | 11,_=>simp[go_sem]
  | 12,_=>simp[go_sem]
  | 13,_=>simp[go_sem]
  | 14,_=>simp[go_sem]
  | 15,_=>simp[go_sem]
theorem M6(b:Nat)(s:ZB)(q:Tq)(S:Nat->Value)(x:Sq)(w:World)(H:Zw w b s q S)(M:HW q) :
  Calls prog 213 #[.pointer (some ⟨b,0,none⟩),D6 x] w λe w'=>e=.returned (.int .i64 q.ss.length)∧∃S',Zw w' b s (Ax q x) S'∧Zq b b S S' w w':=by
 have c:=H.c 3 (by omega);have c:w.cell? ⟨b,46,none⟩=some (S 3):=c;have C:=H.lt;have hl:=M.ss;obtain⟨i0,W,Z,aa,ab⟩:=AX Zqu;have r:w.ownsRow (b+1) 109 16 (S 3) q.ss.length (q.ss.flatMap BS):=H.o 3 (by omega);have B:some b≠(S 3).ownBlock:=λe=>by have:=(r.lt _ e.symm).1;omega
 obtain⟨A,h⟩:∃A,A=w.alloc (.cells #[.int .i64 x.k,.int .i64 x.pl,.int .i64 x.ou,.int .i64 x.ta,.bool (x.rd 0),.bool (x.rd 1),.bool (x.rd 2),.bool (x.rd 3),.bool (x.rd 4),.bool (x.rd 5),.bool (x.tp 0),.bool (x.tp 1),.bool (x.tp 2),.bool (x.tp 3),.bool (x.tp 4),.bool (x.tp 5)] 109):=⟨_,rfl⟩
 obtain⟨v,t⟩:∃v,v=A.alloc (.cells #[.int .i64 x.k,.int .i64 x.pl,.int .i64 x.ou,.int .i64 x.ta,.bool (x.rd 0),.bool (x.rd 1),.bool (x.rd 2),.bool (x.rd 3),.bool (x.rd 4),.bool (x.rd 5),.bool (x.tp 0),.bool (x.tp 1),.bool (x.tp 2),.bool (x.tp 3),.bool (x.tp 4),.bool (x.tp 5)] 109):=⟨_,rfl⟩
 have m:AF A w.heap.size (BS x):=by rw[h];exact Ep w x _
 have O:AF v.drew A.heap.size (BS x):=by have:=Ep A x 109;rw[<-t]at this;exact this.step ((Qh _ _).drew)
 have a:Below w.heap.size w v.drew:=by rw[t,h];exact(((Qh _ _).alloc (Qb _) _).alloc (by simp) _).drew
 have z:v.drew.heap.size=w.heap.size+2:=by rw[t,h];simp
 have d0:=m.c 0 _ rfl;have d1:=m.c 1 _ rfl;have d2:=m.c 2 _ rfl;have d3:=m.c 3 _ rfl;have d4:=m.c 4 _ rfl;have d5:=m.c 5 _ rfl;have d6:=m.c 6 _ rfl;have d7:=m.c 7 _ rfl;have d8:=m.c 8 _ rfl;have d9:=m.c 9 _ rfl;have P:=m.c 10 _ rfl;have Q:=m.c 11 _ rfl;have R:=m.c 12 _ rfl;have T:=m.c 13 _ rfl;have U:=m.c 14 _ rfl;have V:=m.c 15 _ rfl;have ca:A.cell? ⟨b,46,none⟩=some (S 3):=by rw[h,((Qh _ w).alloc (Qb _) _).cell (p:=⟨b,46,none⟩) C];exact c
 have ad:b<A.heap.size:=by rw[h];simp;omega
 have ae:w.heap.size<A.heap.size:=by rw[h];simp
 have L:Kp _:=⟨H⟩
 replace r:=Z_ r;replace B:=Z_ B;replace O:=Z_ O;replace a:=Z_ a;replace z:=Z_ z;replace h:=Z_ h;replace t:=Z_ t;clear H M m c;unfold D6;go_in;go_wp2_with fail;rw[<-h.o];have K1:Kp (v.drew.ownsRow (b+1) 109 16 (S 3) q.ss.length (q.ss.flatMap BS)):=⟨Zo r.o a.o⟩
 have K2:Kp (∀j u,(BS x)[j]?=some u->v.drew.cell? ((⟨A.heap.size,0,none⟩:Addr).add j)=some u):=⟨λj u I=>by
  have:=O.o.c j u I;rcases Q0 j with h0|h0
  ·subst h0;simpa [Addr.add] using this
  ·have h1:¬j=0:=by omega
   simpa [Addr.add,h1] using this⟩
 have K3:Kp (∀u,u∈BS x->u.oneCell'=true):=⟨λu Y=>by
  unfold BS at Y;simp only[Uc,QV,or_false]at Y;rcases Y with rfl|rfl|rfl|rfl|rfl|rfl|rfl|rfl|rfl|rfl|rfl|rfl|rfl|rfl|rfl|rfl<;>rfl⟩
 have K4:Kp (b+1<=v.drew.heap.size):=⟨by rw[z.o];omega⟩
 have N:Kp (v.drew.cell? ⟨b,46,none⟩=some (S 3)∧v.drew.frozen? ⟨b,46,none⟩=false):=⟨by rw[a.o.cell (p:=⟨b,46,none⟩) C];exact L.o.c 3 (by omega),by rw[a.o.frozen (p:=⟨b,46,none⟩) C];exact L.o.f 46 (by omega)⟩
 go_region_law (rw[<-t.o];refine Zr rfl (.tmp 9) (.tmp 11) 55 rfl (b+1) 109 i0 _ 16 48 Tryz.underlying55 W Z aa ab rfl (by decide) (S 3) q.ss.length (q.ss.flatMap BS) (by simp[Act.eval]) K1.o ⟨A.heap.size,0,none⟩ (BS x) (by simp[Act.eval]) rfl K2.o K3.o (by unfold maxLen;omega) (by omega) K4.o ?_;intro v' J y d G;obtain⟨F,E,rfl⟩:=Zc y;have a1:J.cell? ⟨b,46,none⟩=some (S 3):=(by rw[World.cell?_of_block (w:=v.drew) (d.block b (by rw[z.o];omega) B.o)];exact N.o.1);have f1:J.frozen? ⟨b,46,none⟩=false:=(by rw[World.frozen?_of_block (w:=v.drew) (d.block b (by rw[z.o];omega) B.o)];exact N.o.2));all_goals
  have K:Zw (J.setCell ⟨b,46,none⟩ (.slice F (q.ss.length+1) E)) b s (Ax q x) (λj=>if j=3 then .slice F (q.ss.length+1) E else S j)∧Zq b b S (λj=>if j=3 then .slice F (q.ss.length+1) E else S j) w (J.setCell ⟨b,46,none⟩ (.slice F (q.ss.length+1) E)):=
   Zw.told (l:=3) L.o (by omega) a.o d (by
    have e1:ET (Ax q x) 3=q.ss.length+1:=by show (q.ss++[x]).length=_;rw[Qe];rfl
    have e2:EU (Ax q x) 3=q.ss.flatMap BS++BS x:=by show (q.ss++[x]).flatMap BS=_;rw[List.flatMap_append];simp
    rw[e1,e2];exact y) G rfl rfl rfl rfl rfl rfl (λj I D=>by
     match j,I with
     | 0,_=>rfl
     | 1,_=>rfl
     | 2,_=>rfl
     | 3,_=>exact absurd rfl D) (λj I D=>by
     match j,I with
     | 0,_=>rfl
     | 1,_=>rfl
     | 2,_=>rfl
     | 3,_=>exact absurd rfl D)
  have a2:(J.setCell ⟨b,46,none⟩ (.slice F (q.ss.length+1) E)).cell? ⟨b,46,none⟩=some (.slice F (q.ss.length+1) E):=Qk _ _ _ a1;replace K:=Z_ K;clear y d G a1 f1 K1 K2 K3 K4 N d0 d1 d2 d3 d4 d5 d6 d7 d8 d9 P Q R T U V ca r;generalize X:q.ss.length=n at *;replace X:=Z_ X;go_wp2;go_ret;exact⟨by rw[X.o];simp,_,K.o.1,K.o.2⟩
end Go.Proofs.YtcnbifdlkalimabGreat
