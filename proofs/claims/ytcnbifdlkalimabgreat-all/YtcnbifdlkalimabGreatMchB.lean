/- Lemmas; their conditions stand in each. -/
import Derived.Test.YtcnbifdlkalimabGreatLabA
import Derived.Test.YtcnbifdlkalimabGreatPlainR
import Derived.Deep.RegionLaw
import Derived.Test.YtcnbifdlkalimabGreatRfM
namespace Go.Proofs.YtcnbifdlkalimabGreat
open Go.RowKit Go.Proofs.Tryz
set_option linter.all false
set_option maxRecDepth 100000
variable{m:BC}{n:Int}{T:Int->ZB}{xs:List Value}{b g k p:Nat}{S:Nat->Value}{f:Nat->ZB}{x:Value}{w w1:World}{c t v:ZB}
structure Ix(w:World)(b:Nat)(lo:Int->List Int)(S:Nat->Value):Prop where
 c:∀j:Nat,j<6->w.cell? ⟨b,34+j,none⟩=some (S j)
 o:∀j:Nat,j<6->w.ownsRow (b+1) 5 1 (S j) (lo j).length ((lo j).map (Value.int .u8))
 d:∀i j:Nat,i<6->j<6->i≠j->(S i).ownBlock=none∨(S i).ownBlock≠(S j).ownBlock
structure ZF(w:World)(b:Nat)(n:Int)(t v c:ZB)(T:Int->ZB)(m:BC):Prop where
 lt:b<w.heap.size
 c0:w.cell? ⟨b,0,none⟩=some (.int .i64 n)
 c1:w.cell? ⟨b,1,none⟩=some (.string t)
 c2:w.cell? ⟨b,2,none⟩=some (.string v)
 c3:w.cell? ⟨b,3,none⟩=some (.string c)
 tp:∀j:Nat,j<6->w.cell? ⟨b,4+j,none⟩=some (.string (T j))
 pl:w.cell? ⟨b,10,none⟩=some (.int .i64 m.pl)
 st:∀j:Nat,j<8->w.cell? ⟨b,11+j,none⟩=some (.int .i64 (m.st j))
 sp:w.cell? ⟨b,19,none⟩=some (.int .i64 m.sp)
 va:∀j:Nat,j<8->w.cell? ⟨b,20+j,none⟩=some (.int .i64 (m.va j))
 po:∀j:Nat,j<6->w.cell? ⟨b,28+j,none⟩=some (.int .i64 (min (m.po j) (T j).size:Nat))
 lg:∃S,Ix w b m.lo S
 f:∀j:Nat,j<40->w.frozen? ⟨b,j,none⟩=false
theorem OP{w':World}{B:Nat}{e:TypeId}{v:Value}(h:w.ownsRow B e 1 v k xs)(o:Below w.heap.size w w'):w'.ownsRow B e 1 v k xs:=by
 refine⟨h.1,?_⟩;rcases h.2 with q|⟨g,i,j,rfl,l,a,d⟩
 ·exact .inl q
 ·exact .inr ⟨g,i,j,rfl,l,by rw[o.block g (Ug.1 a).1];exact a,d⟩
theorem O9{e:TypeId}{v:Value}{n:Nat}(h:w.ownsRow (b+1) e 1 v n xs):(w.setCell ⟨b,k,none⟩ x).ownsRow (b+1) e 1 v n xs:=by
 refine⟨h.1,?_⟩;rcases h.2 with o|⟨g,i,j,rfl,l,a,d⟩
 ·exact .inl o
 ·refine .inr ⟨g,i,j,rfl,l,?_,d⟩;have:=((AG.refl b w.heap.size w).setCell k x).block g (Ug.1 a).1 (by omega);rw[this];exact a
theorem Ix.step{i:Int->List Int}(H:Ix w b i S)(e:b<w.heap.size)(h:Below w.heap.size w w1):Ix w1 b i S:=
 ⟨λj a=>by rw[h.cell (p:=⟨b,34+j,none⟩) e];exact H.c j a,λj a=>OP (H.o j a) h,H.d⟩
theorem ZF.step(H:ZF w b n t v c T m)(e:Below w.heap.size w w1):ZF w1 b n t v c T m:=by have a:∀k:Nat,w1.cell? ⟨b,k,none⟩=w.cell? ⟨b,k,none⟩:=λk=>e.cell (p:=⟨b,k,none⟩) H.lt;obtain⟨S,h⟩:=H.lg;exact⟨Qq H.lt e.size,(a _).trans H.c0,(a _).trans H.c1,(a _).trans H.c2,(a _).trans H.c3,λj d=>(a _).trans (H.tp j d),(a _).trans H.pl,λj d=>(a _).trans (H.st j d),(a _).trans H.sp,λj d=>(a _).trans (H.va j d),λj d=>(a _).trans (H.po j d),⟨S,h.step H.lt e⟩,λj d=>by rw[e.frozen (p:=⟨b,j,none⟩) H.lt];exact H.f j d⟩
theorem Ix.set{e:Int->List Int}(H:Ix w b e S)(h:k<34):Ix (w.setCell ⟨b,k,none⟩ x) b e S:=
 ⟨λj a=>by rw[Z1 _ _ _ _ _ (by omega)];exact H.c j a,λj a=>O9 (H.o j a),H.d⟩
theorem ZF.setPl(H:ZF w b n t v c T m)(y:Int):ZF (w.setCell ⟨b,10,none⟩ (.int .i64 y)) b n t v c T {m with pl:=y}:=by obtain⟨S,e⟩:=H.lg;have a:∀k:Nat,k≠10->(w.setCell ⟨b,10,none⟩ (.int .i64 y)).cell? ⟨b,k,none⟩=w.cell? ⟨b,k,none⟩:=λk h=>Z1 _ _ _ _ _ (by omega);exact⟨by simpa using H.lt,(a _ (by omega)).trans H.c0,(a _ (by omega)).trans H.c1,(a _ (by omega)).trans H.c2,(a _ (by omega)).trans H.c3,λj d=>(a _ (by omega)).trans (H.tp j d),World.cell?_setCell_same _ _ _ H.pl,λj d=>(a _ (by omega)).trans (H.st j d),(a _ (by omega)).trans H.sp,λj d=>(a _ (by omega)).trans (H.va j d),λj d=>(a _ (by omega)).trans (H.po j d),⟨S,e.set (by omega)⟩,λj d=>by rw[World.frozen?_setCell];exact H.f j d⟩
theorem ZF.setSp(H:ZF w b n t v c T m)(y:Int):ZF (w.setCell ⟨b,19,none⟩ (.int .i64 y)) b n t v c T {m with sp:=y}:=by obtain⟨S,e⟩:=H.lg;have a:∀k:Nat,k≠19->(w.setCell ⟨b,19,none⟩ (.int .i64 y)).cell? ⟨b,k,none⟩=w.cell? ⟨b,k,none⟩:=λk h=>Z1 _ _ _ _ _ (by omega);exact⟨by simpa using H.lt,(a _ (by omega)).trans H.c0,(a _ (by omega)).trans H.c1,(a _ (by omega)).trans H.c2,(a _ (by omega)).trans H.c3,λj d=>(a _ (by omega)).trans (H.tp j d),(a _ (by omega)).trans H.pl,λj d=>(a _ (by omega)).trans (H.st j d),World.cell?_setCell_same _ _ _ H.sp,λj d=>(a _ (by omega)).trans (H.va j d),λj d=>(a _ (by omega)).trans (H.po j d),⟨S,e.set (by omega)⟩,λj d=>by rw[World.frozen?_setCell];exact H.f j d⟩
theorem ZF.setSt(H:ZF w b n t v c T m)(l:p<8)(y:Int):ZF (w.setCell ⟨b,11+p,none⟩ (.int .i64 y)) b n t v c T {m with st:=up m.st p y}:=by
 obtain⟨S,h⟩:=H.lg;have a:∀k:Nat,k≠11+p->(w.setCell ⟨b,11+p,none⟩ (.int .i64 y)).cell? ⟨b,k,none⟩=w.cell? ⟨b,k,none⟩:=λk i=>Z1 _ _ _ _ _ (by omega);refine⟨by simpa using H.lt,(a _ (by omega)).trans H.c0,(a _ (by omega)).trans H.c1,(a _ (by omega)).trans H.c2,(a _ (by omega)).trans H.c3,λj d=>(a _ (by omega)).trans (H.tp j d),(a _ (by omega)).trans H.pl,λj d=>?_,(a _ (by omega)).trans H.sp,λj d=>(a _ (by omega)).trans (H.va j d),λj d=>(a _ (by omega)).trans (H.po j d),⟨S,h.set (by omega)⟩,λj d=>by rw[World.frozen?_setCell];exact H.f j d⟩;by_cases e:j=p
 ·subst e;rw[Qk _ _ _ (H.st j d)];show _=some (Value.int .i64 (up m.st (j:Int) y j));rw[Fa]
 ·rw[a _ (by omega)];show _=some (Value.int .i64 (up m.st (p:Int) y j));rw[DI (by omega)];exact H.st j d
theorem ZF.setVa(H:ZF w b n t v c T m)(l:p<8)(y:Int):ZF (w.setCell ⟨b,20+p,none⟩ (.int .i64 y)) b n t v c T {m with va:=up m.va p y}:=by
 obtain⟨S,h⟩:=H.lg;have a:∀k:Nat,k≠20+p->(w.setCell ⟨b,20+p,none⟩ (.int .i64 y)).cell? ⟨b,k,none⟩=w.cell? ⟨b,k,none⟩:=λk i=>Z1 _ _ _ _ _ (by omega);refine⟨by simpa using H.lt,(a _ (by omega)).trans H.c0,(a _ (by omega)).trans H.c1,(a _ (by omega)).trans H.c2,(a _ (by omega)).trans H.c3,λj d=>(a _ (by omega)).trans (H.tp j d),(a _ (by omega)).trans H.pl,λj d=>(a _ (by omega)).trans (H.st j d),(a _ (by omega)).trans H.sp,λj d=>?_,λj d=>(a _ (by omega)).trans (H.po j d),⟨S,h.set (by omega)⟩,λj d=>by rw[World.frozen?_setCell];exact H.f j d⟩;by_cases e:j=p
 ·subst e;rw[Qk _ _ _ (H.va j d)];show _=some (Value.int .i64 (up m.va (j:Int) y j));rw[Fa]
 ·rw[a _ (by omega)];show _=some (Value.int .i64 (up m.va (p:Int) y j));rw[DI (by omega)];exact H.va j d
theorem ZF.setPo(H:ZF w b n t v c T m)(q:p<6)(y k:Nat)(l:min y (T p).size=k):ZF (w.setCell ⟨b,28+p,none⟩ (.int .i64 k)) b n t v c T {m with po:=up m.po p y}:=by
 obtain⟨S,h⟩:=H.lg;have a:∀i:Nat,i≠28+p->(w.setCell ⟨b,28+p,none⟩ (.int .i64 k)).cell? ⟨b,i,none⟩=w.cell? ⟨b,i,none⟩:=λk o=>Z1 _ _ _ _ _ (by omega);refine⟨by simpa using H.lt,(a _ (by omega)).trans H.c0,(a _ (by omega)).trans H.c1,(a _ (by omega)).trans H.c2,(a _ (by omega)).trans H.c3,λj d=>(a _ (by omega)).trans (H.tp j d),(a _ (by omega)).trans H.pl,λj d=>(a _ (by omega)).trans (H.st j d),(a _ (by omega)).trans H.sp,λj d=>(a _ (by omega)).trans (H.va j d),λj d=>?_,⟨S,h.set (by omega)⟩,λj d=>by rw[World.frozen?_setCell];exact H.f j d⟩;by_cases e:j=p
 ·subst e;rw[Qk _ _ _ (H.po j d)];show _=some (Value.int .i64 (min (up m.po (j:Int) y j) (T j).size:Nat));rw[Fa,l]
 ·rw[a _ (by omega)];show _=some (Value.int .i64 (min (up m.po (p:Int) y j) (T j).size:Nat));rw[DI (by omega)];exact H.po j d
theorem ZF.over(H:ZF w b n t v c T m)(h:(T p).size<=m.po p):ZF w b n t v c T {m with po:=up m.po p (m.po p+1)}:=by
 refine⟨H.lt,H.c0,H.c1,H.c2,H.c3,H.tp,H.pl,H.st,H.sp,H.va,λj d=>?_,H.lg,H.f⟩;rw[H.po j d];show _=some (Value.int .i64 (min (up m.po (p:Int) (m.po p+1) j) (T j).size:Nat));by_cases e:(j:Int)=p
 ·have a:j=p:=by omega
  subst a;rw[Fa];congr 3;omega
 ·rw[DI e]
set_option maxHeartbeats 6400000
theorem Li(b:Nat)(n:Int)(t v c:ZB)(T:Int->ZB)(m:BC)(x:Int)(w:World)(H:ZF w b n t v c T m)(q:0<=m.sp)(r:m.sp<8) :
  Calls prog 129 #[.pointer (some ⟨b,0,none⟩),.int .i64 x] w λe j=>e=.returned (.tuple #[])∧ZF j b n t v c T {m with sp:=m.sp+1,st:=up m.st m.sp x}∧Below b w j:=by
 obtain⟨p,h⟩:∃p:Nat,m.sp=p:=⟨m.sp.toNat,by omega⟩
 have a:p<8:=by omega
 have l:=H.sp;have y:=H.st p a;have A:=H.f 19 (by omega);have B:=H.f (11+p) (by omega);rw[h]at l;have d:=H.setSt a x;have z:(w.setCell ⟨b,11+p,none⟩ (.int .i64 x)).cell? ⟨b,19,none⟩=some (.int .i64 p):=by rw[<-h];exact d.sp
 have C:=d.f 19 (by omega);have i:=d.setSp (p+1);have s:Below b w ((w.setCell ⟨b,11+p,none⟩ (.int .i64 x)).setCell ⟨b,19,none⟩ (.int .i64 (p+1))):=((Qh b w).setCell (Qb _) _).setCell (Qb _) _;replace i:Kp (ZF ((w.setCell ⟨b,11+p,none⟩ (.int .i64 x)).setCell ⟨b,19,none⟩ (.int .i64 (p+1))) b n t v c T {m with sp:=m.sp+1,st:=up m.st m.sp x}):=⟨by rw[h];exact i⟩
 have u:(p:Int)<8:=by omega
 clear H d h q r;go_in;go_wp2_with fail;go_region;all_goals
  go_wp2;first|go_end0|refine Qi (Qp rfl _ _ _) rfl ?_
  exact⟨rfl,i.o.step (Qh _ _).drew,s.drew⟩
theorem Lx(b:Nat)(n:Int)(t v c:ZB)(T:Int->ZB)(m:BC)(w:World)(H:ZF w b n t v c T m)(z:1<=m.sp)(A:m.sp<=8) :
  Calls prog 133 #[.pointer (some ⟨b,0,none⟩)] w λe r=>e=.returned (.int .i64 (m.st (m.sp-1)))∧ZF r b n t v c T {m with sp:=m.sp-1}∧Below b w r:=by
 obtain⟨p,q⟩:∃p:Nat,m.sp=p+1:=⟨(m.sp-1).toNat,by omega⟩
 have d:p<8:=by omega
 have s:=H.sp;have E:=H.f 19 (by omega);rw[q]at s;have a:=H.setSp p;have i:=a.st p d;have j:=a.sp;have B:Below b w (w.setCell ⟨b,19,none⟩ (.int .i64 p)):=(Qh b w).setCell (Qb _) _;have l:m.sp-1=p:=by omega
 rw[l];obtain⟨x,h⟩:∃x,m.st p=x:=⟨_,rfl⟩
 have u:(w.setCell ⟨b,19,none⟩ (.int .i64 p)).cell? ⟨b,11+p,none⟩=some (.int .i64 x):=by rw[<-h];exact i
 have y:(w.setCell ⟨b,19,none⟩ (.int .i64 p)).cell? ⟨b,19,none⟩=some (.int .i64 p):=j;rw[h];replace a:=Z_ a;have D:(p:Int)<8:=by omega
 have C:(p:Int)+1-1=p:=by omega
 clear H q z A i j l h;go_in;go_wp2_with fail;go_region;all_goals
  go_wp2;go_ret;exact⟨rfl,a.o.step (Qh _ _).drew,B.drew⟩
theorem VY{P:Program}{B:Array Oper}{o:Oper}{a:Act}{w:World}{K:Act->World->Prop}{Q:Exit->Act->World->Prop}{E:Prop}
  (I:o.guard=none) (s x:Operand) (t:TypeId) (W:o.op=Op.call {callee:=Callee.builtin Builtin.append,args:=#[s,x],argTypes:=#[t,t]})
  (base:Nat) (e:TypeId) (i:TypeInfo) (z:Value) (d:Nat) (Z:P.underlying t=some (.slice e)) (V:P.info? e=some i) (hz:i.zero=some z)
  (q:i.size=1) (H:i.bytes=d) (J:z.cells.size=1)
  (v:Value) (n:Nat) (xs:List Value) (Y:a.eval s=v) (A:w.ownsRow base e 1 v n xs)
  (F:Addr) (u:Value) (hx:a.eval x=.slice (some F) 1 1) (hu:w.cell? (F.add 0)=some u) (M:u.oneCell'=true)
  (G:n+1<=maxLen) (h:(n+1)*d<=140737488355328) (l:base<=w.heap.size)
  (U:∀r C,C.ownsRow base e 1 r (n+1) (xs++[u])->w.grownBy C v.ownBlock->(r.ownBlock=v.ownBlock∨r.ownBlock=some w.heap.size)->K (a.put o.dst r) C) :
  if Region.wanted o (yielded B a.tmps)=true then Oper.wp P o a w K Q else E:=by
 have hw:Region.wanted o (yielded B a.tmps)=true:=by simp[Region.wanted,I]
 rw[if_pos hw];obtain⟨r,C,X,N,O,_,R⟩:=run_append_own_at (P:=P) w base t o.type e i z 1 d Z V hz q H J (by omega) v n xs A F 1 1 [u] rfl (λj y D=>by
  match j,D with
  | 0,D=>simp at D;subst D;exact hu) (λy L=>by simp at L;subst L;exact M) G h l
 unfold Oper.wp execOp;simp only[W,resolve,invoke,builtin,Ue,Sem.run_pure,Uo,List.map_toArray,List.map_cons,List.map_nil,Y,hx,X];exact U r C N O R
theorem ZF.told{F y:World}{l:Nat}{s:Value}{x:Int}(H:ZF w b n t v c T m)(u:Ix w b m.lo S)(K:l<6)(z:Below w.heap.size w F)(B:F.grownBy y (S l).ownBlock)
  (D:y.ownsRow (b+1) 5 1 s ((m.lo l).length+1) ((m.lo l).map (Value.int .u8)++[.int .u8 x])) (q:s.ownBlock=(S l).ownBlock∨s.ownBlock=some F.heap.size) :
  ZF (y.setCell ⟨b,34+l,none⟩ s) b n t v c T {m with lo:=up m.lo l (m.lo l++[x])}∧Below b w (y.setCell ⟨b,34+l,none⟩ s):=by
 have L:b<F.heap.size:=Qq H.lt z.size;have M:some b≠(S l).ownBlock:=λe=>by have:=(u.o l K).lt _ e.symm;omega
 have blk:y.heap[b]?=w.heap[b]?:=(B.block b L M).trans (z.block b H.lt);have C:∀k:Nat,y.cell? ⟨b,k,none⟩=w.cell? ⟨b,k,none⟩:=λk=>Qo (w:=w) (a:=⟨b,k,none⟩) blk;have h:∀k:Nat,k≠34+l->(y.setCell ⟨b,34+l,none⟩ s).cell? ⟨b,k,none⟩=w.cell? ⟨b,k,none⟩:=λk J=>(Z1 _ _ _ _ _ (by omega)).trans (C k)
 have I:Below b w y:=⟨B.os.trans z.os,B.tape.trans z.tape,B.output.trans z.output,Qg z.size B.size,λk J=>(B.block k (by omega) (λe=>by have:=(u.o l K).lt _ e.symm;omega)).trans (z.block k (by have:=H.lt;omega))⟩
 refine⟨⟨?_,(h _ (by omega)).trans H.c0,(h _ (by omega)).trans H.c1,(h _ (by omega)).trans H.c2,(h _ (by omega)).trans H.c3,λj r=>(h _ (by omega)).trans (H.tp j r),(h _ (by omega)).trans H.pl,λj r=>(h _ (by omega)).trans (H.st j r),(h _ (by omega)).trans H.sp,λj r=>(h _ (by omega)).trans (H.va j r),λj r=>(h _ (by omega)).trans (H.po j r),⟨λj=>if j=l then s else S j,?_,?_,?_⟩,λj r=>?_⟩,I.setCell (Qb _) _⟩
 ·have:=B.size;simp;omega
 ·intro j r;by_cases e:j=l
  ·subst e;rw[if_pos rfl];exact Qk _ _ _ ((C _).trans (u.c j r))
  ·rw[if_neg e,h _ (by omega)];exact u.c j r
 ·intro j r;by_cases e:j=l
  ·subst e;rw[if_pos rfl];show (y.setCell ⟨b,34+j,none⟩ s).ownsRow (b+1) 5 1 s (up m.lo (j:Int) (m.lo j++[x]) j).length ((up m.lo (j:Int) (m.lo j++[x]) j).map (Value.int .u8));rw[Fa,Qe,QK];exact O9 D
  ·rw[if_neg e];show (y.setCell ⟨b,34+l,none⟩ s).ownsRow (b+1) 5 1 (S j) (up m.lo (l:Int) (m.lo l++[x]) j).length ((up m.lo (l:Int) (m.lo l++[x]) j).map (Value.int .u8));rw[DI (by omega)];exact O9 ((OP (u.o j r) z).kept B (u.d j l r K e))
 ·intro i j G r A;have E:∀k:Nat,k<6->(S k).ownBlock≠some F.heap.size:=λk J e=>by have:=(u.o k J).lt _ e;have:=z.size;omega
  show (if i=l then s else S i).ownBlock=none∨(if i=l then s else S i).ownBlock≠(if j=l then s else S j).ownBlock;by_cases e:i=l
  ·subst e;rw[if_pos rfl,if_neg (λk=>A k.symm)];rcases q with q|q
   ·rw[q];exact u.d i j G r A
   ·rw[q];exact .inr (λk=>E j r k.symm)
  ·rw[if_neg e];by_cases N:j=l
   ·subst N;rw[if_pos rfl];rcases q with q|q
    ·rw[q];exact u.d i j G r A
    ·rw[q];exact .inr (E i G)
   ·rw[if_neg N];exact u.d i j G r A
 ·rw[Qu,Qz (w:=w) (a:=⟨b,j,none⟩) blk];exact H.f j r
theorem YF(b:Nat)(n:Int)(t v c:ZB)(T:Int->ZB)(m:BC)(a:Nat)(w:World)(H:ZF w b n t v c T m)(q:a<8)(l:0<=m.sp)(o:m.sp<8) :
  Calls prog 130 #[.pointer (some ⟨b,0,none⟩),.int .i64 a] w λe i=>e=.returned (.tuple #[])∧ZF i b n t v c T {m with sp:=m.sp+1,st:=up m.st m.sp (m.va a)}∧Below b w i:=by
 have s:=H.va a q;have r:(a:Int)<8:=by omega
 generalize h:m.va a=x at *;replace h:=Z_ h;go_in;go_wp2_with fail;refine(Li b n t v c T m x w H l o).mono ?_;rintro e w1 ⟨rfl,j,d⟩;go_wp2_with fail;first|go_end0|refine Qi (Qp rfl _ _ _) rfl ?_
 exact⟨rfl,j,d⟩
theorem Xy(b:Nat)(n:Int)(t v c:ZB)(T:Int->ZB)(m:BC)(a:Nat)(w:World)(H:ZF w b n t v c T m)(l:a<8)(r:1<=m.sp)(s:m.sp<=8) :
  Calls prog 131 #[.pointer (some ⟨b,0,none⟩),.int .i64 a] w λe q=>e=.returned (.tuple #[])∧ZF q b n t v c T {m with sp:=m.sp-1,va:=up m.va a (m.st (m.sp-1))}∧Below b w q:=by
 have u:(a:Int)<8:=by omega
 go_in;go_wp2_with fail;refine(Lx b n t v c T m w H r s).mono ?_;rintro e w1 ⟨rfl,h,d⟩;have y:=h.va a l;have z:=h.f (20+a) (by omega);have i:=h.setVa l (m.st (m.sp-1));have j:=d.setCell (p:=⟨b,20+a,none⟩) (Qb _) (.int .i64 (m.st (m.sp-1)));replace i:=Z_ i;replace j:=Z_ j;clear H h d;go_wp2_with fail;first|go_end0|refine Qi (Qp rfl _ _ _) rfl ?_
 exact⟨rfl,i.o,j.o⟩
theorem YG(b:Nat)(n:Int)(t v c:ZB)(T:Int->ZB)(m:BC)(l:Nat)(w:World)(H:ZF w b n t v c T m)(A:l<6)(G:(T l).size<=maxLen)(E:0<=m.sp)(F:m.sp<8) :
  Calls prog 134 #[.pointer (some ⟨b,0,none⟩),.int .i64 l] w λe J=>e=.returned (.tuple #[])∧ZF J b n t v c T {m with sp:=m.sp+1,st:=up m.st m.sp (bv (T l) (m.po l)),po:=up m.po l (m.po l+1)}∧Below b w J:=by
 have Q:=H.tp l A;have y:=H.po l A;have R:=H.f (28+l) (by omega);have L:(l:Int)<6:=by omega
 have M:(T l).size<=9223372036854775807:=by unfold maxLen at G;omega
 by_cases B:(T l).size<=m.po l
 ·have a:=H.over B;have i:bv (T l) (m.po l)=0:=TL (by omega);rw[i];rw[show min (m.po l) (T l).size=(T l).size from by omega]at y;generalize I:T l=d at *;replace I:=Z_ I;clear H i B;go_in;go_wp2_with fail;refine(Li b n t v c T _ 0 w a E F).mono ?_;rintro e w1 ⟨rfl,u,h⟩;go_wp2_with fail;first|go_end0|refine Qi (Qp rfl _ _ _) rfl ?_
  exact⟨rfl,u,h⟩
 ·have j:m.po l<(T l).size:=by omega
  have a:=H.setPo A (m.po l+1) (m.po l+1) (by omega);have i:=ZJ (T l) (m.po l) j;rw[show min (m.po l) (T l).size=m.po l from by omega]at y;have q:Kp (Below b w (w.setCell ⟨b,28+l,none⟩ (.int .i64 ((m.po l+1:Nat):Int)))):=⟨(Qh b w).setCell (Qb _) _⟩
  obtain⟨O,P⟩:=Zx (T l) (m.po l);obtain⟨x,s⟩:∃x,bv (T l) (m.po l)=x:=⟨_,rfl⟩
  rw[s]at O P;rw[s]at i ⊢;obtain⟨k,r⟩:∃k,m.po l=k:=⟨_,rfl⟩
  rw[r]at a y j q ⊢;have N:(((T l)[k].toNat:Nat):Int)=x:=by rw[<-i];congr 2;simp[r]
  clear i;replace s:=Z_ s;replace r:=Z_ r;have z:((k+1:Nat):Int)=(k:Int)+1:=by omega
  rw[z]at a q;generalize T l=d at *;obtain⟨D,C⟩:∃D,w.setCell ⟨b,28+l,none⟩ (.int .i64 ((k:Int)+1))=D:=⟨_,rfl⟩
  rw[C]at a q;replace a:=Z_ a;have K:(k:Int)<(d.size:Int):=by omega
  clear H B G;go_in;go_wp2_with fail;refine(Li b n t v c T _ x D a.o E F).mono ?_;rintro e w1 ⟨rfl,u,h⟩;go_wp2_with fail;first|go_end0|refine Qi (Qp rfl _ _ _) rfl ?_
  exact⟨rfl,u,q.o.trans h⟩
def Mc(q:Bool):Int:=if q then 1 else 0
theorem RY(q:Bool)(w:World):Calls prog 223 #[.bool q] w λe a=>e=.returned (.int .i64 (Mc q))∧a=w:=by
 cases q
 ·go_in;go_wp2;go_ret;exact⟨rfl,rfl⟩
 ·go_in;go_wp2;go_ret;exact⟨rfl,rfl⟩
theorem UW{a b:Int}(e:0<=a∧a<=255)(d:0<=b∧b<=255):0<=a*b∧a*b<=65025:=by refine⟨QY e.1 d.1,?_⟩;have h:=QZ e.2 d.1;have i:=Int.mul_le_mul_of_nonneg_left d.2 (show (0:Int)<=255 by omega);omega
theorem WF(op x y:Int)(w:World)(j:3<=op∧op<=7)(d:0<=x∧x<=255)(h:0<=y∧y<=255) :
  Calls prog 190 #[.int .i64 op,.int .i64 x,.int .i64 y] w λe l=>e=.returned (.int .i64 (AE op x y))∧l=w:=by
 obtain⟨r,s⟩:=j;have i:=UW d h;obtain⟨u,z⟩:=d;obtain⟨A,B⟩:=h;obtain⟨o,q⟩:=i;have a:op=3∨op=4∨op=5∨op=6∨op=7:=by omega
 rcases a with rfl|rfl|rfl|rfl|rfl
 ·have e:AE 3 x y=(x+y)%256:=by unfold AE;simp
  rw[e];go_in;go_wp2;go_ret;exact⟨ZG (by omega),rfl⟩
 ·have e:AE 4 x y=(x+256-y)%256:=by unfold AE;simp
  rw[e];go_in;go_wp2;go_ret;exact⟨ZG (by omega),rfl⟩
 ·have e:AE 5 x y=x*y%256:=by unfold AE;simp
  rw[e];go_in;go_wp2;go_ret;exact⟨ZG (by omega),rfl⟩
 ·have e:AE 6 x y=Mc (decide (x<y)):=by unfold AE Mc;simp
  rw[e];go_in;go_wp2_with fail;refine(RY _ _).mono ?_;rintro e w1 ⟨rfl,rfl⟩;go_wp2;go_ret;exact⟨rfl,rfl⟩
 ·have e:AE 7 x y=Mc (x==y):=by unfold AE Mc;simp
  rw[e];go_in;go_wp2_with fail;refine(RY _ _).mono ?_;rintro e w1 ⟨rfl,rfl⟩;go_wp2;go_ret;exact⟨rfl,rfl⟩
theorem RZ:(prog.info? 5).map (λi=>(i.zero,i.size,i.bytes))=some (some (.int .u8 0),1,1):=by kernel_rfl
theorem Zpa{B:Nat}{e:TypeId}{v:Value}(h:w.ownsRow B e 1 v (k+1) xs):∃g a,v=.slice (some ⟨g,0,none⟩) (k+1) a:=by
 rcases h.2 with ⟨_,i⟩|⟨g,a,d,rfl,_⟩
 ·omega
 ·exact⟨g,a,rfl⟩
theorem NW{x:Int}(a:0<=x)(d:x<=255):IntKind.u8.wrap x=x:=by unfold IntKind.wrap;simp[IntKind.signed,IntKind.bits];omega
theorem Xz(b:Nat)(n:Int)(t v c:ZB)(T:Int->ZB)(m:BC)(l:Nat)(w:World)(H:ZF w b n t v c T m)(y:l<6)(O:1<=m.sp)(P:m.sp<=8)(I:0<=m.st (m.sp-1)∧m.st (m.sp-1)<=255)(G:(m.lo l).length<=20000) :
  Calls prog 135 #[.pointer (some ⟨b,0,none⟩),.int .i64 l] w λe J=>e=.returned (.tuple #[])∧ZF J b n t v c T {m with sp:=m.sp-1,lo:=up m.lo l (m.lo l++[m.st (m.sp-1)])}∧Below b w J:=by
 have Q:(l:Int)<6:=by omega
 obtain⟨x,j⟩:∃x,m.st (m.sp-1)=x:=⟨_,rfl⟩
 rw[j]at I;obtain⟨V,W⟩:=I;obtain⟨U,B,C,D,E⟩:=info_parts RZ;have R:IntKind.u8.wrap x=x:=NW V W;go_in;go_wp2_with fail;refine(Lx b n t v c T m w H O P).mono ?_;rintro e w1 ⟨rfl,q,A⟩;rw[j];obtain⟨S,r⟩:=q.lg;have L:=r.c l y;have N:=q.f (34+l) (by omega);have s:=q.lt;have u:Kp (w1.ownsRow (b+1) 5 1 (S l) (m.lo l).length ((m.lo l).map (Value.int .u8))):=⟨r.o l y⟩
 have h:some b≠(S l).ownBlock:=λe=>by have:=(r.o l y).lt _ e.symm;omega
 replace h:=Z_ h;have d:Below w1.heap.size w1 (w1.alloc (.cells #[.int .u8 x] 5)).drew:=((Qh _ _).alloc (Qb _) _).drew;replace q:=Z_ q;replace r:=Z_ r;clear H;go_wp2_with fail;go_region_law (refine VY rfl (.tmp 20) (.tmp 23) 56 rfl (b+1) 5 U (.int .u8 0) 1 Tryz.underlying56 B C D E rfl (S l) (m.lo l).length ((m.lo l).map (Value.int .u8)) (by simp[Act.eval]) (OP u.o d) ⟨w1.heap.size,0,none⟩ (.int .u8 x) (by simp[Act.eval]) (by simp[Addr.add]) rfl (by unfold maxLen;omega) (by omega) (by simp;omega) ?_;intro Z K i a z;obtain⟨g,M,rfl⟩:=Zpa i;have X:K.cell? ⟨b,34+l,none⟩=some (S l):=(by rw[World.cell?_of_block (w:=(w1.alloc (.cells #[.int .u8 x] 5)).drew) (a.block b (by simp;omega) h.o)];exact(d.cell (p:=⟨b,34+l,none⟩) s).trans L);have Y:K.frozen? ⟨b,34+l,none⟩=false:=(by rw[World.frozen?_of_block (w:=(w1.alloc (.cells #[.int .u8 x] 5)).drew) (a.block b (by simp;omega) h.o)];exact(d.frozen (p:=⟨b,34+l,none⟩) s).trans N));all_goals
  go_wp2;first|go_end0|refine Qi (Qp rfl _ _ _) rfl ?_
  have F:=ZF.told (x:=x) q.o r.o y d a i z;rw[j];exact⟨rfl,F.1,A.trans F.2⟩
theorem KP(b:Nat)(n:Int)(t v c:ZB)(T:Int->ZB)(m:BC)(op:Int)(w:World)(H:ZF w b n t v c T m)(C:3<=op∧op<=7)(I:2<=m.sp)(B:m.sp<=8)(V:DR m) :
  Calls prog 132 #[.pointer (some ⟨b,0,none⟩),.int .i64 op] w λe u=>e=.returned (.tuple #[])∧ZF u b n t v c T {m with sp:=m.sp-1,st:=up m.st (m.sp-2) (AE op (m.st (m.sp-2)) (m.st (m.sp-1)))}∧Below b w u:=by
 go_in;go_wp2_with fail;refine(Lx b n t v c T m w H (by omega) B).mono ?_;rintro e w1 ⟨rfl,A,h⟩;go_wp2_with fail;refine(Lx b n t v c T _ w1 A (by show 1<=m.sp-1;omega) (by show m.sp-1<=8;omega)).mono ?_;rintro e F ⟨rfl,a,i⟩;have s:m.sp-1-1=m.sp-2:=by omega
 dsimp only at a;rw[s]at a;dsimp only;rw[s];have D:=V.st (m.sp-1);have E:=V.st (m.sp-2);generalize l:m.st (m.sp-2)=x at *;generalize q:m.st (m.sp-1)=y at *;replace l:=Z_ l;replace q:=Z_ q;go_wp2_with fail;refine(WF op x y F C E D).mono ?_;rintro e G ⟨rfl,rfl⟩;generalize r:AE op x y=z at *;replace r:=Z_ r;go_wp2_with fail;refine(Li b n t v c T _ z G a (by show 0<=m.sp-2;omega) (by show m.sp-2<8;omega)).mono ?_;rintro e J ⟨rfl,d,j⟩;dsimp only at d;rw[show m.sp-2+1=m.sp-1 from by omega]at d;go_wp2_with fail;first|go_end0|refine Qi (Qp rfl _ _ _) rfl ?_
 rw[l.o,q.o,r.o];exact⟨rfl,d,(h.trans i).trans j⟩
structure Kv(c v:ZB)(n:Int)(T:Int->ZB):Prop where
 hc:c.size<=maxLen
 hK:half c<=200
 hv:v.size<=8
 hn:n<=6
 ht:∀l:Nat,l<6->(T l).size<=maxLen
theorem VD{T:Int->ZB}{h:Nat->Int}(P:Bu c v t n h)(S:Cw c h m)(i:m.pl<half c):0<=m.sp∧m.sp<=8∧Ab c m.pl<=m.sp∧m.sp-Ab c m.pl+As c m.pl<=8:=by
 have e:((m.pl.toNat:Nat):Int)=m.pl:=Qj S.r0;have a:=P.ht.rng m.pl.toNat (by rw[e];exact S.r1) (by rw[e];exact S.live)
 have b:=P.ht.pops m.pl.toNat (by rw[e];exact i) (by rw[e];exact S.live)
 rw[<-S.sp]at a b;rw[e]at b;have j:=(Mv (T:=T) P S i).1;have l:(((Zz c T m).pl.toNat:Nat):Int)=(Zz c T m).pl:=Qj j.r0;have d:=P.ht.rng (Zz c T m).pl.toNat (by rw[l];exact j.r1) (by rw[l];exact j.live)
 rw[<-j.sp,Pp (P.ops m.pl S.r0 i)]at d;omega
theorem Fq{d:World}{M:BC}{a:Int}(h:ZF d b n t v c T M)(e:Zz c T m={M with pl:=a}):ZF (d.setCell ⟨b,10,none⟩ (.int .i64 a)) b n t v c T (Zz c T m):=by rw[e];exact h.setPl a
theorem YH(b:Nat)(n:Int)(t v c:ZB)(T:Int->ZB)(h:Nat->Int)(m:BC)(w:World)(H:ZF w b n t v c T m)(F:Kv c v n T)(P:Kp (Bu c v t n h))(S:Kp (Cw c h m))(V:Kp (DR m))(R:m.pl<half c)(am:Kp (∀l,(m.lo l).length<=20000)) :
  Calls prog 69 #[.pointer (some ⟨b,0,none⟩)] w λe Q=>e=.returned (.tuple #[])∧ZF Q b n t v c T (Zz c T m)∧Below b w Q:=by
 have hc:=F.hc;have hK:=F.hK;have ar:=F.hv;have aq:=F.hn;have U:=S.o.r0;have an:=VD (T:=T) P.o S.o R;have Z:=P.o.ops m.pl U R;obtain⟨x0,x9⟩:=Zx c (2*m.pl);obtain⟨y0,y9⟩:=Zx c (2*m.pl+1);obtain⟨a,B⟩:∃a:Nat,bv c (2*m.pl+1)=a:=⟨(bv c (2*m.pl+1)).toNat,by omega⟩
 obtain⟨x,r⟩:∃x,bv c (2*m.pl)=x:=⟨_,rfl⟩
 obtain⟨A,aa⟩:∃A,nx1 c m.pl=A:=⟨_,rfl⟩
 obtain⟨e2,ab⟩:∃e2,nx2 c m.pl=e2:=⟨_,rfl⟩
 have ao:Ab c m.pl=Aj x:=by unfold Ab;rw[r]
 have ak:As c m.pl=Ar x:=by unfold As;rw[r]
 rw[ao,ak]at an;have L:x=1∨x=2->a<8:=λk=>by have:=(P.o.vr m.pl U R (by rw[r];exact k)).1;omega
 have K:x=10∨x=11->a<6:=λk=>by have:=P.o.lv m.pl U R (by rw[r];exact k);unfold Lv at this;omega
 have i:A=if x=8 then (a:Int) else m.pl+1:=by rw[<-aa];unfold nx1;rw[if_neg (by omega),r,B]
 have s:e2=if x=8∨x=9 then (a:Int) else m.pl+1:=by rw[<-ab];unfold nx2;rw[if_neg (by omega),r,B]
 have hI:=λw1=>HX n m.pl t v c w1 hc U R;have hJ:=λw1=>II n m.pl t v c w1 hc hK U (by omega)
 rw[r,B]at hI;rw[aa,ab]at hJ;rw[r]at Z x0 x9;have c0:=H.c0;have c1:=H.c1;have c2:=H.c2;have c3:=H.c3;have ag:=H.pl;have al:=H.lt;obtain⟨pl,X⟩:∃pl,m.pl=pl:=⟨_,rfl⟩
 rw[X]at hI hJ ag;replace X:=Z_ X;replace hI:=Z_ hI;replace hJ:=Z_ hJ;have ae:Kp ((Aj x<=m.sp∧0<=m.sp∧m.sp<=8∧m.sp-Aj x+Ar x<=8)∧(x=1∨x=2->a<8)∧(x=10∨x=11->a<6)∧(A=if x=8 then (a:Int) else m.pl+1)∧(e2=if x=8∨x=9 then (a:Int) else m.pl+1)∧bv c (2*m.pl)=x∧bv c (2*m.pl+1)=a∧0<=x∧x<=11):=⟨⟨by omega,by omega,by omega,by omega⟩,L,K,i,s,r,B,x0,Z⟩
 clear i s ao ak y0 y9 x0 x9 Z L K r B an aa ab hc hK ar aq U R;replace F:=Z_ F;have H':Kp _:=⟨H⟩
 clear H;go_in;go_wp2_with fail;go_region_held3 (λQ=>Q.cell? ⟨b,0,none⟩=some (.int .i64 n)∧Q.cell? ⟨b,1,none⟩=some (.string t)∧Q.cell? ⟨b,2,none⟩=some (.string v)∧Q.cell? ⟨b,3,none⟩=some (.string c)∧Q.cell? ⟨b,10,none⟩=some (.int .i64 pl)) (go_keep) ((go_at_call 114;refine(hI.o _).mono ?_;rintro e w1 ⟨rfl,ai⟩;have N:Below w.heap.size w w1:=(Qh _ _).drew.trans ai;have H1:=H'.o.step N;have a0:=H1.c0;have a1:=H1.c1;have a2:=H1.c2;have a3:=H1.c3;have af:=H1.pl;rw[X.o]at af));all_goals
  clear c0 c1 c2 c3 ag hI ai;go_wp2_with fail;go_region_held3 (λQ=>Q.cell? ⟨b,0,none⟩=some (.int .i64 n)∧Q.cell? ⟨b,1,none⟩=some (.string t)∧Q.cell? ⟨b,2,none⟩=some (.string v)∧Q.cell? ⟨b,3,none⟩=some (.string c)∧Q.cell? ⟨b,10,none⟩=some (.int .i64 pl)) (go_keep) ((go_at_call 128;refine(hJ.o _).mono ?_;rintro e M ⟨rfl,aj⟩;have W:Below w1.heap.size w1 M:=(Qh _ _).drew.trans aj;have y:=H1.step W;have d0:=y.c0;have d1:=y.c1;have d2:=y.c2;have d3:=y.c3;have ah:=y.pl;rw[X.o]at ah));all_goals
   clear a0 a1 a2 a3 af d0 d1 d2 d3 ah hJ aj;have C:Below b w M:=(N.mono (Uf al)).trans (W.mono (Qg (Uf al) N.size));clear N W H1 H';obtain⟨⟨O,s2,s3,Y⟩,L,K,i,s,r,B,x0,Z⟩:=ae.o;have ap:x=0∨x=1∨x=2∨x=3∨x=4∨x=5∨x=6∨x=7∨x=8∨x=9∨x=10∨x=11:=by omega
   replace L:=Z_ L;replace K:=Z_ K;rcases ap with rfl|rfl|rfl|rfl|rfl|rfl|rfl|rfl|rfl|rfl|rfl|rfl
   ·rw[if_neg (by omega)]at i;replace i:=Z_ i;replace s:=Z_ s;have I:=Y;simp[Aj,Ar]at I O;go_wp2_with fail;refine(Li b n t v c T m (a:Int) M y s2 (by omega)).mono ?_;rintro e u ⟨rfl,j,d⟩;have G:=j.pl;have E:=j.f 10 (by omega);have q:Kp (Below b w (u.setCell ⟨b,10,none⟩ (.int .i64 A))):=⟨(C.trans d).setCell (Qb _) _⟩
    have D:Kp (ZF (u.setCell ⟨b,10,none⟩ (.int .i64 A)) b n t v c T (Zz c T m)):=⟨Fq j (by rw[Jj r,B];rw[i.o])⟩
    clear C d j y i s r B;go_wp2_with fail;first|go_end0|refine Qi (Qp rfl _ _ _) rfl ?_
    exact⟨rfl,D.o,q.o⟩
   ·rw[if_neg (by omega)]at i;have J:a<8:=L.o (.inl rfl);replace i:=Z_ i;replace s:=Z_ s;have I:=Y;simp[Aj,Ar]at I O;go_wp2_with fail;refine(YF b n t v c T m a M y J s2 (by omega)).mono ?_;rintro e u ⟨rfl,j,d⟩;have G:=j.pl;have E:=j.f 10 (by omega);have q:Kp (Below b w (u.setCell ⟨b,10,none⟩ (.int .i64 A))):=⟨(C.trans d).setCell (Qb _) _⟩
    have D:Kp (ZF (u.setCell ⟨b,10,none⟩ (.int .i64 A)) b n t v c T (Zz c T m)):=⟨Fq j (by rw[Jk r,B];rw[i.o])⟩
    clear C d j y i s r B;go_wp2_with fail;first|go_end0|refine Qi (Qp rfl _ _ _) rfl ?_
    exact⟨rfl,D.o,q.o⟩
   ·rw[if_neg (by omega)]at i;have J:a<8:=L.o (.inr rfl);replace i:=Z_ i;replace s:=Z_ s;have I:=Y;simp[Aj,Ar]at I O;go_wp2_with fail;refine(Xy b n t v c T m a M y J O s3).mono ?_;rintro e u ⟨rfl,j,d⟩;have G:=j.pl;have E:=j.f 10 (by omega);have q:Kp (Below b w (u.setCell ⟨b,10,none⟩ (.int .i64 A))):=⟨(C.trans d).setCell (Qb _) _⟩
    have D:Kp (ZF (u.setCell ⟨b,10,none⟩ (.int .i64 A)) b n t v c T (Zz c T m)):=⟨Fq j (by rw[Jl r,B];rw[i.o])⟩
    clear C d j y i s r B;go_wp2_with fail;first|go_end0|refine Qi (Qp rfl _ _ _) rfl ?_
    exact⟨rfl,D.o,q.o⟩
   ·rw[if_neg (by omega)]at i;replace i:=Z_ i;replace s:=Z_ s;have I:=Y;simp[Aj,Ar]at I O;go_wp2_with fail;refine(KP b n t v c T m 3 M y (by omega) (by omega) s3 V.o).mono ?_;rintro e u ⟨rfl,j,d⟩;have G:=j.pl;have E:=j.f 10 (by omega);have q:Kp (Below b w (u.setCell ⟨b,10,none⟩ (.int .i64 A))):=⟨(C.trans d).setCell (Qb _) _⟩
    have D:Kp (ZF (u.setCell ⟨b,10,none⟩ (.int .i64 A)) b n t v c T (Zz c T m)):=⟨Fq j (by rw[Gg (by rw[r];omega),r];rw[i.o])⟩
    clear C d j y i s r B;go_wp2_with fail;first|go_end0|refine Qi (Qp rfl _ _ _) rfl ?_
    exact⟨rfl,D.o,q.o⟩
   ·rw[if_neg (by omega)]at i;replace i:=Z_ i;replace s:=Z_ s;have I:=Y;simp[Aj,Ar]at I O;go_wp2_with fail;refine(KP b n t v c T m 4 M y (by omega) (by omega) s3 V.o).mono ?_;rintro e u ⟨rfl,j,d⟩;have G:=j.pl;have E:=j.f 10 (by omega);have q:Kp (Below b w (u.setCell ⟨b,10,none⟩ (.int .i64 A))):=⟨(C.trans d).setCell (Qb _) _⟩
    have D:Kp (ZF (u.setCell ⟨b,10,none⟩ (.int .i64 A)) b n t v c T (Zz c T m)):=⟨Fq j (by rw[Gg (by rw[r];omega),r];rw[i.o])⟩
    clear C d j y i s r B;go_wp2_with fail;first|go_end0|refine Qi (Qp rfl _ _ _) rfl ?_
    exact⟨rfl,D.o,q.o⟩
   ·rw[if_neg (by omega)]at i;replace i:=Z_ i;replace s:=Z_ s;have I:=Y;simp[Aj,Ar]at I O;go_wp2_with fail;refine(KP b n t v c T m 5 M y (by omega) (by omega) s3 V.o).mono ?_;rintro e u ⟨rfl,j,d⟩;have G:=j.pl;have E:=j.f 10 (by omega);have q:Kp (Below b w (u.setCell ⟨b,10,none⟩ (.int .i64 A))):=⟨(C.trans d).setCell (Qb _) _⟩
    have D:Kp (ZF (u.setCell ⟨b,10,none⟩ (.int .i64 A)) b n t v c T (Zz c T m)):=⟨Fq j (by rw[Gg (by rw[r];omega),r];rw[i.o])⟩
    clear C d j y i s r B;go_wp2_with fail;first|go_end0|refine Qi (Qp rfl _ _ _) rfl ?_
    exact⟨rfl,D.o,q.o⟩
   ·rw[if_neg (by omega)]at i;replace i:=Z_ i;replace s:=Z_ s;have I:=Y;simp[Aj,Ar]at I O;go_wp2_with fail;refine(KP b n t v c T m 6 M y (by omega) (by omega) s3 V.o).mono ?_;rintro e u ⟨rfl,j,d⟩;have G:=j.pl;have E:=j.f 10 (by omega);have q:Kp (Below b w (u.setCell ⟨b,10,none⟩ (.int .i64 A))):=⟨(C.trans d).setCell (Qb _) _⟩
    have D:Kp (ZF (u.setCell ⟨b,10,none⟩ (.int .i64 A)) b n t v c T (Zz c T m)):=⟨Fq j (by rw[Gg (by rw[r];omega),r];rw[i.o])⟩
    clear C d j y i s r B;go_wp2_with fail;first|go_end0|refine Qi (Qp rfl _ _ _) rfl ?_
    exact⟨rfl,D.o,q.o⟩
   ·rw[if_neg (by omega)]at i;replace i:=Z_ i;replace s:=Z_ s;have I:=Y;simp[Aj,Ar]at I O;go_wp2_with fail;refine(KP b n t v c T m 7 M y (by omega) (by omega) s3 V.o).mono ?_;rintro e u ⟨rfl,j,d⟩;have G:=j.pl;have E:=j.f 10 (by omega);have q:Kp (Below b w (u.setCell ⟨b,10,none⟩ (.int .i64 A))):=⟨(C.trans d).setCell (Qb _) _⟩
    have D:Kp (ZF (u.setCell ⟨b,10,none⟩ (.int .i64 A)) b n t v c T (Zz c T m)):=⟨Fq j (by rw[Gg (by rw[r];omega),r];rw[i.o])⟩
    clear C d j y i s r B;go_wp2_with fail;first|go_end0|refine Qi (Qp rfl _ _ _) rfl ?_
    exact⟨rfl,D.o,q.o⟩
   ·rw[if_pos rfl]at i;replace i:=Z_ i;replace s:=Z_ s;have G:=y.pl;have E:=y.f 10 (by omega);have q:Kp (Below b w (M.setCell ⟨b,10,none⟩ (.int .i64 A))):=⟨C.setCell (Qb _) _⟩
    have D:Kp (ZF (M.setCell ⟨b,10,none⟩ (.int .i64 A)) b n t v c T (Zz c T m)):=⟨Fq y (by rw[Jm r,B];rw[i.o])⟩
    clear C y i s r B;go_wp2_with fail;first|go_end0|refine Qi (Qp rfl _ _ _) rfl ?_
    exact⟨rfl,D.o,q.o⟩
   ·rw[if_neg (by omega)]at i;rw[if_pos (by omega)]at s;replace i:=Z_ i;replace s:=Z_ s;simp[Aj]at O;obtain⟨z,hz⟩:∃z,m.st (m.sp-1)=z:=⟨_,rfl⟩
    have hP:=Lx b n t v c T m M y O s3;rw[hz]at hP;by_cases ad:z=0
    ·subst ad;replace hP:=Z_ hP;go_wp2_with fail;refine hP.o.mono ?_;rintro e u ⟨rfl,j,d⟩;have G:=j.pl;have E:=j.f 10 (by omega);have q:Kp (Below b w (u.setCell ⟨b,10,none⟩ (.int .i64 e2))):=⟨(C.trans d).setCell (Qb _) _⟩
     have D:Kp (ZF (u.setCell ⟨b,10,none⟩ (.int .i64 e2)) b n t v c T (Zz c T m)):=⟨Fq j (by rw[HE r,B,if_pos hz];rw[s.o])⟩
     clear C d j y i s r B hP;go_wp2_with fail;first|go_end0|refine Qi (Qp rfl _ _ _) rfl ?_
     exact⟨rfl,D.o,q.o⟩
    ·replace hP:=Z_ hP;have au:(z==0)=false:=Qf.2 ad;go_wp2_with fail;refine hP.o.mono ?_;rintro e u ⟨rfl,j,d⟩;have G:=j.pl;have E:=j.f 10 (by omega);have q:Kp (Below b w (u.setCell ⟨b,10,none⟩ (.int .i64 A))):=⟨(C.trans d).setCell (Qb _) _⟩
     have D:Kp (ZF (u.setCell ⟨b,10,none⟩ (.int .i64 A)) b n t v c T (Zz c T m)):=⟨Fq j (by rw[HE r,B,if_neg (by rw[hz];exact ad)];rw[i.o])⟩
     clear C d j y i s r B hP;go_wp2_with fail;first|go_end0|refine Qi (Qp rfl _ _ _) rfl ?_
     exact⟨rfl,D.o,q.o⟩
   ·rw[if_neg (by omega)]at i;have J:a<6:=K.o (.inl rfl);replace i:=Z_ i;replace s:=Z_ s;have I:=Y;simp[Aj,Ar]at I O;go_wp2_with fail;refine(YG b n t v c T m a M y J (F.o.ht a J) s2 (by omega)).mono ?_;rintro e u ⟨rfl,j,d⟩;have G:=j.pl;have E:=j.f 10 (by omega);have q:Kp (Below b w (u.setCell ⟨b,10,none⟩ (.int .i64 A))):=⟨(C.trans d).setCell (Qb _) _⟩
    have D:Kp (ZF (u.setCell ⟨b,10,none⟩ (.int .i64 A)) b n t v c T (Zz c T m)):=⟨Fq j (by rw[Ja r,B];rw[i.o])⟩
    clear C d j y i s r B;go_wp2_with fail;first|go_end0|refine Qi (Qp rfl _ _ _) rfl ?_
    exact⟨rfl,D.o,q.o⟩
   ·rw[if_neg (by omega)]at i;have J:a<6:=K.o (.inr rfl);replace i:=Z_ i;replace s:=Z_ s;have I:=Y;simp[Aj,Ar]at I O;go_wp2_with fail;refine(Xz b n t v c T m a M y J O s3 (V.o.st _) (am.o _)).mono ?_;rintro e u ⟨rfl,j,d⟩;have G:=j.pl;have E:=j.f 10 (by omega);have q:Kp (Below b w (u.setCell ⟨b,10,none⟩ (.int .i64 A))):=⟨(C.trans d).setCell (Qb _) _⟩
    have D:Kp (ZF (u.setCell ⟨b,10,none⟩ (.int .i64 A)) b n t v c T (Zz c T m)):=⟨Fq j (by rw[Jb r,B];rw[i.o])⟩
    clear C d j y i s r B;go_wp2_with fail;first|go_end0|refine Qi (Qp rfl _ _ _) rfl ?_
    exact⟨rfl,D.o,q.o⟩
structure DB(w:World)(g:Nat)(f:Nat->ZB):Prop where
 lt:g<w.heap.size
 c:∀j:Nat,j<6->w.cell? ⟨g,j,none⟩=some (.string (f j))
 f:∀j:Nat,j<6->w.frozen? ⟨g,j,none⟩=false
theorem DB.step(H:DB w g f)(a:Below w.heap.size w w1):DB w1 g f:=
 ⟨Qq H.lt a.size,λj d=>by rw[a.cell (p:=⟨g,j,none⟩) H.lt];exact H.c j d,λj d=>by rw[a.frozen (p:=⟨g,j,none⟩) H.lt];exact H.f j d⟩
theorem DB.set(H:DB w g f)(d:k<6)(x:ZB):DB (w.setCell ⟨g,k,none⟩ (.string x)) g (λj=>if j=k then x else f j):=by
 refine⟨by simpa using H.lt,λj a=>?_,λj a=>by rw[World.frozen?_setCell];exact H.f j a⟩;by_cases e:j=k
 ·subst e;rw[Qk _ _ _ (H.c j a),if_pos rfl]
 ·rw[Z1 _ _ _ _ _ (by omega),if_neg e];exact H.c j a
theorem DB.far(H:DB w g f)(d:b≠g):DB (w.setCell ⟨b,k,none⟩ x) g f:=
 ⟨by simpa using H.lt,λj a=>by rw[World.cell?_setCell_far _ _ _ _ d];exact H.c j a,λj a=>by rw[World.frozen?_setCell];exact H.f j a⟩
theorem DB.new(w:World)(t:TypeId)(a d e i l o:ZB)(h:f 0=a∧f 1=d∧f 2=e∧f 3=i∧f 4=l∧f 5=o):DB (w.alloc (.cells #[.string a,.string d,.string e,.string i,.string l,.string o] t)) w.heap.size f:=by
 obtain⟨rfl,rfl,rfl,rfl,rfl,rfl⟩:=h;refine⟨by simp,?_,?_⟩ <;>
 ·intro j q;match j with
  | 0=>simp[go_sem]
  | 1=>simp[go_sem]
  | 2=>simp[go_sem]
  | 3=>simp[go_sem]
  | 4=>simp[go_sem]
  | 5=>simp[go_sem]
  | j+6=>omega
def ID(lo:Int->List Int)(k:Nat):Nat->ZB:=λj=>if j<k then bs (lo j) else {data:=#[]}
theorem Rn(b:Nat)(n:Int)(t v c:ZB)(T:Int->ZB)(m:BC)(w:World)(H:ZF w b n t v c T m) :
  Calls prog 70 #[.pointer (some ⟨b,0,none⟩)] w λe w'=>e=.returned (EC λl=>bs (m.lo l))∧Below w.heap.size w w':=by
 have Q:=H.lt;have F:=DB.new w 23 {data:=#[]} {data:=#[]} {data:=#[]} {data:=#[]} {data:=#[]} {data:=#[]} (f:=λ_=>{data:=#[]}) ⟨rfl,rfl,rfl,rfl,rfl,rfl⟩;have s:=F.step ((Qh _ _).alloc (Qb _) (.cells #[.string {data:=#[]},.string {data:=#[]},.string {data:=#[]},.string {data:=#[]},.string {data:=#[]},.string {data:=#[]}] 23));have i:=DB.new (w.alloc (.cells #[.string {data:=#[]},.string {data:=#[]},.string {data:=#[]},.string {data:=#[]},.string {data:=#[]},.string {data:=#[]}] 23)) 23 {data:=#[]} {data:=#[]} {data:=#[]} {data:=#[]} {data:=#[]} {data:=#[]} (f:=ID m.lo 0) ⟨rfl,rfl,rfl,rfl,rfl,rfl⟩;have d:=((Qh w.heap.size w).alloc (Qb _) (.cells #[.string {data:=#[]},.string {data:=#[]},.string {data:=#[]},.string {data:=#[]},.string {data:=#[]},.string {data:=#[]}] 23)).alloc (by simp) (.cells #[.string {data:=#[]},.string {data:=#[]},.string {data:=#[]},.string {data:=#[]},.string {data:=#[]},.string {data:=#[]}] 23);have I:(w.alloc (.cells #[.string {data:=#[]},.string {data:=#[]},.string {data:=#[]},.string {data:=#[]},.string {data:=#[]},.string {data:=#[]}] 23)).heap.size=w.heap.size+1:=by simp
 rw[I]at i;replace s:=Z_ s;replace i:=Z_ i;replace d:=Z_ d;have C:Kp _:=⟨H⟩
 clear H F I;go_in;go_wp2_with fail;go_loopw [4] (λB wr=>∃k:Nat,k<=6∧B=.int .i64 k∧Kp (DB wr (w.heap.size+1) (ID m.lo k)∧DB wr w.heap.size (λ_=>{data:=#[]})∧Below w.heap.size w wr)) (λB _=>6-(intOf B).toNat);case atStart=>exact⟨0,by omega,rfl,⟨i.o,s.o,d.o⟩⟩
 case round=>
  clear i s d;obtain⟨k,hk,rfl,K⟩:=hrel;obtain⟨L,R,q⟩:=K.o;clear K;by_cases a:k<6
  ·have P:(k:Int)<6:=by omega
   have D:=C.o.step q;obtain⟨S,A⟩:=D.lg;have q0:=A.c k a;have N:=MN (m.lo k) (A.o k a);have p0:=L.c k a;have p1:=L.f k a;have E:=L.set a (bs (m.lo k));have G:=R.far (b:=w.heap.size+1) (k:=k) (x:=.string (bs (m.lo k))) (by omega);have r:=q.setCell (p:=⟨w.heap.size+1,k,none⟩) (Nat.le_succ _) (.string (bs (m.lo k)));have u:Kp (DB (wr.setCell ⟨w.heap.size+1,k,none⟩ (.string (bs (m.lo k)))) (w.heap.size+1) (ID m.lo (k+1))∧DB (wr.setCell ⟨w.heap.size+1,k,none⟩ (.string (bs (m.lo k)))) w.heap.size (λ_=>{data:=#[]})∧Below w.heap.size w (wr.setCell ⟨w.heap.size+1,k,none⟩ (.string (bs (m.lo k))))):=⟨by
    refine⟨?_,G,r⟩;have e:(λj=>if j=k then bs (m.lo k) else ID m.lo k j)=ID m.lo (k+1):=by
     funext j;unfold ID;by_cases e:j=k
     ·subst e;rw[if_pos rfl,if_pos (by omega)]
     ·rw[if_neg e];by_cases J:j<k
      ·rw[if_pos J,if_pos (by omega)]
      ·rw[if_neg J,if_neg (by omega)]
    rw[<-e];exact E⟩
   generalize bs (m.lo k)=y at *;generalize S k=sv at *;clear L R q D A E G r;go_wp2_with fail;go_roundw;case rel=>exact⟨k+1,by omega,by go_num,u⟩
   case measure=>simp[intOf];omega
  ·have M:k=6:=by omega
   subst M;have U:=L.c 0 (by omega);have V:=L.c 1 (by omega);have W:=L.c 2 (by omega);have X:=L.c 3 (by omega);have Y:=L.c 4 (by omega);have Z:=L.c 5 (by omega);have r0:=R.c 0 (by omega);have r1:=R.c 1 (by omega);have r2:=R.c 2 (by omega);have r3:=R.c 3 (by omega);have r4:=R.c 4 (by omega);have r5:=R.c 5 (by omega);have f0:=R.f 0 (by omega);have f1:=R.f 1 (by omega);have f2:=R.f 2 (by omega);have f3:=R.f 3 (by omega);have f4:=R.f 4 (by omega);have f5:=R.f 5 (by omega);have z:∀j:Nat,j<6->ID m.lo 6 j=bs (m.lo j):=λj O=>by unfold ID;rw[if_pos O]
   rw[z 0 (by omega)]at U;rw[z 1 (by omega)]at V;rw[z 2 (by omega)]at W;rw[z 3 (by omega)]at X;rw[z 4 (by omega)]at Y;rw[z 5 (by omega)]at Z;have h:=(((((q.setCell (p:=⟨w.heap.size,0,none⟩) (Qb _) (.string (bs (m.lo (0:Nat))))).setCell (p:=⟨w.heap.size,1,none⟩) (Qb _) (.string (bs (m.lo (1:Nat))))).setCell (p:=⟨w.heap.size,2,none⟩) (Qb _) (.string (bs (m.lo (2:Nat))))).setCell (p:=⟨w.heap.size,3,none⟩) (Qb _) (.string (bs (m.lo (3:Nat))))).setCell (p:=⟨w.heap.size,4,none⟩) (Qb _) (.string (bs (m.lo (4:Nat))))).setCell (p:=⟨w.heap.size,5,none⟩) (Qb _) (.string (bs (m.lo (5:Nat))));replace h:=Z_ h;clear z L R q C;go_wp2;exact bodyPost_ret (v:=EC λl=>bs (m.lo l)) (by simp[results,Tryz.results70,go_sem,r0,r1,r2,r3,r4,r5,EC]) rfl ⟨rfl,h.o⟩
theorem AF.grown{w':World}{vs:List Value}{d:Option Nat}(h:AF w b vs)(e:w.grownBy w' d)(a:some b≠d):AF w' b vs:=
 ⟨Qq h.lt e.size,λi v j=>by rw[Qo (w:=w) (e.block b h.lt a)];exact h.c i v j,λi v j=>by rw[Qz (w:=w) (e.block b h.lt a)];exact h.f i v j⟩
theorem Ro(b:Nat)(n:Int)(t v c:ZB)(T:Int->ZB)(m:BC)(w:World)(H:ZF w b n t v c T m)(Y:c.size<=maxLen)(af:v.size<=8)(V:Kp (DR m)) :
  Calls prog 71 #[.pointer (some ⟨b,0,none⟩)] w λe w'=>e=.returned (.string (bs (CM m.va v.size)))∧Below w.heap.size w w':=by
 have c0:=H.c0;have c1:=H.c1;have c2:=H.c2;have c3:=H.c3;have ae:=H.lt;have F:=λw1=>SY n t v c w1 Y (by unfold maxLen;omega);replace F:=Z_ F;have Q:Kp _:=⟨H⟩
 obtain⟨i0,I,L,M,N⟩:=info_parts RZ;have ag:(v.size:Int)<=8:=by omega
 clear H Y;go_in;go_wp2_with fail;refine(F.o _).mono ?_;rintro e w1 ⟨rfl,i⟩;have R:=Q.o.step i;have J:=i.size;have W:=AF.new3 w1 (.int .i64 n) (.int .i64 v.size) (.int .i64 (half c)) 165;have A:=W.alloc (.cells #[] 5);have C:Kp ((((w1.alloc (.cells #[.int .i64 n,.int .i64 v.size,.int .i64 (half c)] 165)).alloc (.cells #[] 5)).ownsRow (w1.heap.size+1) 5 1 (.slice (some ⟨w1.heap.size+1,0,none⟩) 0 0) 0 [])∧Below w1.heap.size w1 ((w1.alloc (.cells #[.int .i64 n,.int .i64 v.size,.int .i64 (half c)] 165)).alloc (.cells #[] 5))):=⟨by
  have:=World.ownsRow_lit (base:=w1.heap.size+1) (e:=5) (size:=1) (w1.alloc (.cells #[.int .i64 n,.int .i64 v.size,.int .i64 (half c)] 165)) #[] 0 (by simp) (by unfold maxLen;omega) rfl;simpa using this,((Below.refl _ _).alloc (Nat.le_refl _) _).alloc (by simp) _⟩
 replace A:=Z_ A;clear W c0 c1 c2 c3 Q;go_wp2_with fail;go_loopw [4,5] (λhv O wr=>∃k:Nat,k<=v.size∧O=.int .i64 k∧Kp (wr.ownsRow (w1.heap.size+1) 5 1 hv k ((CM m.va k).map (Value.int .u8)))∧Kp (AF wr w1.heap.size [.int .i64 n,.int .i64 v.size,.int .i64 (half c)])∧Kp (Below w1.heap.size w1 wr)) (λ_ O _=>v.size-(intOf O).toNat);case atStart=>exact⟨0,by omega,rfl,⟨C.o.1⟩,A,⟨C.o.2⟩⟩
 case round=>
  clear A C;obtain⟨k,hk,rfl,a,s,r⟩:=hrel;have ol:=s.o.lt;have o1:=s.o.c 1 _ rfl;by_cases ad:k<v.size
  ·have ab:(k:Int)<(v.size:Int):=by omega
   have aa:(k:Int)<8:=by omega
   have U:=R.step r.o;have g0:=U.va k (by omega);obtain⟨x0,x9⟩:=V.o.va k;generalize K:m.va k=x at *;have ah:IntKind.u8.wrap x=x:=NW x0 x9;replace K:=Z_ K;clear U;go_wp2_with (at_builtin;refine wpList_append_own _ rfl _ _ 56 rfl (w1.heap.size+1) 5 i0 (.int .u8 0) 1 1 Tryz.underlying56 I L M N rfl (by decide) _ _ _ rfl (a.o.alloc _) ⟨wr.heap.size,0,none⟩ 1 1 [.int .u8 x] rfl rfl ?a1 ?a2 ?a3 ?a4 ?a5 ?_)
   case a1=>
    intro j u q;match j,q with
    | 0,q=>simp at q;subst q;simp[Addr.add]
   case a2=>intro u Z;simp at Z;subst Z;rfl
   case a3=>unfold maxLen;omega
   case a4=>omega
   case a5=>simp;omega
   intro v' P h d _;have l:Kp (P.ownsRow (w1.heap.size+1) 5 1 v' (k+1) ((CM m.va (k+1)).map (Value.int .u8))):=⟨by rw[OE,QK,K.o];exact h⟩
   have G:Kp (AF P w1.heap.size [.int .i64 n,.int .i64 v.size,.int .i64 (half c)]):=⟨(s.o.alloc _).grown d (λe=>by have:=(a.o.lt _ e.symm).1;omega)⟩
   have D:Kp (Below w1.heap.size w1 P):=⟨(r.o.alloc (Uf ol) _).grown d (by simp;omega) (λj q=>Nat.le_of_succ_le (a.o.lt j q).1)⟩
   clear h d a s r ol o1 g0;go_wp2_with fail;go_roundw;case rel=>exact⟨k+1,by omega,by go_num,l,G,D⟩
   case measure=>simp[intOf];omega
  ·have X:k=v.size:=by omega
   have z:=MN (CM m.va k) (by rw[Pq];exact a.o);rw[X]at z;rw[X];have E:Kp (Below w.heap.size w wr):=⟨i.trans (r.o.mono J)⟩
   clear a s r i R;obtain⟨y,B⟩:∃y,bs (CM m.va v.size)=y:=⟨_,rfl⟩
   rw[B]at z;replace B:=Z_ B;go_wp2;go_ret;exact⟨by rw[B.o];rfl,E.o⟩
end Go.Proofs.YtcnbifdlkalimabGreat
