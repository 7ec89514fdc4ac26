import Derived.Test.YtcnbifdlkalimabGreatShtM
import Derived.Test.YtcnbifdlkalimabGreatDrnB
import Derived.Test.YtcnbifdlkalimabGreatRdrI
import Derived.Deep.RegionWith
import Derived.BigQuiet
import Derived.Test.YtcnbifdlkalimabGreatRdrF
import Derived.Deep.LoopGhost
/- Lemmas for the statement Means; their conditions stand in each. -/
namespace Go.Proofs.YtcnbifdlkalimabGreat
open Go.RowKit Go.Proofs.Tryz
set_option linter.unusedVariables false
variable{n:Int}{T:Int->ZB}{ex:List Ex}{sm:List Sm}{hb m pb sb:Nat}{y:Py}{b:Py->Py}{w w' w1 x:World}
structure PyB(y:Py):Prop where
 s0:0<=y.st
 sl:y.st+y.lf<=20000
 lg:∀l,((y.m.lo l).length:Int)<=y.st
 v:Vals y.m
theorem ZfW(H:PyB y):PyB (payF y):=by
 have s0:=H.s0
 have sl:=H.sl
 unfold payF
 by_cases h:y.ou=true∨y.lf=0
 ·rw[if_pos h];exact⟨s0,sl,H.lg,H.v⟩
 ·rw[if_neg h]
  refine⟨by show 0<=y.st+1;omega,by show y.st+1+((y.lf-1:Nat):Int)<=20000;omega,λl=>?_,H.v⟩
  have:=H.lg l
  show ((y.m.lo l).length:Int)<=y.st+1
  omega
theorem Zpr(h:(payF y).ou=false):(payF y).st=y.st+1∧(payF y).m=y.m:=by
 by_cases h1:y.ou=true∨y.lf=0
 ·unfold payF at h;rw[if_pos h1]at h;exact absurd h (by simp)
 ·unfold payF;rw[if_neg h1];exact⟨rfl,rfl⟩
theorem ZrP{x:Ex}{k:Nat}(hx:XB n k x)(H:PyB y):PyB (ZaX T x y).1∧0<=(ZaX T x y).2∧(ZaX T x y).2<=255:=by
 unfold ZaX
 by_cases h0:x.op=0
 ·rw[if_pos h0]
  refine⟨H,?_⟩
  rcases hx with d|d|d|d
  ·exact d.2
  ·omega
  ·omega
  ·omega
 ·rw[if_neg h0]
  by_cases h1:x.op=1
  ·rw[if_pos h1];exact⟨H,H.v.va _⟩
  ·rw[if_neg h1];exact⟨⟨H.s0,H.sl,H.lg,⟨H.v.st,H.v.va,H.v.lo⟩⟩,Zag _ _⟩
theorem Znf{T:Int->ZB}{ex:List Ex}{n:Int}{m:Nat}(hX:ExB n m ex):∀(k e:Nat) {y:Py},PyB y->PyB (worF T ex k e y).1∧0<=(worF T ex k e y).2∧(worF T ex k e y).2<=255
 | 0,e,y,H=>⟨H,QP _,by show (0:Int)<=255;omega⟩
 | k+1,e,y,H=>by
  simp only[worF]
  cases hx:ex[e]? with
  | none=>exact⟨H,QP _,by show (0:Int)<=255;omega⟩
  | some x=>
   dsimp only
   by_cases ho:2<x.op∧x.op<=7
   ·rw[if_pos ho]
    have h1:=Znf (T:=T) hX k x.l H
    have h2:=Znf (T:=T) hX k x.r h1.1
    generalize worF T ex k x.l y=p at *
    generalize worF T ex k x.r p.1=q at *
    have h3:=ZfW h2.1
    split
    ·exact⟨h3,QP _,by show (0:Int)<=255;omega⟩
    ·exact⟨h3,Zgi _ _ _⟩
   ·rw[if_neg ho]
    split
    ·exact⟨ZfW H,QP _,by show (0:Int)<=255;omega⟩
    ·exact ZrP (hX x (Qw hx)) (ZfW H)
theorem Zng(hX:ExB n m ex)(e:Nat)(H:PyB y):PyB (wor T ex e y).1∧0<=(wor T ex e y).2∧(wor T ex e y).2<=255:=Znf hX _ e H
theorem ZqE{f:Nat->Py->Py}(hf:∀i y,PyB y->PyB (f i y)):∀(l:List Nat) {y:Py},PyB y->PyB (rnG f l y)
 | [],y,H=>H
 | i::l,y,H=>by
  simp only[rnG]
  split
  ·exact H
  ·exact ZqE hf l (hf i y H)
theorem Zps{w:Py->Py×Int}(hw:∀y,PyB y->PyB (w y).1)(hb:∀y,PyB y->PyB (b y)):∀(j:Nat) (v:Int) {y:Py},PyB y->PyB (ZfL w b j v y)
 | 0,v,y,H=>H
 | j+1,v,y,H=>by
  simp only[ZfL]
  split
  ·exact Zps hw hb j _ (ZfW (hw _ (ZfW (hb _ H))))
  ·exact H
theorem Zpt(hX:ExB n m ex):∀(k i:Nat) {y:Py},PyB y->PyB (ZfQ T ex sm k i y)
 | 0,i,y,H=>H
 | k+1,i,y,H=>by
  have hr:∀(l:List Nat) (y:Py),PyB y->PyB (rnG (ZfQ T ex sm k) l y):=λl y h=>ZqE (λi y h=>Zpt hX k i h) l h
  simp only[ZfQ]
  cases hx:sm[i]? with
  | none=>exact H
  | some x=>
   dsimp only
   have hw:=Zng (T:=T) hX x.e H
   have hw2:=λy h=>(Zng (T:=T) hX x.e (y:=y) h).1
   generalize wor T ex x.e y=p at *
   have hz:=ZfW hw.1
   by_cases ho:(payF p.1).ou=true
   ·rw[if_pos ho];exact hz
   ·rw[if_neg ho]
    rw[QW]at ho
    obtain⟨e1,e2⟩:=Zpr ho
    have lg0:=hw.1.lg
    generalize payF p.1=z at *
    by_cases k1:x.k=61
    ·rw[if_pos k1]
     exact⟨hz.s0,hz.sl,hz.lg,⟨hz.v.st,Zgh (p:=λa=>0<=a∧a<=255) hz.v.va hw.2,hz.v.lo⟩⟩
    ·rw[if_neg k1]
     by_cases k2:x.k=62
     ·rw[if_pos k2]
      refine⟨hz.s0,hz.sl,λl=>?_,⟨hz.v.st,hz.v.va,λl a ha=>?_⟩⟩
      ·show ((up z.m.lo x.v (z.m.lo x.v++[p.2]) l).length:Int)<=z.st
       by_cases e:l=x.v
       ·rw[e,Zcq,Qe,e2,e1]
        have:=lg0 x.v
        simp only[Qt,Qy]
        omega
       ·rw[Zcf e];exact hz.lg l
      ·have ha:a∈up z.m.lo x.v (z.m.lo x.v++[p.2]) l:=ha
       by_cases e:l=x.v
       ·rw[e,Zcq,QI,QA]at ha
        rcases ha with ha|ha
        ·exact hz.v.lo _ _ ha
        ·rw[ha];exact hw.2
       ·rw[Zcf e]at ha;exact hz.v.lo _ _ ha
     ·rw[if_neg k2]
      by_cases k3:x.k=63
      ·rw[if_pos k3]
       split
       ·exact hr _ _ hz
       ·split
        ·exact ZfW (hr _ _ hz)
        ·exact hr _ _ hz
      ·rw[if_neg k3]
       exact Zps hw2 (λy h=>hr _ y h) _ _ hz
theorem ZrQ(hX:ExB n m ex)(i:Nat)(H:PyB y):PyB (doe T ex sm i y):=Zpt hX _ i H
theorem Zpu(hX:ExB n m ex)(l:List Nat)(H:PyB y):PyB (does T ex sm l y):=ZqE (λi y h=>ZrQ hX i h) l H
structure ZbM(w:World)(hb pb sb:Nat)(T:Int->ZB)(y:Py):Prop where
 lt:pb<w.heap.size
 ne:hb≠pb
 c0:w.cell? ⟨pb,0,none⟩=some (.pointer (some ⟨sb,0,none⟩))
 c1:w.cell? ⟨pb,1,none⟩=some (.pointer (some ⟨hb,0,none⟩))
 c2:w.cell? ⟨pb,2,none⟩=some (.int .i64 y.st)
 c3:w.cell? ⟨pb,3,none⟩=some (.int .i64 y.lf)
 c4:w.cell? ⟨pb,4,none⟩=some (.bool y.ou)
 f:∀j:Nat,j<5->w.frozen? ⟨pb,j,none⟩=false
 h:ZV w hb T y.m
structure ZaJ(hb pb:Nat)(w w':World):Prop where
 os:w'.os=w.os
 tape:w'.tape=w.tape
 output:w'.output=w.output
 size:w.heap.size<=w'.heap.size
 block:∀k,k<w.heap.size->k≠hb->k≠pb->w'.heap[k]?=w.heap[k]?
theorem ZaJ.refl(hb pb:Nat)(w:World):ZaJ hb pb w w:=⟨rfl,rfl,rfl,Qb _,λ_ _ _ _=>rfl⟩
theorem ZaJ.trans{y z:World}(h:ZaJ hb pb x y)(k:ZaJ hb pb y z):ZaJ hb pb x z:=
 ⟨k.os.trans h.os,k.tape.trans h.tape,k.output.trans h.output,Qg h.size k.size,λi hi h1 h2=>(k.block i (Qq hi h.size) h1 h2).trans (h.block i hi h1 h2)⟩
theorem ZaJ.of(h:Below w.heap.size w w'):ZaJ hb pb w w':=⟨h.os,h.tape,h.output,h.size,λk hk _ _=>h.block k hk⟩
theorem ZaJ.but(h:But hb w.heap.size w w'):ZaJ hb pb w w':=⟨h.os,h.tape,h.output,h.size,λk hk h1 _=>h.block k hk h1⟩
theorem ZaJ.setH(h:ZaJ hb pb x w)(o:Nat)(u:Value):ZaJ hb pb x (w.setCell ⟨hb,o,none⟩ u):=
 ⟨h.os,h.tape,h.output,by simpa using h.size,λk hk h1 h2=>by rw[Below.heap_setCell w ⟨hb,o,none⟩ u k h1];exact h.block k hk h1 h2⟩
theorem ZaJ.setP(h:ZaJ hb pb x w)(o:Nat)(u:Value):ZaJ hb pb x (w.setCell ⟨pb,o,none⟩ u):=
 ⟨h.os,h.tape,h.output,by simpa using h.size,λk hk h1 h2=>by rw[Below.heap_setCell w ⟨pb,o,none⟩ u k h2];exact h.block k hk h1 h2⟩
theorem ZaJ.cell(h:ZaJ hb pb w w'){p:Addr}(hp:p.block<w.heap.size)(h1:p.block≠hb)(h2:p.block≠pb):w'.cell? p=w.cell? p:=Qo (w:=w) (h.block p.block hp h1 h2)
theorem ZaJ.below{B:Nat}(h:ZaJ hb pb w w')(hB:B<=w.heap.size)(h1:B<=hb)(h2:B<=pb):Below B w w':=⟨h.os,h.tape,h.output,h.size,λk hk=>h.block k (by omega) (by omega) (by omega)⟩
theorem ZaJ.own{g:Nat}{vs:List Value}(h:ZaJ hb pb w w')(O:Own w g vs)(h1:g≠hb)(h2:g≠pb):Own w' g vs:=
 ⟨Qq O.lt h.size,λi v hv=>by rw[h.cell (p:=⟨g,i,none⟩) O.lt h1 h2];exact O.c i v hv,λi v hv=>by rw[Qz (w:=w) (h.block g O.lt h1 h2)];exact O.f i v hv⟩
theorem ZbM.step(H:ZbM w hb pb sb T y)(hB:Below w.heap.size w w1):ZbM w1 hb pb sb T y:=by
 have key:∀k:Nat,w1.cell? ⟨pb,k,none⟩=w.cell? ⟨pb,k,none⟩:=λk=>hB.cell (p:=⟨pb,k,none⟩) H.lt
 exact⟨Qq H.lt hB.size,H.ne,(key _).trans H.c0,(key _).trans H.c1,(key _).trans H.c2,(key _).trans H.c3,(key _).trans H.c4,λj hj=>by rw[hB.frozen (p:=⟨pb,j,none⟩) H.lt];exact H.f j hj,H.h.step hB⟩
theorem ZbM.hand{m:Hnd}(H:ZbM w hb pb sb T y)(hB:But hb w.heap.size w w1)(h:ZV w1 hb T m):ZbM w1 hb pb sb T {y with m:=m}:=by
 have key:∀k:Nat,w1.cell? ⟨pb,k,none⟩=w.cell? ⟨pb,k,none⟩:=λk=>hB.cell (p:=⟨pb,k,none⟩) H.lt (λe=>H.ne e.symm)
 exact⟨Qq H.lt hB.size,H.ne,(key _).trans H.c0,(key _).trans H.c1,(key _).trans H.c2,(key _).trans H.c3,(key _).trans H.c4,λj hj=>by rw[hB.frozen (p:=⟨pb,j,none⟩) H.lt (λe=>H.ne e.symm)];exact H.f j hj,h⟩
theorem ZV.but{b:Nat}{m:Hnd}(H:ZV w b T m)(hB:But pb w.heap.size w w1)(h:b≠pb):ZV w1 b T m:=by
 have key:∀k:Nat,w1.cell? ⟨b,k,none⟩=w.cell? ⟨b,k,none⟩:=λk=>hB.cell (p:=⟨b,k,none⟩) H.lt h
 exact⟨Qq H.lt hB.size,λj hj=>(key _).trans (H.tp j hj),λj hj=>(key _).trans (H.lo j hj),λj hj=>(key _).trans (H.va j hj),λj hj=>by rw[hB.frozen (p:=⟨b,j,none⟩) H.lt h];exact H.f j hj⟩
theorem ZbM.setOu(H:ZbM w hb pb sb T y)(b:Bool):ZbM (w.setCell ⟨pb,4,none⟩ (.bool b)) hb pb sb T {y with ou:=b}:=by
 have key:∀k:Nat,k≠4->(w.setCell ⟨pb,4,none⟩ (.bool b)).cell? ⟨pb,k,none⟩=w.cell? ⟨pb,k,none⟩:=λk hk=>ZL _ _ _ _ _ (by omega)
 exact⟨by simpa using H.lt,H.ne,(key _ (by omega)).trans H.c0,(key _ (by omega)).trans H.c1,(key _ (by omega)).trans H.c2,(key _ (by omega)).trans H.c3,World.cell?_setCell_same _ _ _ H.c4,λj hj=>by rw[World.frozen?_setCell];exact H.f j hj,H.h.but ((But.refl pb _ w).setCell 4 _) H.ne⟩
theorem ZbM.setLf(H:ZbM w hb pb sb T y)(k0:Nat):ZbM (w.setCell ⟨pb,3,none⟩ (.int .i64 k0)) hb pb sb T {y with lf:=k0}:=by
 have key:∀k:Nat,k≠3->(w.setCell ⟨pb,3,none⟩ (.int .i64 k0)).cell? ⟨pb,k,none⟩=w.cell? ⟨pb,k,none⟩:=λk hk=>ZL _ _ _ _ _ (by omega)
 exact⟨by simpa using H.lt,H.ne,(key _ (by omega)).trans H.c0,(key _ (by omega)).trans H.c1,(key _ (by omega)).trans H.c2,World.cell?_setCell_same _ _ _ H.c3,(key _ (by omega)).trans H.c4,λj hj=>by rw[World.frozen?_setCell];exact H.f j hj,H.h.but ((But.refl pb _ w).setCell 3 _) H.ne⟩
theorem ZbM.setSt(H:ZbM w hb pb sb T y)(k0:Int):ZbM (w.setCell ⟨pb,2,none⟩ (.int .i64 k0)) hb pb sb T {y with st:=k0}:=by
 have key:∀k:Nat,k≠2->(w.setCell ⟨pb,2,none⟩ (.int .i64 k0)).cell? ⟨pb,k,none⟩=w.cell? ⟨pb,k,none⟩:=λk hk=>ZL _ _ _ _ _ (by omega)
 exact⟨by simpa using H.lt,H.ne,(key _ (by omega)).trans H.c0,(key _ (by omega)).trans H.c1,World.cell?_setCell_same _ _ _ H.c2,(key _ (by omega)).trans H.c3,(key _ (by omega)).trans H.c4,λj hj=>by rw[World.frozen?_setCell];exact H.f j hj,H.h.but ((But.refl pb _ w).setCell 2 _) H.ne⟩
set_option maxRecDepth 100000
set_option maxHeartbeats 6400000
theorem Zjt(hb pb sb:Nat)(T:Int->ZB)(y:Py)(w:World)(H:ZbM w hb pb sb T y)(B:PyB y) :
  Calls prog 143 #[.pointer (some ⟨pb,0,none⟩)] w λe w'=>e=.returned (.bool (!(payF y).ou))∧ZbM w' hb pb sb T (payF y)∧ZaJ hb pb w w':=by
 have c2:=H.c2
 have c3:=H.c3
 have c4:=H.c4
 have f2:=H.f 2 (by omega)
 have f3:=H.f 3 (by omega)
 have f4:=H.f 4 (by omega)
 have hlt:=H.lt
 have s0:=B.s0
 have sl:=B.sl
 by_cases h0:y.lf=0
 ·have e:payF y={y with ou:=true}:=Zpk h0
  have R:=H.setOu true
  have R2:Kp (ZaJ hb pb w (w.setCell ⟨pb,4,none⟩ (.bool true))):=⟨(ZaJ.refl hb pb w).setP 4 _⟩
  rw[<-e]at R
  have ee:(payF y).ou=true:=by rw[e]
  rw[ee]
  rw[h0]at c3
  replace R:=Z_ R
  have d4:(w.setCell ⟨pb,4,none⟩ (.bool true)).cell? ⟨pb,4,none⟩=some (.bool true):=Qk _ _ _ c4
  clear H B e ee h0 s0 sl
  go_enter func143,ntmps143
  go_wp2
  go_ret
  exact⟨rfl,R.out,R2.out⟩
 ·have hl:((y.lf:Nat):Int)≠0:=by omega
  have hlb:(((y.lf:Nat):Int)==0)=false:=Qf.2 hl
  cases ho:y.ou with
  | true=>
   have e:payF y=y:=Zbt ho
   rw[e,ho]
   rw[ho]at c4
   have R:Kp _:=⟨H⟩
   have hl2:((y.lf:Nat):Int)<=20000:=by omega
   clear H B e ho
   generalize ((y.lf:Nat):Int)=L at *
   go_enter func143,ntmps143
   go_wp2
   go_ret
   exact⟨rfl,R.out,ZaJ.refl _ _ _⟩
  | false=>
   have e:payF y={y with lf:=y.lf-1,st:=y.st+1}:=Zpl ho h0
   have R:=(H.setLf (y.lf-1)).setSt (y.st+1)
   have R:ZbM ((w.setCell ⟨pb,3,none⟩ (.int .i64 ((y.lf-1:Nat):Int))).setCell ⟨pb,2,none⟩ (.int .i64 (y.st+1))) hb pb sb T (payF y):=by rw[e];exact R
   have ee:(payF y).ou=false:=by rw[e];exact ho
   rw[show ((y.lf-1:Nat):Int)=((y.lf:Nat):Int)-1 from by omega]at R
   rw[ee]
   rw[ho]at c4
   have d2:(w.setCell ⟨pb,3,none⟩ (.int .i64 (((y.lf:Nat):Int)-1))).cell? ⟨pb,2,none⟩=some (.int .i64 y.st):=(ZL _ _ _ _ _ (by omega)).trans c2
   have R2:Kp (ZaJ hb pb w ((w.setCell ⟨pb,3,none⟩ (.int .i64 (((y.lf:Nat):Int)-1))).setCell ⟨pb,2,none⟩ (.int .i64 (y.st+1)))):=⟨((ZaJ.refl hb pb w).setP 3 _).setP 2 _⟩
   have hl2:((y.lf:Nat):Int)<=20000:=by omega
   have hl3:1<=((y.lf:Nat):Int):=by omega
   have hs2:y.st<=20000:=by omega
   replace R:=Z_ R
   clear H B e ee ho sl h0
   generalize ((y.lf:Nat):Int)=L at *
   generalize y.st=st at *
   go_enter func143,ntmps143
   go_wp2
   go_ret
   exact⟨rfl,R.out,R2.out⟩
structure Zq5(w0:World)(rb sb B:Nat)(s tb:ZB)(tp:Value)(p:Rs)(S:Nat->Value)(sv:List (Value×Value))(hb pb:Nat)(T:Int->ZB):Prop where
 h:Zx w0 rb sb B s p tb tp S sv
 hh:w0.heap.size<=hb
 hp:w0.heap.size<=pb
 oe:Z7 p.ex
 os:ZaQ p.ex p.sm
 eb:ExB p.n p.vs.length p.ex
 sb:∀x,x∈p.sm->SB p.n p.vs.length x
 sk:∀x,x∈p.sm->SK x
 n6:p.n<=6
 m8:p.vs.length<=8
 tz:∀l:Nat,l<6->(T l).size<=maxLen
def WGo(w0:World)(sb hb pb:Nat)(T:Int->ZB)(p:Rs)(k:Nat):Prop:=∀(e:Nat) (w:World) (y:Py),e<k->e<p.ex.length->ZbM w hb pb sb T y->Below w0.heap.size w0 w->PyB y->
 Calls prog 142 #[.pointer (some ⟨pb,0,none⟩),.int .i64 e] w λen w'=>en=.returned (.int .i64 (wor T p.ex e y).2)∧ZbM w' hb pb sb T (wor T p.ex e y).1∧ZaJ hb pb w w'
theorem Znh(w0:World)(rb sb B:Nat)(s tb:ZB)(tp:Value)(p:Rs)(S:Nat->Value)(sv:List (Value×Value))(hb pb:Nat)(T:Int->ZB)(I:Kp (Zq5 w0 rb sb B s tb tp p S sv hb pb T))(e:Nat)(ih:Kp (WGo w0 sb hb pb T p e))(w:World)(y:Py)(H:ZbM w hb pb sb T y)(L:Below w0.heap.size w0 w)(Q:PyB y)(x:Ex)(hx:p.ex[e]?=some x)(hop:3<=x.op∧x.op<=7) :
  Calls prog 142 #[.pointer (some ⟨pb,0,none⟩),.int .i64 e] w λen w'=>en=.returned (.int .i64 (wor T p.ex e y).2)∧ZbM w' hb pb sb T (wor T p.ex e y).1∧ZaJ hb pb w w':=by
 have hw:=Zka (T:=T) I.out.oe (Zov I.out.eb) hx y
 rw[if_pos (by omega)]at hw
 rw[hw]
 obtain⟨g,c,hS,hg,hc⟩:=I.out.h.node hx
 have he:e<p.ex.length:=(Ql.1 hx).1
 have hlt0:=I.out.h.lt
 have up:∀a:Addr,a.block<w0.heap.size->w.cell? a=w0.cell? a:=λa ha=>L.cell ha
 have c4:w.cell? ⟨sb,4,none⟩=some (.slice (some ⟨g,0,none⟩) p.ex.length c):=by rw[up _ hlt0,<-hS];exact I.out.h.c 0 (by omega)
 have d0:w.cell? ⟨g,e*4,none⟩=some (.int .i64 x.op):=(up _ hg).trans (hc 0 _ rfl)
 have d1:=(up ⟨g,e*4+1,none⟩ hg).trans (hc 1 _ rfl)
 have d2:=(up ⟨g,e*4+2,none⟩ hg).trans (hc 2 _ rfl)
 have d3:=(up ⟨g,e*4+3,none⟩ hg).trans (hc 3 _ rfl)
 have p0:=H.c0
 have hlt:=H.lt
 obtain⟨hxl,hxr⟩:=(I.out.oe e x hx).resolve_left (by omega)
 obtain⟨wx,hwx⟩:∃wx,w.alloc (.cells #[.int .i64 x.op,.int .i64 x.v,.int .i64 (x.l:Nat),.int .i64 (x.r:Nat)] 121)=wx:=⟨_,rfl⟩
 have Ox:=own4x w (.int .i64 x.op) (.int .i64 x.v) (.int .i64 (x.l:Nat)) (.int .i64 (x.r:Nat)) 121
 rw[hwx]at Ox
 have bx:Below w.heap.size w wx:=by rw[<-hwx];exact(Qh _ _).alloc (Qb _) _
 have Hx:=H.step bx
 have Lx:Below w0.heap.size w0 wx:=L.trans (bx.mono L.size)
 have hei:(e:Int)<(p.ex.length:Int):=by omega
 have hgn:w.heap.size≠hb∧w.heap.size≠pb:=⟨λk=>by have:=H.h.lt;omega,by omega⟩
 have hC1:=ih.out x.l wx y hxl (by omega) Hx Lx Q
 have Q1:=Zng (T:=T) I.out.eb x.l Q
 have hC2:=λW (h:ZbM W hb pb sb T (wor T p.ex x.l y).1) (l:Below w0.heap.size w0 W)=>ih.out x.r W _ hxr (by omega) h l Q1.1
 have Q2:=Zng (T:=T) I.out.eb x.r Q1.1
 have o1:x.op=0∨x.op≠0:=by omega
 have k0:(x.op==0)=false:=Qf.2 (by omega)
 have k1:(x.op==1)=false:=Qf.2 (by omega)
 have k2:(x.op==10)=false:=Qf.2 (by omega)
 generalize wor T p.ex x.l y=a at *
 generalize wor T p.ex x.r a.1=b at *
 have hC3:=λW (h:ZbM W hb pb sb T b.1)=>Zjt hb pb sb T b.1 W h Q2.1
 generalize payF b.1=z at *
 have hRk:=λW=>Zk5 x.op a.2 b.2 W hop Q1.2 Q2.2
 have hh:=I.out.hh
 have hp:=I.out.hp
 obtain⟨op3,op7⟩:=hop
 generalize x.op=op at *
 generalize x.v=v at *
 generalize x.l=l at *
 generalize x.r=r at *
 generalize p.ex.length=m at *
 replace Ox:=Z_ Ox
 replace bx:=Z_ bx
 replace Lx:=Z_ Lx
 replace hwx:=Z_ hwx
 replace hC1:=Z_ hC1
 replace hC2:=Z_ hC2
 replace hC3:=Z_ hC3
 generalize hR:(if z.ou=true then (z,(0:Int)) else (z,reckon op a.2 b.2))=R
 replace hR:=Z_ hR
 replace hRk:=Z_ hRk
 replace hgn:=Z_ hgn
 replace hh:=Z_ hh
 replace hp:=Z_ hp
 clear H Hx hx hc hS ih hw hxl hxr I Q Q1 Q2 up o1 L
 go_enter func142,ntmps142
 go_wp2_with fail
 rw[hwx.out]
 refine hC1.out.mono ?_
 rintro en w1 ⟨rfl,H1,t1⟩
 obtain⟨gx,hgx⟩:∃gx,w.heap.size=gx:=⟨_,rfl⟩
 have O1:=t1.own Ox.out hgn.out.1 hgn.out.2
 rw[hgx]at O1
 simp only[hgx]
 have x3:=O1.c 3 _ rfl
 clear d0 d1 d2 d3 c4 hC1 p0
 replace hgx:=Z_ hgx
 replace t1:=Z_ t1
 replace H1:=Z_ H1
 replace O1:=Z_ O1
 go_wp2_with fail
 refine(hC2.out _ H1.out (Lx.out.trans (t1.out.below Lx.out.size hh.out hp.out))).mono ?_
 rintro en w2 ⟨rfl,H2,t2⟩
 have t3:Kp (ZaJ hb pb wx w2):=⟨t1.out.trans t2⟩
 have O2:=t2.own O1.out (by rw[<-hgx.out];exact hgn.out.1) (by rw[<-hgx.out];exact hgn.out.2)
 clear x3 t2 t1 hC2 H1 O1
 replace H2:=Z_ H2
 replace O2:=Z_ O2
 go_wp2_with fail
 refine(hC3.out _ H2.out).mono ?_
 rintro en w3 ⟨rfl,H3,t4⟩
 have O3:=t4.own O2.out (by rw[<-hgx.out];exact hgn.out.1) (by rw[<-hgx.out];exact hgn.out.2)
 have t5:Kp (ZaJ hb pb w w3):=⟨(ZaJ.of bx.out).trans (t3.out.trans t4)⟩
 have x0:=O3.c 0 _ rfl
 clear t4 t3 hC3 H2 O2 O3
 replace H3:=Z_ H3
 cases hz:z.ou with
 | true=>
  have e:R=(z,0):=by rw[<-hR.out,if_pos hz]
  replace e:=Z_ e
  go_wp2
  go_ret
  rw[e.out]
  exact⟨rfl,H3.out,t5.out⟩
 | false=>
  have e:R=(z,reckon op a.2 b.2):=by rw[<-hR.out,if_neg (by rw[hz];simp)]
  replace e:=Z_ e
  go_wp2_with fail
  refine(hRk.out _).mono ?_
  rintro en w4 ⟨rfl,rfl⟩
  go_wp2
  go_ret
  rw[e.out]
  exact⟨rfl,H3.out,t5.out⟩
theorem Zlp(w0:World)(rb sb B:Nat)(s tb:ZB)(tp:Value)(p:Rs)(S:Nat->Value)(sv:List (Value×Value))(hb pb:Nat)(T:Int->ZB)(I:Kp (Zq5 w0 rb sb B s tb tp p S sv hb pb T))(e:Nat)(w:World)(y:Py)(H:ZbM w hb pb sb T y)(L:Below w0.heap.size w0 w)(Q:PyB y)(x:Ex)(hx:p.ex[e]?=some x)(hop:x.op=0∨x.op=1∨x.op=10) :
  Calls prog 142 #[.pointer (some ⟨pb,0,none⟩),.int .i64 e] w λen w'=>en=.returned (.int .i64 (wor T p.ex e y).2)∧ZbM w' hb pb sb T (wor T p.ex e y).1∧ZaJ hb pb w w':=by
 have hw:=Zka (T:=T) I.out.oe (Zov I.out.eb) hx y
 rw[if_neg (by omega)]at hw
 rw[hw]
 have hxb:=I.out.eb x (Qw hx)
 have n6:=I.out.n6
 have m8:=I.out.m8
 obtain⟨g,c,hS,hg,hc⟩:=I.out.h.node hx
 have he:e<p.ex.length:=(Ql.1 hx).1
 have hlt0:=I.out.h.lt
 have up:∀a:Addr,a.block<w0.heap.size->w.cell? a=w0.cell? a:=λa ha=>L.cell ha
 have c4:w.cell? ⟨sb,4,none⟩=some (.slice (some ⟨g,0,none⟩) p.ex.length c):=by rw[up _ hlt0,<-hS];exact I.out.h.c 0 (by omega)
 have d0:w.cell? ⟨g,e*4,none⟩=some (.int .i64 x.op):=(up _ hg).trans (hc 0 _ rfl)
 have d1:=(up ⟨g,e*4+1,none⟩ hg).trans (hc 1 _ rfl)
 have d2:=(up ⟨g,e*4+2,none⟩ hg).trans (hc 2 _ rfl)
 have d3:=(up ⟨g,e*4+3,none⟩ hg).trans (hc 3 _ rfl)
 have p0:=H.c0
 have hlt:=H.lt
 obtain⟨wx,hwx⟩:∃wx,w.alloc (.cells #[.int .i64 x.op,.int .i64 x.v,.int .i64 (x.l:Nat),.int .i64 (x.r:Nat)] 121)=wx:=⟨_,rfl⟩
 have Ox:=own4x w (.int .i64 x.op) (.int .i64 x.v) (.int .i64 (x.l:Nat)) (.int .i64 (x.r:Nat)) 121
 rw[hwx]at Ox
 have bx:Below w.heap.size w wx:=by rw[<-hwx];exact(Qh _ _).alloc (Qb _) _
 have Hx:=H.step bx
 have hei:(e:Int)<(p.ex.length:Int):=by omega
 have hgn:w.heap.size≠hb∧w.heap.size≠pb:=⟨λk=>by have:=H.h.lt;omega,by omega⟩
 have hC3:=Zjt hb pb sb T y wx Hx Q
 have hdr:=λ(W:World) (l:Nat) (h:ZV W hb T (payF y).m) (hl:l<6)=>Zoj hb T (payF y).m l W h hl (I.out.tz l hl)
 generalize payF y=z at *
 generalize hR:(if z.ou=true then (z,(0:Int)) else ZaX T x z)=R
 have hv:(x.op=1->0<=x.v∧x.v<8)∧(x.op=10->0<=x.v∧x.v<6):=by
  rcases hxb with d|d|d|d<;>omega
 have hlf:ZaX T x z=if x.op=0 then (z,x.v) else if x.op=1 then (z,z.m.va x.v) else ({z with m:={z.m with po:=Go.Proofs.YtcnbifdlkalimabGreat.up z.m.po x.v (z.m.po x.v+1)}},bv (T x.v) (z.m.po x.v)):=rfl
 rw[hlf]at hR
 generalize x.v=v at *
 generalize x.l=l at *
 generalize x.r=r at *
 generalize p.ex.length=m at *
 generalize x.op=op at *
 replace Ox:=Z_ Ox
 replace bx:=Z_ bx
 replace hwx:=Z_ hwx
 replace hC3:=Z_ hC3
 replace hR:=Z_ hR
 replace hgn:=Z_ hgn
 replace hdr:=Z_ hdr
 clear H Hx hx hc hS hw I Q up L hxb n6 m8 hlf
 have eT:Kp (z.ou=true->R=(z,0)):=⟨λhz=>by rw[<-hR.out,if_pos hz]⟩
 rcases hop with rfl|rfl|rfl
 ·have eF:Kp (z.ou=false->R=(z,v)):=⟨λhz=>by rw[<-hR.out,if_neg (by rw[hz];simp),if_pos rfl]⟩
  clear hv hdr hR
  go_enter func142,ntmps142
  go_wp2_with fail
  rw[hwx.out]
  refine hC3.out.mono ?_
  rintro en w3 ⟨rfl,H3,t4⟩
  obtain⟨gx,hgx⟩:∃gx,w.heap.size=gx:=⟨_,rfl⟩
  have O3:=t4.own Ox.out hgn.out.1 hgn.out.2
  have t5:Kp (ZaJ hb pb w w3):=⟨(ZaJ.of bx.out).trans t4⟩
  rw[hgx]at O3
  simp only[hgx]
  have x0:=O3.c 0 _ rfl
  have x1:=O3.c 1 _ rfl
  clear t4 hC3 O3 hgx d0 d1 d2 d3 c4 p0
  replace H3:=Z_ H3
  cases hz:z.ou with
  | true=>
   have e:R=(z,0):=eT.out hz
   replace e:=Z_ e
   go_wp2
   go_ret
   rw[e.out]
   exact⟨rfl,H3.out,t5.out⟩
  | false=>
   have e:R=(z,v):=eF.out hz
   replace e:=Z_ e
   go_wp2
   go_ret
   rw[e.out]
   exact⟨rfl,H3.out,t5.out⟩
 ·obtain⟨v0,v8⟩:=hv.1 rfl
  have eF:Kp (z.ou=false->R=(z,z.m.va v)):=⟨λhz=>by rw[<-hR.out,if_neg (by rw[hz];simp),if_neg (by omega),if_pos rfl]⟩
  clear hv hdr hR
  go_enter func142,ntmps142
  go_wp2_with fail
  rw[hwx.out]
  refine hC3.out.mono ?_
  rintro en w3 ⟨rfl,H3,t4⟩
  obtain⟨gx,hgx⟩:∃gx,w.heap.size=gx:=⟨_,rfl⟩
  have O3:=t4.own Ox.out hgn.out.1 hgn.out.2
  have t5:Kp (ZaJ hb pb w w3):=⟨(ZaJ.of bx.out).trans t4⟩
  rw[hgx]at O3
  simp only[hgx]
  have x0:=O3.c 0 _ rfl
  have x1:=O3.c 1 _ rfl
  clear t4 hC3 O3 hgx d0 d1 d2 d3 c4 p0
  cases hz:z.ou with
  | true=>
   have e:R=(z,0):=eT.out hz
   replace e:=Z_ e
   replace H3:=Z_ H3
   go_wp2
   go_ret
   rw[e.out]
   exact⟨rfl,H3.out,t5.out⟩
  | false=>
   have e:R=(z,z.m.va v):=eF.out hz
   have q1:=H3.c1
   have q2:=H3.h.va v.toNat (by omega)
   rw[Qj v0]at q2
   have hl3:=H3.lt
   have hl4:=H3.h.lt
   replace e:=Z_ e
   replace H3:=Z_ H3
   go_wp2_with fail
   go_quiet (fail)
   go_wp2
   go_ret
   rw[e.out]
   exact⟨rfl,H3.out.step (below_drewN (Qh _ _) _),t5.out.trans (ZaJ.of (below_drewN (Qh _ _) _))⟩
 ·obtain⟨v0,v6⟩:=hv.2 rfl
  obtain⟨l0,hl0⟩:∃l0:Nat,v=l0:=⟨v.toNat,by omega⟩
  subst hl0
  have eF:Kp (z.ou=false->R=({z with m:={z.m with po:=Go.Proofs.YtcnbifdlkalimabGreat.up z.m.po (l0:Int) (z.m.po l0+1)}},bv (T l0) (z.m.po l0))):=⟨λhz=>by rw[<-hR.out,if_neg (by rw[hz];simp),if_neg (by omega),if_neg (by omega)]⟩
  clear hv hR
  go_enter func142,ntmps142
  go_wp2_with fail
  rw[hwx.out]
  refine hC3.out.mono ?_
  rintro en w3 ⟨rfl,H3,t4⟩
  obtain⟨gx,hgx⟩:∃gx,w.heap.size=gx:=⟨_,rfl⟩
  have O3:=t4.own Ox.out hgn.out.1 hgn.out.2
  have t5:Kp (ZaJ hb pb w w3):=⟨(ZaJ.of bx.out).trans t4⟩
  rw[hgx]at O3
  simp only[hgx]
  have x0:=O3.c 0 _ rfl
  have x1:=O3.c 1 _ rfl
  clear t4 hC3 O3 hgx d0 d1 d2 d3 c4 p0
  cases hz:z.ou with
  | true=>
   have e:R=(z,0):=eT.out hz
   replace e:=Z_ e
   replace H3:=Z_ H3
   go_wp2
   go_ret
   rw[e.out]
   exact⟨rfl,H3.out,t5.out⟩
  | false=>
   have e:=eF.out hz
   have q1:=H3.c1
   have hl3:=H3.lt
   have hl6:l0<6:=by omega
   replace e:=Z_ e
   replace H3:=Z_ H3
   go_wp2_with fail
   go_region_with ((go_at_call 196;refine(hdr.out _ l0 (H3.out.h.step (Qh _ _).drew) hl6).mono ?_;rintro en w4 ⟨rfl,h4,b4⟩))
   all_goals
    go_wp2
    go_ret
    rw[e.out]
    have Hd:=H3.out.step (w1:=_) (Qh _ _).drew
    exact⟨rfl,Hd.hand b4 h4,t5.out.trans ((ZaJ.of (Qh _ _).drew).trans (ZaJ.but b4))⟩
theorem Zij(w0:World)(rb sb B:Nat)(s tb:ZB)(tp:Value)(p:Rs)(S:Nat->Value)(sv:List (Value×Value))(hb pb:Nat)(T:Int->ZB)(I:Kp (Zq5 w0 rb sb B s tb tp p S sv hb pb T)):∀k,WGo w0 sb hb pb T p k
 | 0=>λe w y hk=>by omega
 | k+1=>λe w y hk he H L Q=>by
  have hx:p.ex[e]?=some p.ex[e]:=Qn he
  rcases Zov I.out.eb _ (Qw hx) with h|h
  ·exact Zlp w0 rb sb B s tb tp p S sv hb pb T I e w y H L Q _ hx h
  ·exact Znh w0 rb sb B s tb tp p S sv hb pb T I e ⟨λf w y hf=>Zij w0 rb sb B s tb tp p S sv hb pb T I k f w y (by omega)⟩ w y H L Q _ hx h
def ZsG(w0:World)(sb hb pb:Nat)(T:Int->ZB)(p:Rs)(k:Nat):Prop:=∀(i:Nat) (w:World) (y:Py),i<k->i<p.sm.length->ZbM w hb pb sb T y->Below w0.heap.size w0 w->PyB y->
 Calls prog 75 #[.pointer (some ⟨pb,0,none⟩),.int .i64 i] w λen w'=>en=.returned (.tuple #[])∧ZbM w' hb pb sb T (doe T p.ex p.sm i y)∧ZaJ hb pb w w'
theorem Zhi(w0:World)(rb sb B:Nat)(s tb:ZB)(tp:Value)(p:Rs)(S:Nat->Value)(sv:List (Value×Value))(hb pb:Nat)(T:Int->ZB)(I:Kp (Zq5 w0 rb sb B s tb tp p S sv hb pb T))(k:Nat)(ih:Kp (ZsG w0 sb hb pb T p k))(l:List Nat)(v:Value)(hI:ZaB w0 B S v l)(hn:∀n∈l,n<k∧n<p.sm.length)(w:World)(y:Py)(H:ZbM w hb pb sb T y)(L:Below w0.heap.size w0 w)(Q:PyB y) :
  Calls prog 28 #[.pointer (some ⟨pb,0,none⟩),v] w λen w'=>en=.returned (.tuple #[])∧ZbM w' hb pb sb T (does T p.ex p.sm l y)∧ZaJ hb pb w w':=by
 have hlt:=H.lt
 obtain⟨F,hF⟩:∃F,does T p.ex p.sm l y=F:=⟨_,rfl⟩
 rw[hF]
 rcases hI.1.2 with ⟨rfl,h0⟩|⟨g,cap,cur,rfl,hrest⟩
 ·have e1:l=[]:=Uk h0
  subst e1
  have hF:y=F:=hF
  have H':Kp (ZbM w hb pb sb T F):=⟨by rw[<-hF];exact H⟩
  clear H hI hn ih L Q I hF
  go_enter func28,ntmps28
  go_wp2_with fail
  go_loopw [4] (λiv wr=>iv=.int .i64 0∧Kp (wr=w)) (λ_ _=>0)
  case atStart=>exact⟨rfl,⟨rfl⟩⟩
  case round=>
   obtain⟨rfl,hw⟩:=hrel
   go_wp2_with fail
   first|go_end0|refine Qi (Qp rfl _ _ _) rfl ?_
   exact⟨rfl,by rw[hw.out];exact H'.out,by rw[hw.out];exact ZaJ.refl _ _ _⟩
 ·obtain⟨_,_,hnc,hcm,_,_⟩:=hrest
  have hll:l.length<=9223372036854775807:=by unfold maxLen at hcm;omega
  clear hnc hcm
  have hI':Kp (ZaB w0 B S (.slice (some ⟨g,0,none⟩) l.length cap) l):=⟨hI⟩
  have hh:Kp _:=⟨I.out.hh⟩
  have hp:Kp _:=⟨I.out.hp⟩
  have hB:Kp _:=⟨λi z=>ZrQ (T:=T) (sm:=p.sm) I.out.eb i (y:=z)⟩
  have hg0:g<w0.heap.size:=(hI.1.lt g rfl).2
  replace hn:=Z_ hn
  obtain⟨m,hm⟩:∃m,l.length=m:=⟨_,rfl⟩
  rw[hm]at hll hI' ⊢
  replace hm:=Z_ hm
  replace hF:Kp (rnG (doe T p.ex p.sm) (l.drop 0) y=F):=⟨hF⟩
  replace H:=Z_ H
  replace L:=Z_ L
  replace Q:=Z_ Q
  clear hI I
  go_enter func28,ntmps28
  go_wp2_with fail
  go_loopw [4] (λiv wr=>∃(i:Nat) (z:Py),i<=m∧iv=.int .i64 i∧Kp (ZbM wr hb pb sb T z)∧Kp (PyB z)∧Kp (rnG (doe T p.ex p.sm) (l.drop i) z=F)∧Kp (ZaJ hb pb w wr)) (λiv _=>m-(intOf iv).toNat)
  case atStart=>exact⟨0,y,by omega,rfl,H,Q,hF,⟨ZaJ.refl _ _ _⟩⟩
  case round=>
   clear H Q hF
   obtain⟨i,z,him,rfl,H,Q,hF,ht⟩:=hrel
   have c4:=H.out.c4
   have hl2:=H.out.lt
   by_cases hi:i<m
   ·have hii:(i:Int)<(m:Int):=by omega
    cases ho:z.ou with
    | true=>
     have e:Kp (z=F):=⟨by rw[<-hF.out,ZmP _ ho]⟩
     rw[ho]at c4
     go_wp2_with fail
     first|go_end0|refine Qi (Qp rfl _ _ _) rfl ?_
     exact⟨rfl,by rw[<-e.out];exact H.out,ht.out⟩
    | false=>
     rw[ho]at c4
     have hil:i<l.length:=by rw[hm.out];exact hi
     have hmem:=hn.out l[i] (Ua hil)
     have Lr:Below w0.heap.size w0 wr:=L.out.trans (ht.out.below L.out.size hh.out hp.out)
     have hc0:w0.cell? ⟨g,i,none⟩=some (.int .i64 (l[i]:Nat)):=by
      have h:=hI'.out.1
      rw[hm.out]at h
      rw[h.cellAt i (by omega)]
      unfold itV
      rw[Ui,Qn hil]
      rfl
     have hc:wr.cell? ⟨g,i,none⟩=some (.int .i64 (l[i]:Nat)):=by rw[Lr.cell (p:=⟨g,i,none⟩) hg0];exact hc0
     have hgl:g<wr.heap.size:=Qq hg0 Lr.size
     have e2:rnG (doe T p.ex p.sm) (l.drop (i+1)) (doe T p.ex p.sm l[i] z)=F:=by
      rw[<-hF.out,List.drop_eq_getElem_cons hil]
      simp only[rnG]
      rw[if_neg (by rw[ho];simp)]
     have hC:=ih.out l[i] wr z hmem.1 hmem.2 H.out Lr Q.out
     have Q2:Kp _:=⟨hB.out l[i] z Q.out⟩
     generalize l[i]=n at *
     generalize doe T p.ex p.sm n z=z2 at *
     replace e2:=Z_ e2
     replace hC:=Z_ hC
     clear hc0 hF Lr hmem
     go_wp2_with fail
     refine hC.out.mono ?_
     rintro en w2 ⟨rfl,H2,t2⟩
     have t3:Kp (ZaJ hb pb w w2):=⟨ht.out.trans t2⟩
     replace H2:=Z_ H2
     clear t2 hc c4 hgl
     go_wp2_with fail
     go_roundw
     case rel=>exact⟨i+1,z2,by omega,by go_num,H2,Q2,e2,t3⟩
     case measure=>simp[intOf];omega
   ·have e:Kp (z=F):=⟨by rw[<-hF.out,List.drop_eq_nil_of_le (by rw[hm.out];omega)];rfl⟩
    have hii:¬(i:Int)<(m:Int):=by omega
    go_wp2_with fail
    first|go_end0|refine Qi (Qp rfl _ _ _) rfl ?_
    exact⟨rfl,by rw[<-e.out];exact H.out,ht.out⟩
theorem ZfC(y:Py):(payF y).lf<=y.lf:=by
 unfold payF
 split
 ·exact Qb _
 ·show y.lf-1<=y.lf;omega
theorem ZfD(T:Int->ZB)(ex:List Ex):∀(k e:Nat) (y:Py),(worF T ex k e y).1.lf<=y.lf
 | 0,e,y=>Qb _
 | k+1,e,y=>by
  simp only[worF]
  split
  ·exact Qb _
  ·rename_i x hx
   have h1:=ZfD T ex k x.l y
   have h2:=ZfD T ex k x.r (worF T ex k x.l y).1
   have h3:=ZfC (worF T ex k x.r (worF T ex k x.l y).1).1
   have h4:=ZfC y
   have h5:(ZaX T x (payF y)).1.lf=(payF y).lf:=by
    unfold ZaX
    split
    ·rfl
    ·split<;>rfl
   split
   ·split<;>(dsimp only;omega)
   ·split
    ·exact h4
    ·omega
theorem Zni{f:Nat->Py->Py}(hf:∀i y,(f i y).lf<=y.lf):∀(l:List Nat) (y:Py),(rnG f l y).lf<=y.lf
 | [],y=>Qb _
 | i::l,y=>by
  simp only[rnG]
  split
  ·exact Qb _
  ·exact Qg (Zni hf l _) (hf i y)
theorem Znj{w:Py->Py×Int}(hw:∀y,(w y).1.lf<=y.lf)(hb:∀y,(b y).lf<=y.lf):∀(j:Nat) (v:Int) (y:Py),(ZfL w b j v y).lf<=y.lf
 | 0,v,y=>Qb _
 | j+1,v,y=>by
  simp only[ZfL]
  split
  ·have h1:=Znj hw hb j (w (payF (b y))).2 (payF (w (payF (b y))).1)
   have h2:=ZfC (w (payF (b y))).1
   have h3:=hw (payF (b y))
   have h4:=ZfC (b y)
   have h5:=hb y
   omega
  ·exact Qb _
theorem Znk(T:Int->ZB)(ex:List Ex)(sm:List Sm):∀(k i:Nat) (y:Py),(ZfQ T ex sm k i y).lf<=y.lf
 | 0,i,y=>Qb _
 | k+1,i,y=>by
  have hr:=Zni (Znk T ex sm k)
  simp only[ZfQ]
  split
  ·exact Qb _
  ·rename_i x hx
   have h1:(wor T ex x.e y).1.lf<=y.lf:=ZfD T ex _ _ y
   have h2:=ZfC (wor T ex x.e y).1
   have h3:=hr x.el (payF (wor T ex x.e y).1)
   have h4:=hr x.bo (payF (wor T ex x.e y).1)
   have h5:=ZfC (rnG (ZfQ T ex sm k) x.bo (payF (wor T ex x.e y).1))
   have h6:=Znj (w:=wor T ex x.e) (b:=rnG (ZfQ T ex sm k) x.bo) (λy=>ZfD T ex _ _ y) (λy=>hr _ y) ((payF (wor T ex x.e y).1).lf+1) (wor T ex x.e y).2 (payF (wor T ex x.e y).1)
   repeat' split
   all_goals first|omega|(dsimp only;omega)
def muY(y:Py):Nat:=if y.ou=true then 0 else y.lf+1
theorem Zpv{w:Py->Py×Int}(hw:∀y,(w y).1.lf<=y.lf)(hb:∀y,(b y).lf<=y.lf)(h:y.ou=false):muY (payF (w (payF (b y))).1)<muY y:=by
 unfold muY
 rw[if_neg (show ¬y.ou=true by rw[h];simp)]
 cases h2:(payF (w (payF (b y))).1).ou with
 | true=>rw[if_pos rfl];omega
 | false=>
  rw[if_neg (by simp)]
  have h1:=ZmQ h2
  have h3:=hw (payF (b y))
  have h4:=ZfC (b y)
  have h5:=hb y
  omega
theorem Zik{w:Py->Py×Int}(hw:∀y,(w y).1.lf<=y.lf)(hb:∀y,(b y).lf<=y.lf):∀(j k:Nat) (v:Int) (y:Py),muY y<=j->muY y<=k->ZfL w b j v y=ZfL w b k v y
 | 0,k,v,y,h1,h2=>by
  have ho:y.ou=true:=by
   unfold muY at h1
   by_cases c:y.ou=true
   ·exact c
   ·rw[if_neg c]at h1;omega
  rw[Zbh 0 ho,Zbh k ho]
 | j+1,0,v,y,h1,h2=>by
  have ho:y.ou=true:=by
   unfold muY at h2
   by_cases c:y.ou=true
   ·exact c
   ·rw[if_neg c]at h2;omega
  rw[Zbh _ ho,Zbh 0 ho]
 | j+1,k+1,v,y,h1,h2=>by
  simp only[ZfL]
  by_cases c:v≠0∧y.ou=false
  ·rw[if_pos c,if_pos c]
   have:=Zpv hw hb c.2
   exact Zik hw hb j k _ _ (by omega) (by omega)
  ·rw[if_neg c,if_neg c]
theorem Znl(w0:World)(rb sb B:Nat)(s tb:ZB)(tp:Value)(p:Rs)(S:Nat->Value)(sv:List (Value×Value))(hb pb:Nat)(T:Int->ZB)(I:Kp (Zq5 w0 rb sb B s tb tp p S sv hb pb T))(i:Nat)(ih:Kp (ZsG w0 sb hb pb T p i))(w:World)(y:Py)(H:ZbM w hb pb sb T y)(L:Below w0.heap.size w0 w)(Q:PyB y)(x:Sm)(hx:p.sm[i]?=some x) :
  Calls prog 75 #[.pointer (some ⟨pb,0,none⟩),.int .i64 i] w λen w'=>en=.returned (.tuple #[])∧ZbM w' hb pb sb T (doe T p.ex p.sm i y)∧ZaJ hb pb w w':=by
 have hd:=Zgl (T:=T) I.out.os hx y
 dsimp only at hd
 obtain⟨F,hF⟩:∃F,doe T p.ex p.sm i y=F:=⟨_,rfl⟩
 rw[hF]at hd ⊢
 obtain⟨g,c,yy,hS1,hg,hyy,hI1,hI2,hc⟩:=I.out.h.stat hx
 have hn:i<p.sm.length:=(Ql.1 hx).1
 have hlt0:=I.out.h.lt
 have up:∀a:Addr,a.block<w0.heap.size->w.cell? a=w0.cell? a:=λa ha=>L.cell ha
 have c5:w.cell? ⟨sb,5,none⟩=some (.slice (some ⟨g,0,none⟩) p.sm.length c):=by rw[up _ hlt0,<-hS1];exact I.out.h.c 1 (by omega)
 obtain⟨y1,y2⟩:=yy
 obtain⟨p1,q1,ey1⟩:=Zb hI1.1
 obtain⟨p2,q2,ey2⟩:=Zb hI2.1
 have ey1:y1=.slice p1 x.bo.length q1:=ey1
 have ey2:y2=.slice p2 x.el.length q2:=ey2
 subst ey1
 subst ey2
 have d0:w.cell? ⟨g,i*7,none⟩=some (.int .u8 x.k):=(up _ hg).trans (hc 0 _ rfl)
 have d1:=(up ⟨g,i*7+1,none⟩ hg).trans (hc 1 _ rfl)
 have d2:=(up ⟨g,i*7+2,none⟩ hg).trans (hc 2 _ rfl)
 have d3:=(up ⟨g,i*7+3,none⟩ hg).trans (hc 3 _ rfl)
 have d4:=(up ⟨g,i*7+4,none⟩ hg).trans (hc 4 _ rfl)
 have d5:=(up ⟨g,i*7+5,none⟩ hg).trans (hc 5 _ rfl)
 have d6:=(up ⟨g,i*7+6,none⟩ hg).trans (hc 6 _ rfl)
 dsimp only at d0 d1 d2 d3 d4 d5 d6
 obtain⟨hxe,ob,oel⟩:=I.out.os i x hx
 have p0:=H.c0
 have hlt:=H.lt
 obtain⟨wx,hwx⟩:∃wx,w.alloc (.cells #[.int .u8 x.k,.int .i64 x.a,.int .i64 x.v,.int .i64 x.e,.slice p1 x.bo.length q1,.slice p2 x.el.length q2,.bool x.two] 123)=wx:=⟨_,rfl⟩
 have Ox:=own7 w (.int .u8 x.k) (.int .i64 x.a) (.int .i64 x.v) (.int .i64 x.e) (.slice p1 x.bo.length q1) (.slice p2 x.el.length q2) (.bool x.two) 123
 rw[hwx]at Ox
 have bx:Below w.heap.size w wx:=by rw[<-hwx];exact(Qh _ _).alloc (Qb _) _
 have Hx:=H.step bx
 have Lx:Below w0.heap.size w0 wx:=L.trans (bx.mono L.size)
 have hnm:(i:Int)<(p.sm.length:Int):=by omega
 have hgn:w.heap.size≠hb∧w.heap.size≠pb:=⟨λk=>by have:=H.h.lt;omega,by omega⟩
 have hWo:=λ(W:World) (z:Py) (h:ZbM W hb pb sb T z) (l:Below w0.heap.size w0 W) (q:PyB z)=>Zij w0 rb sb B s tb tp p S sv hb pb T I (x.e+1) x.e W z (by omega) hxe h l q
 have hWq:=λ(z:Py) (q:PyB z)=>Zng (T:=T) I.out.eb x.e q
 have hPa:=λ(W:World) (z:Py) (h:ZbM W hb pb sb T z) (q:PyB z)=>Zjt hb pb sb T z W h q
 have hR1:=λ(W:World) (z:Py) (h:ZbM W hb pb sb T z) (l:Below w0.heap.size w0 W) (q:PyB z)=>Zhi w0 rb sb B s tb tp p S sv hb pb T I i ih x.bo _ hI1 (λn hn2=>⟨ob n hn2,by have:=ob n hn2;omega⟩) W z h l q
 have hR2:=λ(W:World) (z:Py) (h:ZbM W hb pb sb T z) (l:Below w0.heap.size w0 W) (q:PyB z)=>Zhi w0 rb sb B s tb tp p S sv hb pb T I i ih x.el _ hI2 (λn hn2=>⟨oel n hn2,by have:=oel n hn2;omega⟩) W z h l q
 have hDq:=λ(z:Py) (q:PyB z)=>Zpu (T:=T) (sm:=p.sm) I.out.eb x.bo q
 have hle1:∀z:Py,(wor T p.ex x.e z).1.lf<=z.lf:=λz=>ZfD T p.ex _ _ z
 have hle2:∀z:Py,(does T p.ex p.sm x.bo z).lf<=z.lf:=λz=>Zni (λj y=>Znk T p.ex p.sm _ j y) x.bo z
 have hto:wor T p.ex x.e y=wor T p.ex x.e y:=rfl
 have hsb:=I.out.sb x (Qw hx)
 have n6:=I.out.n6
 have m8:=I.out.m8
 have hv:(x.k=61->0<=x.v∧x.v<8)∧(x.k=62->0<=x.v∧x.v<6)∧(x.k=61∨x.k=62∨x.k=63∨x.k=64):=by
  rcases hsb with d|d|d|d<;>omega
 have hC1:=hWo wx y Hx Lx Q
 have Q1:=hWq y Q
 have hh:=I.out.hh
 have hp:=I.out.hp
 generalize wor T p.ex x.e=wf at *
 generalize does T p.ex p.sm x.bo=bf at *
 generalize does T p.ex p.sm x.el=ef at *
 generalize hpe:wf y=pe at *
 have Q2:=ZfW Q1.1
 have hst:(payF pe.1).ou=false->(payF pe.1).st=pe.1.st+1∧(payF pe.1).m=pe.1.m:=Zpr
 have lg1:=Q1.1.lg
 have hPz:=λ(W:World) (h:ZbM W hb pb sb T pe.1)=>hPa W pe.1 h Q1.1
 generalize payF pe.1=z at *
 have f0:Kp (z.ou=true->F=z):=⟨λh=>by rw[hd,if_pos h]⟩
 have f1:Kp (z.ou=false->x.k=61->F={z with m:={z.m with va:=Go.Proofs.YtcnbifdlkalimabGreat.up z.m.va x.v pe.2}}):=⟨λh k=>by rw[hd,if_neg (by rw[h];simp),if_pos k]⟩
 have f2:Kp (z.ou=false->x.k=62->F={z with m:={z.m with lo:=Go.Proofs.YtcnbifdlkalimabGreat.up z.m.lo x.v (z.m.lo x.v++[pe.2])}}):=⟨λh k=>by rw[hd,if_neg (by rw[h];simp),if_neg (by omega),if_pos k]⟩
 have f3:Kp (z.ou=false->x.k=63->F=if pe.2=0 then ef z else if x.two=true then payF (bf z) else bf z):=⟨λh k=>by rw[hd,if_neg (by rw[h];simp),if_neg (by omega),if_neg (by omega),if_pos k]⟩
 have f4:Kp (z.ou=false->x.k=64->F=ZfL wf bf (z.lf+1) pe.2 z):=⟨λh k=>by rw[hd,if_neg (by rw[h];simp),if_neg (by omega),if_neg (by omega),if_neg (by omega)]⟩
 obtain⟨hv1,hv2,hv3⟩:=hv
 replace hv1:=Z_ hv1
 replace hv2:=Z_ hv2
 replace hv3:=Z_ hv3
 generalize x.k=kk at *
 generalize x.a=xa at *
 generalize x.v=v at *
 generalize x.e=xe at *
 generalize x.two=tw at *
 generalize x.bo.length=nb at *
 generalize x.el.length=ne at *
 generalize p.sm.length=m at *
 replace Ox:=Z_ Ox
 replace bx:=Z_ bx
 replace Lx:=Z_ Lx
 replace hwx:=Z_ hwx
 replace hC1:=Z_ hC1
 replace hPz:=Z_ hPz
 replace hPa:=Z_ hPa
 replace hR1:=Z_ hR1
 replace hR2:=Z_ hR2
 replace hWo:=Z_ hWo
 replace hWq:=Z_ hWq
 replace hDq:=Z_ hDq
 replace hle1:=Z_ hle1
 replace hle2:=Z_ hle2
 replace hgn:=Z_ hgn
 replace hh:=Z_ hh
 replace hp:=Z_ hp
 replace Q1:=Z_ Q1
 replace Q2:=Z_ Q2
 replace hst:=Z_ hst
 replace lg1:=Z_ lg1
 clear H Hx hx hc hS1 hyy hI1 hI2 ih hd hF I Q up L hsb n6 m8 hxe ob oel hpe hto
 go_enter func75,ntmps75
 go_wp2_with fail
 rw[hwx.out]
 refine hC1.out.mono ?_
 rintro en w1 ⟨rfl,H1,t1⟩
 obtain⟨gx,hgx⟩:∃gx,w.heap.size=gx:=⟨_,rfl⟩
 have O1:=t1.own Ox.out hgn.out.1 hgn.out.2
 have hgn2:Kp (gx≠hb∧gx≠pb):=⟨by rw[<-hgx];exact hgn.out⟩
 rw[hgx]at O1
 simp only[hgx]
 clear d0 d1 d2 d3 d4 d5 d6 c5 hC1 p0 hgn
 replace hgx:=Z_ hgx
 replace t1:=Z_ t1
 replace H1:=Z_ H1
 replace O1:=Z_ O1
 go_wp2_with fail
 refine(hPz.out _ H1.out).mono ?_
 rintro en w2 ⟨rfl,H2,t2⟩
 have t3:Kp (ZaJ hb pb w w2):=⟨(ZaJ.of bx.out).trans (t1.out.trans t2)⟩
 have L2:Kp (Below w0.heap.size w0 w2):=⟨Lx.out.trans ((t1.out.trans t2).below Lx.out.size hh.out hp.out)⟩
 have O2:=t2.own O1.out hgn2.out.1 hgn2.out.2
 have x0:=O2.c 0 _ rfl
 have x2:=O2.c 2 _ rfl
 have x3:=O2.c 3 _ rfl
 have x4:=O2.c 4 _ rfl
 have x5:=O2.c 5 _ rfl
 have x6:=O2.c 6 _ rfl
 replace O2:=Z_ O2
 clear t2 t1 hPz H1 O1 Lx bx Ox hwx
 cases hz:z.ou with
 | true=>
  have e:Kp (F=z):=⟨f0.out hz⟩
  replace H2:=Z_ H2
  go_wp2_with fail
  first|go_end0|refine Qi (Qp rfl _ _ _) rfl ?_
  exact⟨rfl,by rw[e.out];exact H2.out,t3.out⟩
 | false=>
  rcases hv3.out with rfl|rfl|rfl|rfl
  ·have e:=f1.out hz rfl
   obtain⟨v0,v8⟩:=hv1.out rfl
   obtain⟨l0,rfl⟩:∃l0:Nat,v=l0:=⟨v.toNat,by omega⟩
   have hl8:l0<8:=by omega
   have q1:=H2.c1
   have q2:=H2.h.va l0 hl8
   have q3:=H2.h.f (12+l0) (by omega)
   have hl3:=H2.lt
   have hl4:=H2.h.lt
   have Hs:=H2.hand ((But.refl hb _ w2).setCell (12+l0) (.int .i64 pe.2)) (H2.h.setVa hl8 pe.2)
   rw[<-e]at Hs
   replace Hs:=Z_ Hs
   have ts:Kp (ZaJ hb pb w (w2.setCell ⟨hb,12+l0,none⟩ (.int .i64 pe.2))):=⟨t3.out.setH _ _⟩
   clear e f0 f1 f2 f3 f4 H2 hv1 hv2 hv3 hPa hR1 hR2 hWo hWq hDq hle1 hle2
   go_wp2_with fail
   go_region
   all_goals
    go_wp2_with fail
    first|go_end0|refine Qi (Qp rfl _ _ _) rfl ?_
    exact⟨rfl,Hs.out.step (Qh _ _).drew,ts.out.trans (ZaJ.of (Qh _ _).drew)⟩
  ·have e:=f2.out hz rfl
   obtain⟨v0,v6⟩:=hv2.out rfl
   obtain⟨l0,rfl⟩:∃l0:Nat,v=l0:=⟨v.toNat,by omega⟩
   have hl6:l0<6:=by omega
   have q1:=H2.c1
   have hl3:=H2.lt
   have hT:=λ(W:World) (h:ZV W hb T z.m)=>Zok hb T z.m l0 pe.2 W h hl6 Q1.out.2.1 Q1.out.2.2 (by have h1:=Q2.out.lg l0;have h2:=Q2.out.sl;omega)
   replace hT:=Z_ hT
   replace e:=Z_ e
   replace H2:=Z_ H2
   clear f0 f1 f2 f3 f4 hv1 hv2 hv3 hPa hR1 hR2 hWo hWq hDq hle1 hle2
   go_wp2_with fail
   go_region_with ((go_at_call 144;refine(hT.out _ (H2.out.h.step (Qh _ _).drew)).mono ?_;rintro en w4 ⟨rfl,h4,b4⟩))
   all_goals
    go_wp2_with fail
    first|go_end0|refine Qi (Qp rfl _ _ _) rfl ?_
    have Hd:=H2.out.step (w1:=_) (Qh _ _).drew
    exact⟨rfl,by rw[e.out];exact Hd.hand b4 h4,t3.out.trans ((ZaJ.of (Qh _ _).drew).trans (ZaJ.but b4))⟩
  ·have e:=f3.out hz rfl
   clear f0 f1 f2 f3 f4 hv1 hv2 hv3 hWo hWq hle1 hle2
   by_cases h0:pe.2=0
   ·rw[if_pos h0]at e
    replace e:=Z_ e
    have hC:=hR2.out w2 z H2 L2.out Q2.out
    replace hC:=Z_ hC
    rw[h0]
    clear hR1 hR2 h0
    go_wp2_with fail
    refine hC.out.mono ?_
    rintro en w4 ⟨rfl,H4,t4⟩
    have t5:Kp (ZaJ hb pb w w4):=⟨t3.out.trans t4⟩
    replace H4:=Z_ H4
    go_wp2_with fail
    first|go_end0|refine Qi (Qp rfl _ _ _) rfl ?_
    exact⟨rfl,by rw[e.out];exact H4.out,t5.out⟩
   ·rw[if_neg h0]at e
    have hk:(pe.2==0)=false:=Qf.2 h0
    have hC:=hR1.out w2 z H2 L2.out Q2.out
    replace hC:=Z_ hC
    have Q4:Kp (PyB (bf z)):=⟨hDq.out z Q2.out⟩
    clear hR1 hR2
    cases tw with
    | false=>
     rw[if_neg (by simp)]at e
     replace e:=Z_ e
     go_wp2_with fail
     refine hC.out.mono ?_
     rintro en w4 ⟨rfl,H4,t4⟩
     have t5:Kp (ZaJ hb pb w w4):=⟨t3.out.trans t4⟩
     have y6:=(t4.own O2.out hgn2.out.1 hgn2.out.2).c 6 _ rfl
     replace H4:=Z_ H4
     clear t4 x0 x2 x3 x4 x5 x6
     go_wp2_with fail
     first|go_end0|refine Qi (Qp rfl _ _ _) rfl ?_
     exact⟨rfl,by rw[e.out];exact H4.out,t5.out⟩
    | true=>
     rw[if_pos rfl]at e
     replace e:=Z_ e
     go_wp2_with fail
     refine hC.out.mono ?_
     rintro en w4 ⟨rfl,H4,t4⟩
     have t5:Kp (ZaJ hb pb w w4):=⟨t3.out.trans t4⟩
     have y6:=(t4.own O2.out hgn2.out.1 hgn2.out.2).c 6 _ rfl
     have hP:=hPa.out w4 (bf z) H4 Q4.out
     replace hP:=Z_ hP
     clear t4 x0 x2 x3 x4 x5 x6
     go_wp2_with fail
     refine hP.out.mono ?_
     rintro en w5 ⟨rfl,H5,t6⟩
     have t7:Kp (ZaJ hb pb w w5):=⟨t5.out.trans t6⟩
     replace H5:=Z_ H5
     clear t6
     go_wp2_with fail
     first|go_end0|refine Qi (Qp rfl _ _ _) rfl ?_
     exact⟨rfl,by rw[e.out];exact H5.out,t7.out⟩
  ·have e:=f4.out hz rfl
   have hmu:muY z=z.lf+1:=by unfold muY;rw[if_neg (by rw[hz];simp)]
   rw[<-hmu]at e
   replace e:Kp (ZfL wf bf (muY z) pe.2 z=F):=⟨e.symm⟩
   have hve:Kp (0<=pe.2∧pe.2<=255):=⟨Q1.out.2⟩
   replace H2:=Z_ H2
   clear f0 f1 f2 f3 f4 hv1 hv2 hv3 hR2 hmu hz x2 x3 x4 x5 x6
   go_wp2_with fail
   clear x0
   go_loopg [5] (muY z) (λgm vv wr=>∃(v1:Int) (yy:Py),vv=.int .i64 v1∧Kp (0<=v1∧v1<=255)∧Kp (ZbM wr hb pb sb T yy)∧Kp (PyB yy)∧Kp (ZfL wf bf (muY yy) v1 yy=F)∧Kp (ZaJ hb pb w wr)∧Kp (Below w0.heap.size w0 wr)∧Kp (Own wr gx [.int .u8 64,.int .i64 xa,.int .i64 v,.int .i64 xe,.slice p1 nb q1,.slice p2 ne q2,.bool tw])∧Kp (gm=muY yy))
   case atStart=>exact⟨pe.2,z,rfl,hve,H2,Q2,e,t3,L2,O2,⟨rfl⟩⟩
   case round=>
    clear H2 Q2 e t3 L2 O2 hve
    obtain⟨v1,yy,rfl,hv1,H3,Q3,e3,t3,L3,O3,hgm⟩:=hrel
    have c4:=H3.out.c4
    have hl3:=H3.out.lt
    obtain⟨a0,a9⟩:=hv1.out
    by_cases h0:v1=0
    ·subst h0
     have e4:Kp (yy=F):=⟨by
      rw[<-e3.out]
      cases muY yy with
      | zero=>rfl
      | succ j=>simp only[ZfL];rw[if_neg (λk=>k.1 rfl)]⟩
     clear e3
     go_wp2_with fail
     first|go_end0|refine Qi (Qp rfl _ _ _) rfl ?_
     exact⟨rfl,by rw[<-e4.out];exact H3.out,t3.out⟩
    ·have hk:(v1 != 0)=true:=QO.2 h0
     cases ho:yy.ou with
     | true=>
      have e4:Kp (yy=F):=⟨by rw[<-e3.out,Zbh _ ho]⟩
      rw[ho]at c4
      clear e3
      go_wp2_with fail
      first|go_end0|refine Qi (Qp rfl _ _ _) rfl ?_
      exact⟨rfl,by rw[<-e4.out];exact H3.out,t3.out⟩
     | false=>
      rw[ho]at c4
      have hmu:muY yy=yy.lf+1:=by unfold muY;rw[if_neg (by rw[ho];simp)]
      have hlt2:=Zpv (w:=wf) (b:=bf) hle1.out hle2.out ho
      have e4:ZfL wf bf (muY (payF (wf (payF (bf yy))).1)) (wf (payF (bf yy))).2 (payF (wf (payF (bf yy))).1)=F:=by
       rw[<-e3.out,hmu]
       simp only[ZfL]
       rw[if_pos ⟨h0,ho⟩]
       exact Zik hle1.out hle2.out _ _ _ _ (Qb _) (by omega)
      have x3:=O3.out.c 3 _ rfl
      have x4:=O3.out.c 4 _ rfl
      have K1:=hR1.out wr yy H3.out L3.out Q3.out
      have Q4:PyB (bf yy):=hDq.out yy Q3.out
      have K2:=λW (h:ZbM W hb pb sb T (bf yy))=>hPa.out W (bf yy) h Q4
      generalize bf yy=yb at *
      have Q5:=ZfW Q4
      generalize payF yb=yc at *
      have K3:=λW (h:ZbM W hb pb sb T yc) (l:Below w0.heap.size w0 W)=>hWo.out W yc h l Q5
      have Q6:=hWq.out yc Q5
      generalize wf yc=yd at *
      have K4:=λW (h:ZbM W hb pb sb T yd.1)=>hPa.out W yd.1 h Q6.1
      have Q7:=ZfW Q6.1
      generalize payF yd.1=yf at *
      replace K1:=Z_ K1
      replace K2:=Z_ K2
      replace K3:=Z_ K3
      replace K4:=Z_ K4
      replace Q6:=Z_ Q6
      replace Q7:=Z_ Q7
      replace e4:=Z_ e4
      replace hlt2:=Z_ hlt2
      clear e3 hmu Q4 Q5 hR1 hDq hPa hWo hWq hle1 hle2 ho Q3
      go_wp2_with fail
      refine K1.out.mono ?_
      rintro en u1 ⟨rfl,H4,s1⟩
      have s1':Kp (ZaJ hb pb w u1):=⟨t3.out.trans s1⟩
      have L4:Kp (Below w0.heap.size w0 u1):=⟨L3.out.trans (s1.below L3.out.size hh.out hp.out)⟩
      have O4:Kp _:=⟨s1.own O3.out hgn2.out.1 hgn2.out.2⟩
      replace H4:=Z_ H4
      clear s1 t3 L3 O3 H3 x3 x4 c4 K1
      go_wp2_with fail
      refine(K2.out _ H4.out).mono ?_
      rintro en u2 ⟨rfl,H5,s2⟩
      have s2':Kp (ZaJ hb pb w u2):=⟨s1'.out.trans s2⟩
      have L5:Kp (Below w0.heap.size w0 u2):=⟨L4.out.trans (s2.below L4.out.size hh.out hp.out)⟩
      have O5:=s2.own O4.out hgn2.out.1 hgn2.out.2
      have x3:=O5.c 3 _ rfl
      replace O5:=Z_ O5
      replace H5:=Z_ H5
      clear s2 s1' L4 O4 H4 K2
      go_wp2_with fail
      refine(K3.out _ H5.out L5.out).mono ?_
      rintro en u3 ⟨rfl,H6,s3⟩
      have s3':Kp (ZaJ hb pb w u3):=⟨s2'.out.trans s3⟩
      have L6:Kp (Below w0.heap.size w0 u3):=⟨L5.out.trans (s3.below L5.out.size hh.out hp.out)⟩
      have O6:Kp _:=⟨s3.own O5.out hgn2.out.1 hgn2.out.2⟩
      replace H6:=Z_ H6
      clear s3 s2' L5 O5 H5 x3 K3
      go_wp2_with fail
      refine(K4.out _ H6.out).mono ?_
      rintro en u4 ⟨rfl,H7,s4⟩
      have s4':Kp (ZaJ hb pb w u4):=⟨s3'.out.trans s4⟩
      have L7:Kp (Below w0.heap.size w0 u4):=⟨L6.out.trans (s4.below L6.out.size hh.out hp.out)⟩
      have O7:Kp _:=⟨s4.own O6.out hgn2.out.1 hgn2.out.2⟩
      replace H7:=Z_ H7
      have hv7:Kp (0<=yd.2∧yd.2<=255):=⟨Q6.out.2⟩
      clear s4 s3' L6 O6 H6 K4 Q6
      go_wp2_with fail
      go_roundg (muY yf)
      case rel=>exact⟨yd.2,yf,rfl,hv7,H7,Q7,e4,s4',L7,O7,⟨rfl⟩⟩
      case measure=>rw[hgm.out];exact hlt2.out
theorem Zku(w0:World)(rb sb B:Nat)(s tb:ZB)(tp:Value)(p:Rs)(S:Nat->Value)(sv:List (Value×Value))(hb pb:Nat)(T:Int->ZB)(I:Kp (Zq5 w0 rb sb B s tb tp p S sv hb pb T)):∀k,ZsG w0 sb hb pb T p k
 | 0=>λi w y hk=>by omega
 | k+1=>λi w y hk hi H L Q=>Znl w0 rb sb B s tb tp p S sv hb pb T I i ⟨λf w y hf=>Zku w0 rb sb B s tb tp p S sv hb pb T I k f w y (by omega)⟩ w y H L Q _ (Qn hi)
end Go.Proofs.YtcnbifdlkalimabGreat
