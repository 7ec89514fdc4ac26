import Derived.Test.YtcnbifdlkalimabGreatWayB
import Derived.Test.YtcnbifdlkalimabGreatLabA
import Derived.Test.YtcnbifdlkalimabGreatPlainR
import Derived.Maps.AppendAt
import Derived.Deep.RegionLaw
import Derived.Deep.RegionHeld
import Derived.Test.YtcnbifdlkalimabGreatLatM
import Derived.Laws.IdiomStrings
import Derived.Laws.BytesArg
import Derived.Test.YtcnbifdlkalimabGreatPrg5
import Derived.Laws.OwnMore
/- Lemmas for the statement Means; their conditions stand in each. -/
namespace Go.Proofs.YtcnbifdlkalimabGreat
open Go.RowKit Go.Proofs.Tryz
set_option linter.unusedVariables false
set_option maxRecDepth 100000
variable{m:Hnd}{n:Int}{T:Int->ZB}{xs:List Value}{b g k p:Nat}{S:Nat->Value}{f:Nat->ZB}{x:Value}{w w1:World}{c t v:ZB}
structure ZeB(w:World)(b:Nat)(lo:Int->List Int)(S:Nat->Value):Prop where
 c:∀j:Nat,j<6->w.cell? ⟨b,34+j,none⟩=some (S j)
 o:∀j:Nat,j<6->w.ownsRow (b+1) 5 1 (S j) (lo j).length ((lo j).map (Value.int .u8))
 d:∀i j:Nat,i<6->j<6->i≠j->(S i).ownBlock=none∨(S i).ownBlock≠(S j).ownBlock
structure YB(w:World)(b:Nat)(n:Int)(t v c:ZB)(T:Int->ZB)(m:Hnd):Prop where
 lt:b<w.heap.size
 c0:w.cell? ⟨b,0,none⟩=some (.int .i64 n)
 c1:w.cell? ⟨b,1,none⟩=some (.string t)
 c2:w.cell? ⟨b,2,none⟩=some (.string v)
 c3:w.cell? ⟨b,3,none⟩=some (.string c)
 tp:∀j:Nat,j<6->w.cell? ⟨b,4+j,none⟩=some (.string (T j))
 pl:w.cell? ⟨b,10,none⟩=some (.int .i64 m.pl)
 st:∀j:Nat,j<8->w.cell? ⟨b,11+j,none⟩=some (.int .i64 (m.st j))
 sp:w.cell? ⟨b,19,none⟩=some (.int .i64 m.sp)
 va:∀j:Nat,j<8->w.cell? ⟨b,20+j,none⟩=some (.int .i64 (m.va j))
 po:∀j:Nat,j<6->w.cell? ⟨b,28+j,none⟩=some (.int .i64 (min (m.po j) (T j).size:Nat))
 lg:∃S,ZeB w b m.lo S
 f:∀j:Nat,j<40->w.frozen? ⟨b,j,none⟩=false
theorem Zg2{w':World}{B:Nat}{e:TypeId}{v:Value}(h:w.ownsRow B e 1 v k xs)(hb:Below w.heap.size w w'):w'.ownsRow B e 1 v k xs:=by
 refine⟨h.1,?_⟩
 rcases h.2 with hn|⟨g,cap,cur,rfl,hbb,hgg,rest⟩
 ·exact .inl hn
 ·exact .inr ⟨g,cap,cur,rfl,hbb,by rw[hb.block g (Ug.1 hgg).1];exact hgg,rest⟩
theorem Zji{e:TypeId}{v:Value}{n:Nat}(h:w.ownsRow (b+1) e 1 v n xs):(w.setCell ⟨b,k,none⟩ x).ownsRow (b+1) e 1 v n xs:=by
 refine⟨h.1,?_⟩
 rcases h.2 with hn|⟨g,cap,cur,rfl,hbb,hgg,rest⟩
 ·exact .inl hn
 ·refine .inr ⟨g,cap,cur,rfl,hbb,?_,rest⟩
  have:=((But.refl b w.heap.size w).setCell k x).block g (Ug.1 hgg).1 (by omega)
  rw[this];exact hgg
theorem ZeB.step{lo:Int->List Int}(H:ZeB w b lo S)(hlt:b<w.heap.size)(hb:Below w.heap.size w w1):ZeB w1 b lo S:=
 ⟨λj hj=>by rw[hb.cell (p:=⟨b,34+j,none⟩) hlt];exact H.c j hj,λj hj=>Zg2 (H.o j hj) hb,H.d⟩
theorem YB.step(H:YB w b n t v c T m)(hb:Below w.heap.size w w1):YB w1 b n t v c T m:=by
 have key:∀k:Nat,w1.cell? ⟨b,k,none⟩=w.cell? ⟨b,k,none⟩:=λk=>hb.cell (p:=⟨b,k,none⟩) H.lt
 obtain⟨S,hS⟩:=H.lg
 exact⟨Qq H.lt hb.size,(key _).trans H.c0,(key _).trans H.c1,(key _).trans H.c2,(key _).trans H.c3,λj hj=>(key _).trans (H.tp j hj),(key _).trans H.pl,λj hj=>(key _).trans (H.st j hj),(key _).trans H.sp,λj hj=>(key _).trans (H.va j hj),λj hj=>(key _).trans (H.po j hj),⟨S,hS.step H.lt hb⟩,λj hj=>by rw[hb.frozen (p:=⟨b,j,none⟩) H.lt];exact H.f j hj⟩
theorem ZeB.set{lo:Int->List Int}(H:ZeB w b lo S)(hk:k<34):ZeB (w.setCell ⟨b,k,none⟩ x) b lo S:=
 ⟨λj hj=>by rw[ZL _ _ _ _ _ (by omega)];exact H.c j hj,λj hj=>Zji (H.o j hj),H.d⟩
theorem YB.setPl(H:YB w b n t v c T m)(y:Int):YB (w.setCell ⟨b,10,none⟩ (.int .i64 y)) b n t v c T {m with pl:=y}:=by
 obtain⟨S,hS⟩:=H.lg
 have key:∀k:Nat,k≠10->(w.setCell ⟨b,10,none⟩ (.int .i64 y)).cell? ⟨b,k,none⟩=w.cell? ⟨b,k,none⟩:=λk hk=>ZL _ _ _ _ _ (by omega)
 exact⟨by simpa using H.lt,(key _ (by omega)).trans H.c0,(key _ (by omega)).trans H.c1,(key _ (by omega)).trans H.c2,(key _ (by omega)).trans H.c3,λj hj=>(key _ (by omega)).trans (H.tp j hj),World.cell?_setCell_same _ _ _ H.pl,λj hj=>(key _ (by omega)).trans (H.st j hj),(key _ (by omega)).trans H.sp,λj hj=>(key _ (by omega)).trans (H.va j hj),λj hj=>(key _ (by omega)).trans (H.po j hj),⟨S,hS.set (by omega)⟩,λj hj=>by rw[World.frozen?_setCell];exact H.f j hj⟩
theorem YB.setSp(H:YB w b n t v c T m)(y:Int):YB (w.setCell ⟨b,19,none⟩ (.int .i64 y)) b n t v c T {m with sp:=y}:=by
 obtain⟨S,hS⟩:=H.lg
 have key:∀k:Nat,k≠19->(w.setCell ⟨b,19,none⟩ (.int .i64 y)).cell? ⟨b,k,none⟩=w.cell? ⟨b,k,none⟩:=λk hk=>ZL _ _ _ _ _ (by omega)
 exact⟨by simpa using H.lt,(key _ (by omega)).trans H.c0,(key _ (by omega)).trans H.c1,(key _ (by omega)).trans H.c2,(key _ (by omega)).trans H.c3,λj hj=>(key _ (by omega)).trans (H.tp j hj),(key _ (by omega)).trans H.pl,λj hj=>(key _ (by omega)).trans (H.st j hj),World.cell?_setCell_same _ _ _ H.sp,λj hj=>(key _ (by omega)).trans (H.va j hj),λj hj=>(key _ (by omega)).trans (H.po j hj),⟨S,hS.set (by omega)⟩,λj hj=>by rw[World.frozen?_setCell];exact H.f j hj⟩
theorem YB.setSt(H:YB w b n t v c T m)(hp:p<8)(y:Int):YB (w.setCell ⟨b,11+p,none⟩ (.int .i64 y)) b n t v c T {m with st:=up m.st p y}:=by
 obtain⟨S,hS⟩:=H.lg
 have key:∀k:Nat,k≠11+p->(w.setCell ⟨b,11+p,none⟩ (.int .i64 y)).cell? ⟨b,k,none⟩=w.cell? ⟨b,k,none⟩:=λk hk=>ZL _ _ _ _ _ (by omega)
 refine⟨by simpa using H.lt,(key _ (by omega)).trans H.c0,(key _ (by omega)).trans H.c1,(key _ (by omega)).trans H.c2,(key _ (by omega)).trans H.c3,λj hj=>(key _ (by omega)).trans (H.tp j hj),(key _ (by omega)).trans H.pl,λj hj=>?_,(key _ (by omega)).trans H.sp,λj hj=>(key _ (by omega)).trans (H.va j hj),λj hj=>(key _ (by omega)).trans (H.po j hj),⟨S,hS.set (by omega)⟩,λj hj=>by rw[World.frozen?_setCell];exact H.f j hj⟩
 by_cases e:j=p
 ·subst e
  rw[Qk _ _ _ (H.st j hj)]
  show _=some (Value.int .i64 (up m.st (j:Int) y j))
  rw[Zcq]
 ·rw[key _ (by omega)]
  show _=some (Value.int .i64 (up m.st (p:Int) y j))
  rw[Zcf (by omega)]
  exact H.st j hj
theorem YB.setVa(H:YB w b n t v c T m)(hp:p<8)(y:Int):YB (w.setCell ⟨b,20+p,none⟩ (.int .i64 y)) b n t v c T {m with va:=up m.va p y}:=by
 obtain⟨S,hS⟩:=H.lg
 have key:∀k:Nat,k≠20+p->(w.setCell ⟨b,20+p,none⟩ (.int .i64 y)).cell? ⟨b,k,none⟩=w.cell? ⟨b,k,none⟩:=λk hk=>ZL _ _ _ _ _ (by omega)
 refine⟨by simpa using H.lt,(key _ (by omega)).trans H.c0,(key _ (by omega)).trans H.c1,(key _ (by omega)).trans H.c2,(key _ (by omega)).trans H.c3,λj hj=>(key _ (by omega)).trans (H.tp j hj),(key _ (by omega)).trans H.pl,λj hj=>(key _ (by omega)).trans (H.st j hj),(key _ (by omega)).trans H.sp,λj hj=>?_,λj hj=>(key _ (by omega)).trans (H.po j hj),⟨S,hS.set (by omega)⟩,λj hj=>by rw[World.frozen?_setCell];exact H.f j hj⟩
 by_cases e:j=p
 ·subst e
  rw[Qk _ _ _ (H.va j hj)]
  show _=some (Value.int .i64 (up m.va (j:Int) y j))
  rw[Zcq]
 ·rw[key _ (by omega)]
  show _=some (Value.int .i64 (up m.va (p:Int) y j))
  rw[Zcf (by omega)]
  exact H.va j hj
theorem YB.setPo(H:YB w b n t v c T m)(hp:p<6)(y k:Nat)(hy:min y (T p).size=k):YB (w.setCell ⟨b,28+p,none⟩ (.int .i64 k)) b n t v c T {m with po:=up m.po p y}:=by
 obtain⟨S,hS⟩:=H.lg
 have key:∀i:Nat,i≠28+p->(w.setCell ⟨b,28+p,none⟩ (.int .i64 k)).cell? ⟨b,i,none⟩=w.cell? ⟨b,i,none⟩:=λk hk=>ZL _ _ _ _ _ (by omega)
 refine⟨by simpa using H.lt,(key _ (by omega)).trans H.c0,(key _ (by omega)).trans H.c1,(key _ (by omega)).trans H.c2,(key _ (by omega)).trans H.c3,λj hj=>(key _ (by omega)).trans (H.tp j hj),(key _ (by omega)).trans H.pl,λj hj=>(key _ (by omega)).trans (H.st j hj),(key _ (by omega)).trans H.sp,λj hj=>(key _ (by omega)).trans (H.va j hj),λj hj=>?_,⟨S,hS.set (by omega)⟩,λj hj=>by rw[World.frozen?_setCell];exact H.f j hj⟩
 by_cases e:j=p
 ·subst e
  rw[Qk _ _ _ (H.po j hj)]
  show _=some (Value.int .i64 (min (up m.po (j:Int) y j) (T j).size:Nat))
  rw[Zcq,hy]
 ·rw[key _ (by omega)]
  show _=some (Value.int .i64 (min (up m.po (p:Int) y j) (T j).size:Nat))
  rw[Zcf (by omega)]
  exact H.po j hj
theorem YB.over(H:YB w b n t v c T m)(hs:(T p).size<=m.po p):YB w b n t v c T {m with po:=up m.po p (m.po p+1)}:=by
 refine⟨H.lt,H.c0,H.c1,H.c2,H.c3,H.tp,H.pl,H.st,H.sp,H.va,λj hj=>?_,H.lg,H.f⟩
 rw[H.po j hj]
 show _=some (Value.int .i64 (min (up m.po (p:Int) (m.po p+1) j) (T j).size:Nat))
 by_cases e:(j:Int)=p
 ·have e2:j=p:=by omega
  subst e2
  rw[Zcq]
  congr 3
  omega
 ·rw[Zcf e]
set_option maxHeartbeats 6400000
theorem ZdJ(b:Nat)(n:Int)(t v c:ZB)(T:Int->ZB)(m:Hnd)(x:Int)(w:World)(H:YB w b n t v c T m)(h0:0<=m.sp)(h8:m.sp<8) :
  Calls prog 129 #[.pointer (some ⟨b,0,none⟩),.int .i64 x] w λe w'=>e=.returned (.tuple #[])∧YB w' b n t v c T {m with sp:=m.sp+1,st:=up m.st m.sp x}∧Below b w w':=by
 obtain⟨p,hp⟩:∃p:Nat,m.sp=p:=⟨m.sp.toNat,by omega⟩
 have hp8:p<8:=by omega
 have a0:=H.sp
 have a1:=H.st p hp8
 have f0:=H.f 19 (by omega)
 have f1:=H.f (11+p) (by omega)
 rw[hp]at a0
 have H1:=H.setSt hp8 x
 have a2:(w.setCell ⟨b,11+p,none⟩ (.int .i64 x)).cell? ⟨b,19,none⟩=some (.int .i64 p):=by rw[<-hp];exact H1.sp
 have f2:=H1.f 19 (by omega)
 have H2:=H1.setSp (p+1)
 have hB:Below b w ((w.setCell ⟨b,11+p,none⟩ (.int .i64 x)).setCell ⟨b,19,none⟩ (.int .i64 (p+1))):=((Qh b w).setCell (Qb _) _).setCell (Qb _) _
 replace H2:Kp (YB ((w.setCell ⟨b,11+p,none⟩ (.int .i64 x)).setCell ⟨b,19,none⟩ (.int .i64 (p+1))) b n t v c T {m with sp:=m.sp+1,st:=up m.st m.sp x}):=⟨by rw[hp];exact H2⟩
 have hpi:(p:Int)<8:=by omega
 clear H H1 hp h0 h8
 go_enter func129,ntmps129
 go_wp2_with fail
 go_region
 all_goals
  go_wp2
  first|go_end0|refine Qi (Qp rfl _ _ _) rfl ?_
  exact⟨rfl,H2.out.step (Qh _ _).drew,hB.drew⟩
theorem Zfh(b:Nat)(n:Int)(t v c:ZB)(T:Int->ZB)(m:Hnd)(w:World)(H:YB w b n t v c T m)(h0:1<=m.sp)(h8:m.sp<=8) :
  Calls prog 133 #[.pointer (some ⟨b,0,none⟩)] w λe w'=>e=.returned (.int .i64 (m.st (m.sp-1)))∧YB w' b n t v c T {m with sp:=m.sp-1}∧Below b w w':=by
 obtain⟨p,hp⟩:∃p:Nat,m.sp=p+1:=⟨(m.sp-1).toNat,by omega⟩
 have hp8:p<8:=by omega
 have a0:=H.sp
 have f0:=H.f 19 (by omega)
 rw[hp]at a0
 have H1:=H.setSp p
 have a1:=H1.st p hp8
 have a2:=H1.sp
 have hB:Below b w (w.setCell ⟨b,19,none⟩ (.int .i64 p)):=(Qh b w).setCell (Qb _) _
 have e1:m.sp-1=p:=by omega
 rw[e1]
 obtain⟨x,hx⟩:∃x,m.st p=x:=⟨_,rfl⟩
 have a1':(w.setCell ⟨b,19,none⟩ (.int .i64 p)).cell? ⟨b,11+p,none⟩=some (.int .i64 x):=by rw[<-hx];exact a1
 have a2':(w.setCell ⟨b,19,none⟩ (.int .i64 p)).cell? ⟨b,19,none⟩=some (.int .i64 p):=a2
 rw[hx]
 replace H1:=Z_ H1
 have hpi:(p:Int)<8:=by omega
 have hp1:(p:Int)+1-1=p:=by omega
 clear H hp h0 h8 a1 a2 e1 hx
 go_enter func133,ntmps133
 go_wp2_with fail
 go_region
 all_goals
  go_wp2
  go_ret
  exact⟨rfl,H1.out.step (Qh _ _).drew,hB.drew⟩
theorem ZfU{P:Program}{ops:Array Oper}{o:Oper}{a:Act}{w:World}{K:Act->World->Prop}{Q:Exit->Act->World->Prop}{E:Prop}
  (hgd:o.guard=none) (s x:Operand) (t:TypeId) (ho:o.op=Op.call {callee:=Callee.builtin Builtin.append,args:=#[s,x],argTypes:=#[t,t]})
  (base:Nat) (e:TypeId) (i:TypeInfo) (z:Value) (bytes:Nat) (ht:P.underlying t=some (.slice e)) (hi:P.info? e=some i) (hz:i.zero=some z)
  (hsize:i.size=1) (hby:i.bytes=bytes) (hzs:z.cells.size=1)
  (v:Value) (n:Nat) (xs:List Value) (hs:a.eval s=v) (hown:w.ownsRow base e 1 v n xs)
  (ad:Addr) (u:Value) (hx:a.eval x=.slice (some ad) 1 1) (hu:w.cell? (ad.add 0)=some u) (h1:u.oneCell'=true)
  (h63:n+1<=maxLen) (hbytes:(n+1)*bytes<=140737488355328) (hbase:base<=w.heap.size)
  (hK:∀v' w',w'.ownsRow base e 1 v' (n+1) (xs++[u])->w.grownBy w' v.ownBlock->(v'.ownBlock=v.ownBlock∨v'.ownBlock=some w.heap.size)->K (a.put o.dst v') w') :
  if Region.wanted o (yielded ops a.tmps)=true then Oper.wp P o a w K Q else E:=by
 have hw:Region.wanted o (yielded ops a.tmps)=true:=by simp[Region.wanted,hgd]
 rw[if_pos hw]
 obtain⟨v',w',hr,h2,h3,_,h5⟩:=run_append_own_at (P:=P) w base t o.type e i z 1 bytes ht hi hz hsize hby hzs (by omega) v n xs hown ad 1 1 [u] rfl (λj y hj=>by
  match j,hj with
  | 0,hj=>simp at hj;subst hj;exact hu) (λy hy=>by simp at hy;subst hy;exact h1) h63 hbytes hbase
 unfold Oper.wp execOp
 simp only[ho,resolve,invoke,builtin,Ue,Sem.run_pure,Uo,List.map_toArray,List.map_cons,List.map_nil,hs,hx,hr]
 exact hK v' w' h2 h3 h5
theorem YB.told{wa w3:World}{l:Nat}{v':Value}{x:Int}(H:YB w b n t v c T m)(hS:ZeB w b m.lo S)(hl:l<6)(ha:Below w.heap.size w wa)(hg:wa.grownBy w3 (S l).ownBlock)
  (hown:w3.ownsRow (b+1) 5 1 v' ((m.lo l).length+1) ((m.lo l).map (Value.int .u8)++[.int .u8 x])) (hat:v'.ownBlock=(S l).ownBlock∨v'.ownBlock=some wa.heap.size) :
  YB (w3.setCell ⟨b,34+l,none⟩ v') b n t v c T {m with lo:=up m.lo l (m.lo l++[x])}∧Below b w (w3.setCell ⟨b,34+l,none⟩ v'):=by
 have hlt:b<wa.heap.size:=Qq H.lt ha.size
 have hne:some b≠(S l).ownBlock:=λe=>by have:=(hS.o l hl).lt _ e.symm;omega
 have blk:w3.heap[b]?=w.heap[b]?:=(hg.block b hlt hne).trans (ha.block b H.lt)
 have key0:∀k:Nat,w3.cell? ⟨b,k,none⟩=w.cell? ⟨b,k,none⟩:=λk=>Qo (w:=w) (a:=⟨b,k,none⟩) blk
 have key:∀k:Nat,k≠34+l->(w3.setCell ⟨b,34+l,none⟩ v').cell? ⟨b,k,none⟩=w.cell? ⟨b,k,none⟩:=λk hk=>(ZL _ _ _ _ _ (by omega)).trans (key0 k)
 have hb3:Below b w w3:=⟨hg.os.trans ha.os,hg.tape.trans ha.tape,hg.output.trans ha.output,Qg ha.size hg.size,λk hk=>(hg.block k (by omega) (λe=>by have:=(hS.o l hl).lt _ e.symm;omega)).trans (ha.block k (by have:=H.lt;omega))⟩
 refine⟨⟨?_,(key _ (by omega)).trans H.c0,(key _ (by omega)).trans H.c1,(key _ (by omega)).trans H.c2,(key _ (by omega)).trans H.c3,λj hj=>(key _ (by omega)).trans (H.tp j hj),(key _ (by omega)).trans H.pl,λj hj=>(key _ (by omega)).trans (H.st j hj),(key _ (by omega)).trans H.sp,λj hj=>(key _ (by omega)).trans (H.va j hj),λj hj=>(key _ (by omega)).trans (H.po j hj),⟨λj=>if j=l then v' else S j,?_,?_,?_⟩,λj hj=>?_⟩,hb3.setCell (Qb _) _⟩
 ·have:=hg.size
  simp
  omega
 ·intro j hj
  by_cases e:j=l
  ·subst e
   rw[if_pos rfl]
   exact Qk _ _ _ ((key0 _).trans (hS.c j hj))
  ·rw[if_neg e,key _ (by omega)]
   exact hS.c j hj
 ·intro j hj
  by_cases e:j=l
  ·subst e
   rw[if_pos rfl]
   show (w3.setCell ⟨b,34+j,none⟩ v').ownsRow (b+1) 5 1 v' (up m.lo (j:Int) (m.lo j++[x]) j).length ((up m.lo (j:Int) (m.lo j++[x]) j).map (Value.int .u8))
   rw[Zcq,Qe,QK]
   exact Zji hown
  ·rw[if_neg e]
   show (w3.setCell ⟨b,34+l,none⟩ v').ownsRow (b+1) 5 1 (S j) (up m.lo (l:Int) (m.lo l++[x]) j).length ((up m.lo (l:Int) (m.lo l++[x]) j).map (Value.int .u8))
   rw[Zcf (by omega)]
   exact Zji ((Zg2 (hS.o j hj) ha).kept hg (hS.d j l hj hl e))
 ·intro i j hi hj hij
  have old:∀k:Nat,k<6->(S k).ownBlock≠some wa.heap.size:=λk hk e=>by have:=(hS.o k hk).lt _ e;have:=ha.size;omega
  show (if i=l then v' else S i).ownBlock=none∨(if i=l then v' else S i).ownBlock≠(if j=l then v' else S j).ownBlock
  by_cases e:i=l
  ·subst e
   rw[if_pos rfl,if_neg (λk=>hij k.symm)]
   rcases hat with hat|hat
   ·rw[hat];exact hS.d i j hi hj hij
   ·rw[hat];exact .inr (λk=>old j hj k.symm)
  ·rw[if_neg e]
   by_cases e2:j=l
   ·subst e2
    rw[if_pos rfl]
    rcases hat with hat|hat
    ·rw[hat];exact hS.d i j hi hj hij
    ·rw[hat];exact .inr (old i hi)
   ·rw[if_neg e2];exact hS.d i j hi hj hij
 ·rw[Qu,Qz (w:=w) (a:=⟨b,j,none⟩) blk]
  exact H.f j hj
theorem ZmS(b:Nat)(n:Int)(t v c:ZB)(T:Int->ZB)(m:Hnd)(a:Nat)(w:World)(H:YB w b n t v c T m)(ha:a<8)(h0:0<=m.sp)(h8:m.sp<8) :
  Calls prog 130 #[.pointer (some ⟨b,0,none⟩),.int .i64 a] w λe w'=>e=.returned (.tuple #[])∧YB w' b n t v c T {m with sp:=m.sp+1,st:=up m.st m.sp (m.va a)}∧Below b w w':=by
 have a0:=H.va a ha
 have hai:(a:Int)<8:=by omega
 generalize hx:m.va a=x at *
 replace hx:=Z_ hx
 go_enter func130,ntmps130
 go_wp2_with fail
 refine(ZdJ b n t v c T m x w H h0 h8).mono ?_
 rintro e w1 ⟨rfl,H1,hb1⟩
 go_wp2_with fail
 first|go_end0|refine Qi (Qp rfl _ _ _) rfl ?_
 exact⟨rfl,H1,hb1⟩
theorem Zli(b:Nat)(n:Int)(t v c:ZB)(T:Int->ZB)(m:Hnd)(a:Nat)(w:World)(H:YB w b n t v c T m)(ha:a<8)(h0:1<=m.sp)(h8:m.sp<=8) :
  Calls prog 131 #[.pointer (some ⟨b,0,none⟩),.int .i64 a] w λe w'=>e=.returned (.tuple #[])∧YB w' b n t v c T {m with sp:=m.sp-1,va:=up m.va a (m.st (m.sp-1))}∧Below b w w':=by
 have hai:(a:Int)<8:=by omega
 go_enter func131,ntmps131
 go_wp2_with fail
 refine(Zfh b n t v c T m w H h0 h8).mono ?_
 rintro e w1 ⟨rfl,H1,hb1⟩
 have a0:=H1.va a ha
 have f0:=H1.f (20+a) (by omega)
 have H2:=H1.setVa ha (m.st (m.sp-1))
 have hB:=hb1.setCell (p:=⟨b,20+a,none⟩) (Qb _) (.int .i64 (m.st (m.sp-1)))
 replace H2:=Z_ H2
 replace hB:=Z_ hB
 clear H H1 hb1
 go_wp2_with fail
 first|go_end0|refine Qi (Qp rfl _ _ _) rfl ?_
 exact⟨rfl,H2.out,hB.out⟩
theorem ZmT(b:Nat)(n:Int)(t v c:ZB)(T:Int->ZB)(m:Hnd)(l:Nat)(w:World)(H:YB w b n t v c T m)(hl:l<6)(hT:(T l).size<=maxLen)(h0:0<=m.sp)(h8:m.sp<8) :
  Calls prog 134 #[.pointer (some ⟨b,0,none⟩),.int .i64 l] w λe w'=>e=.returned (.tuple #[])∧YB w' b n t v c T {m with sp:=m.sp+1,st:=up m.st m.sp (bv (T l) (m.po l)),po:=up m.po l (m.po l+1)}∧Below b w w':=by
 have a0:=H.tp l hl
 have a1:=H.po l hl
 have f1:=H.f (28+l) (by omega)
 have hli:(l:Int)<6:=by omega
 have hmx:(T l).size<=9223372036854775807:=by unfold maxLen at hT;omega
 by_cases hs:(T l).size<=m.po l
 ·have H1:=H.over hs
  have hv:bv (T l) (m.po l)=0:=Zmg (by omega)
  rw[hv]
  rw[show min (m.po l) (T l).size=(T l).size from by omega]at a1
  generalize hz:T l=tape at *
  replace hz:=Z_ hz
  clear H hv hs
  go_enter func134,ntmps134
  go_wp2_with fail
  refine(ZdJ b n t v c T _ 0 w H1 h0 h8).mono ?_
  rintro e w1 ⟨rfl,H2,hb1⟩
  go_wp2_with fail
  first|go_end0|refine Qi (Qp rfl _ _ _) rfl ?_
  exact⟨rfl,H2,hb1⟩
 ·have hs2:m.po l<(T l).size:=by omega
  have H1:=H.setPo hl (m.po l+1) (m.po l+1) (by omega)
  have hv:=ZS (T l) (m.po l) hs2
  rw[show min (m.po l) (T l).size=m.po l from by omega]at a1
  have hB:Kp (Below b w (w.setCell ⟨b,28+l,none⟩ (.int .i64 ((m.po l+1:Nat):Int)))):=⟨(Qh b w).setCell (Qb _) _⟩
  obtain⟨x0,x9⟩:=Zag (T l) (m.po l)
  obtain⟨x,hx⟩:∃x,bv (T l) (m.po l)=x:=⟨_,rfl⟩
  rw[hx]at x0 x9
  rw[hx]at hv ⊢
  obtain⟨k,hk⟩:∃k,m.po l=k:=⟨_,rfl⟩
  rw[hk]at H1 a1 hs2 hB ⊢
  have hv2:(((T l)[k].toNat:Nat):Int)=x:=by rw[<-hv];congr 2;simp[hk]
  clear hv
  replace hx:=Z_ hx
  replace hk:=Z_ hk
  have hc1:((k+1:Nat):Int)=(k:Int)+1:=by omega
  rw[hc1]at H1 hB
  generalize T l=tape at *
  obtain⟨w2,hw2⟩:∃w2,w.setCell ⟨b,28+l,none⟩ (.int .i64 ((k:Int)+1))=w2:=⟨_,rfl⟩
  rw[hw2]at H1 hB
  replace H1:=Z_ H1
  have hki:(k:Int)<(tape.size:Int):=by omega
  clear H hs hT
  go_enter func134,ntmps134
  go_wp2_with fail
  refine(ZdJ b n t v c T _ x w2 H1.out h0 h8).mono ?_
  rintro e w1 ⟨rfl,H2,hb1⟩
  go_wp2_with fail
  first|go_end0|refine Qi (Qp rfl _ _ _) rfl ?_
  exact⟨rfl,H2,hB.out.trans hb1⟩
def Zsd(q:Bool):Int:=if q then 1 else 0
theorem Zh7(q:Bool)(w:World):Calls prog 223 #[.bool q] w λe w'=>e=.returned (.int .i64 (Zsd q))∧w'=w:=by
 cases q
 ·go_enter func223,ntmps223
  go_wp2
  go_ret
  exact⟨rfl,rfl⟩
 ·go_enter func223,ntmps223
  go_wp2
  go_ret
  exact⟨rfl,rfl⟩
theorem Zpm{a b:Int}(ha:0<=a∧a<=255)(hb:0<=b∧b<=255):0<=a*b∧a*b<=65025:=by
 refine⟨QY ha.1 hb.1,?_⟩
 have h1:=QZ ha.2 hb.1
 have h2:=Int.mul_le_mul_of_nonneg_left hb.2 (show (0:Int)<=255 by omega)
 omega
theorem Zjj(op x y:Int)(w:World)(ho:3<=op∧op<=7)(hx:0<=x∧x<=255)(hy:0<=y∧y<=255) :
  Calls prog 190 #[.int .i64 op,.int .i64 x,.int .i64 y] w λe w'=>e=.returned (.int .i64 (reckon op x y))∧w'=w:=by
 obtain⟨o1,o2⟩:=ho
 have hm:=Zpm hx hy
 obtain⟨x1,x2⟩:=hx
 obtain⟨y1,y2⟩:=hy
 obtain⟨m1,m2⟩:=hm
 have hcs:op=3∨op=4∨op=5∨op=6∨op=7:=by omega
 rcases hcs with rfl|rfl|rfl|rfl|rfl
 ·have e:reckon 3 x y=(x+y)%256:=by unfold reckon;simp
  rw[e]
  go_enter func190,ntmps190
  go_wp2
  go_ret
  exact⟨ZR (by omega),rfl⟩
 ·have e:reckon 4 x y=(x+256-y)%256:=by unfold reckon;simp
  rw[e]
  go_enter func190,ntmps190
  go_wp2
  go_ret
  exact⟨ZR (by omega),rfl⟩
 ·have e:reckon 5 x y=x*y%256:=by unfold reckon;simp
  rw[e]
  go_enter func190,ntmps190
  go_wp2
  go_ret
  exact⟨ZR (by omega),rfl⟩
 ·have e:reckon 6 x y=Zsd (decide (x<y)):=by unfold reckon Zsd;simp
  rw[e]
  go_enter func190,ntmps190
  go_wp2_with fail
  refine(Zh7 _ _).mono ?_
  rintro e w1 ⟨rfl,rfl⟩
  go_wp2
  go_ret
  exact⟨rfl,rfl⟩
 ·have e:reckon 7 x y=Zsd (x==y):=by unfold reckon Zsd;simp
  rw[e]
  go_enter func190,ntmps190
  go_wp2_with fail
  refine(Zh7 _ _).mono ?_
  rintro e w1 ⟨rfl,rfl⟩
  go_wp2
  go_ret
  exact⟨rfl,rfl⟩
theorem Zh8:(prog.info? 5).map (λi=>(i.zero,i.size,i.bytes))=some (some (.int .u8 0),1,1):=by kernel_rfl
theorem Zox{B:Nat}{e:TypeId}{v:Value}(h:w.ownsRow B e 1 v (k+1) xs):∃g cap,v=.slice (some ⟨g,0,none⟩) (k+1) cap:=by
 rcases h.2 with ⟨_,hn⟩|⟨g,cap,cur,rfl,_⟩
 ·omega
 ·exact⟨g,cap,rfl⟩
theorem Zfi{x:Int}(h0:0<=x)(h1:x<=255):IntKind.u8.wrap x=x:=by
 unfold IntKind.wrap
 simp[IntKind.signed,IntKind.bits]
 omega
theorem Zlj(b:Nat)(n:Int)(t v c:ZB)(T:Int->ZB)(m:Hnd)(l:Nat)(w:World)(H:YB w b n t v c T m)(hl:l<6)(h0:1<=m.sp)(h8:m.sp<=8)(hx:0<=m.st (m.sp-1)∧m.st (m.sp-1)<=255)(hlen:(m.lo l).length<=20000) :
  Calls prog 135 #[.pointer (some ⟨b,0,none⟩),.int .i64 l] w λe w'=>e=.returned (.tuple #[])∧YB w' b n t v c T {m with sp:=m.sp-1,lo:=up m.lo l (m.lo l++[m.st (m.sp-1)])}∧Below b w w':=by
 have hli:(l:Int)<6:=by omega
 obtain⟨x,hxx⟩:∃x,m.st (m.sp-1)=x:=⟨_,rfl⟩
 rw[hxx]at hx
 obtain⟨x0,x9⟩:=hx
 obtain⟨i0,hi0,hz0,hz1,hz2⟩:=info_parts Zh8
 have hw8:IntKind.u8.wrap x=x:=Zfi x0 x9
 go_enter func135,ntmps135
 go_wp2_with fail
 refine(Zfh b n t v c T m w H h0 h8).mono ?_
 rintro e w1 ⟨rfl,H1,hb1⟩
 rw[hxx]
 obtain⟨S,hS⟩:=H1.lg
 have a0:=hS.c l hl
 have f0:=H1.f (34+l) (by omega)
 have hlt:=H1.lt
 have hrow:Kp (w1.ownsRow (b+1) 5 1 (S l) (m.lo l).length ((m.lo l).map (Value.int .u8))):=⟨hS.o l hl⟩
 have hne:some b≠(S l).ownBlock:=λe=>by have:=(hS.o l hl).lt _ e.symm;omega
 replace hne:=Z_ hne
 have bel1:Below w1.heap.size w1 (w1.alloc (.cells #[.int .u8 x] 5)).drew:=((Qh _ _).alloc (Qb _) _).drew
 replace H1:=Z_ H1
 replace hS:=Z_ hS
 clear H
 go_wp2_with fail
 go_region_law (refine ZfU rfl (.tmp 20) (.tmp 23) 56 rfl (b+1) 5 i0 (.int .u8 0) 1 Tryz.underlying56 hi0 hz0 hz1 hz2 rfl (S l) (m.lo l).length ((m.lo l).map (Value.int .u8)) (by simp[Act.eval]) (Zg2 hrow.out bel1) ⟨w1.heap.size,0,none⟩ (.int .u8 x) (by simp[Act.eval]) (by simp[Addr.add]) rfl (by unfold maxLen;omega) (by omega) (by simp;omega) ?_;intro v' w3 hown hgrow hat;obtain⟨g,cap,rfl⟩:=Zox hown;have a1:w3.cell? ⟨b,34+l,none⟩=some (S l):=(by rw[World.cell?_of_block (w:=(w1.alloc (.cells #[.int .u8 x] 5)).drew) (hgrow.block b (by simp;omega) hne.out)];exact(bel1.cell (p:=⟨b,34+l,none⟩) hlt).trans a0);have f1:w3.frozen? ⟨b,34+l,none⟩=false:=(by rw[World.frozen?_of_block (w:=(w1.alloc (.cells #[.int .u8 x] 5)).drew) (hgrow.block b (by simp;omega) hne.out)];exact(bel1.frozen (p:=⟨b,34+l,none⟩) hlt).trans f0))
 all_goals
  go_wp2
  first|go_end0|refine Qi (Qp rfl _ _ _) rfl ?_
  have hR:=YB.told (x:=x) H1.out hS.out hl bel1 hgrow hown hat
  rw[hxx]
  exact⟨rfl,hR.1,hb1.trans hR.2⟩
theorem Zbu(b:Nat)(n:Int)(t v c:ZB)(T:Int->ZB)(m:Hnd)(op:Int)(w:World)(H:YB w b n t v c T m)(ho:3<=op∧op<=7)(h0:2<=m.sp)(h8:m.sp<=8)(V:Vals m) :
  Calls prog 132 #[.pointer (some ⟨b,0,none⟩),.int .i64 op] w λe w'=>e=.returned (.tuple #[])∧YB w' b n t v c T {m with sp:=m.sp-1,st:=up m.st (m.sp-2) (reckon op (m.st (m.sp-2)) (m.st (m.sp-1)))}∧Below b w w':=by
 go_enter func132,ntmps132
 go_wp2_with fail
 refine(Zfh b n t v c T m w H (by omega) h8).mono ?_
 rintro e w1 ⟨rfl,H1,hb1⟩
 go_wp2_with fail
 refine(Zfh b n t v c T _ w1 H1 (by show 1<=m.sp-1;omega) (by show m.sp-1<=8;omega)).mono ?_
 rintro e w2 ⟨rfl,H2,hb2⟩
 have e2:m.sp-1-1=m.sp-2:=by omega
 dsimp only at H2
 rw[e2]at H2
 dsimp only
 rw[e2]
 have v1:=V.st (m.sp-1)
 have v2:=V.st (m.sp-2)
 generalize hx:m.st (m.sp-2)=x at *
 generalize hy:m.st (m.sp-1)=y at *
 replace hx:=Z_ hx
 replace hy:=Z_ hy
 go_wp2_with fail
 refine(Zjj op x y w2 ho v2 v1).mono ?_
 rintro e w3 ⟨rfl,rfl⟩
 generalize hz:reckon op x y=z at *
 replace hz:=Z_ hz
 go_wp2_with fail
 refine(ZdJ b n t v c T _ z w3 H2 (by show 0<=m.sp-2;omega) (by show m.sp-2<8;omega)).mono ?_
 rintro e w4 ⟨rfl,H3,hb3⟩
 dsimp only at H3
 rw[show m.sp-2+1=m.sp-1 from by omega]at H3
 go_wp2_with fail
 first|go_end0|refine Qi (Qp rfl _ _ _) rfl ?_
 rw[hx.out,hy.out,hz.out]
 exact⟨rfl,H3,(hb1.trans hb2).trans hb3⟩
structure Zsj(c v:ZB)(n:Int)(T:Int->ZB):Prop where
 hc:c.size<=maxLen
 hK:half c<=200
 hv:v.size<=8
 hn:n<=6
 ht:∀l:Nat,l<6->(T l).size<=maxLen
theorem Zsx{T:Int->ZB}{h:Nat->Int}(P:Through c v t n h)(S:Sound c h m)(hlt:m.pl<half c):0<=m.sp∧m.sp<=8∧takesAt c m.pl<=m.sp∧m.sp-takesAt c m.pl+givesAt c m.pl<=8:=by
 have e:((m.pl.toNat:Nat):Int)=m.pl:=Qj S.r0
 have a:=P.ht.rng m.pl.toNat (by rw[e];exact S.r1) (by rw[e];exact S.live)
 have b:=P.ht.pops m.pl.toNat (by rw[e];exact hlt) (by rw[e];exact S.live)
 rw[<-S.sp]at a b
 rw[e]at b
 have S2:=(Zgf (T:=T) P S hlt).1
 have e2:(((Zy c T m).pl.toNat:Nat):Int)=(Zy c T m).pl:=Qj S2.r0
 have d:=P.ht.rng (Zy c T m).pl.toNat (by rw[e2];exact S2.r1) (by rw[e2];exact S2.live)
 rw[<-S2.sp,Zmc (P.ops m.pl S.r0 hlt)]at d
 omega
theorem Zb5{w3:World}{M:Hnd}{e1:Int}(H3:YB w3 b n t v c T M)(e:Zy c T m={M with pl:=e1}):YB (w3.setCell ⟨b,10,none⟩ (.int .i64 e1)) b n t v c T (Zy c T m):=by
 rw[e]
 exact H3.setPl e1
theorem ZmU(b:Nat)(n:Int)(t v c:ZB)(T:Int->ZB)(h:Nat->Int)(m:Hnd)(w:World)(H:YB w b n t v c T m)(F:Zsj c v n T)(P:Kp (Through c v t n h))(S:Kp (Sound c h m))(V:Kp (Vals m))(hlt:m.pl<half c)(hlen:Kp (∀l,(m.lo l).length<=20000)) :
  Calls prog 69 #[.pointer (some ⟨b,0,none⟩)] w λe w'=>e=.returned (.tuple #[])∧YB w' b n t v c T (Zy c T m)∧Below b w w':=by
 have hc:=F.hc
 have hK:=F.hK
 have hv8:=F.hv
 have hn6:=F.hn
 have hp0:=S.out.r0
 have hsp:=Zsx (T:=T) P.out S.out hlt
 have h11:=P.out.ops m.pl hp0 hlt
 obtain⟨x0,x9⟩:=Zag c (2*m.pl)
 obtain⟨y0,y9⟩:=Zag c (2*m.pl+1)
 obtain⟨a,ha⟩:∃a:Nat,bv c (2*m.pl+1)=a:=⟨(bv c (2*m.pl+1)).toNat,by omega⟩
 obtain⟨x,hx⟩:∃x,bv c (2*m.pl)=x:=⟨_,rfl⟩
 obtain⟨e1,he1⟩:∃e1,nx1 c m.pl=e1:=⟨_,rfl⟩
 obtain⟨e2,he2⟩:∃e2,nx2 c m.pl=e2:=⟨_,rfl⟩
 have htk:takesAt c m.pl=takesF x:=by unfold takesAt;rw[hx]
 have hgv:givesAt c m.pl=givesF x:=by unfold givesAt;rw[hx]
 rw[htk,hgv]at hsp
 have hvr:x=1∨x=2->a<8:=λk=>by have:=(P.out.vr m.pl hp0 hlt (by rw[hx];exact k)).1;omega
 have hlv:x=10∨x=11->a<6:=λk=>by have:=P.out.lv m.pl hp0 hlt (by rw[hx];exact k);unfold Lv at this;omega
 have n1:e1=if x=8 then (a:Int) else m.pl+1:=by rw[<-he1];unfold nx1;rw[if_neg (by omega),hx,ha]
 have n2:e2=if x=8∨x=9 then (a:Int) else m.pl+1:=by rw[<-he2];unfold nx2;rw[if_neg (by omega),hx,ha]
 have hI:=λw1=>Za7 n m.pl t v c w1 hc hp0 hlt
 have hJ:=λw1=>Za0 n m.pl t v c w1 hc hK hp0 (by omega)
 rw[hx,ha]at hI
 rw[he1,he2]at hJ
 rw[hx]at h11 x0 x9
 have c0:=H.c0
 have c1:=H.c1
 have c2:=H.c2
 have c3:=H.c3
 have c10:=H.pl
 have hl0:=H.lt
 obtain⟨pl,hpl⟩:∃pl,m.pl=pl:=⟨_,rfl⟩
 rw[hpl]at hI hJ c10
 replace hpl:=Z_ hpl
 replace hI:=Z_ hI
 replace hJ:=Z_ hJ
 have REST:Kp ((takesF x<=m.sp∧0<=m.sp∧m.sp<=8∧m.sp-takesF x+givesF x<=8)∧(x=1∨x=2->a<8)∧(x=10∨x=11->a<6)∧(e1=if x=8 then (a:Int) else m.pl+1)∧(e2=if x=8∨x=9 then (a:Int) else m.pl+1)∧bv c (2*m.pl)=x∧bv c (2*m.pl+1)=a∧0<=x∧x<=11):=⟨⟨by omega,by omega,by omega,by omega⟩,hvr,hlv,n1,n2,hx,ha,x0,h11⟩
 clear n1 n2 htk hgv y0 y9 x0 x9 h11 hvr hlv hx ha hsp he1 he2 hc hK hv8 hn6 hp0 hlt
 replace F:=Z_ F
 have H':Kp _:=⟨H⟩
 clear H
 go_enter func69,ntmps69
 go_wp2_with fail
 go_region_held (λw'=>w'.cell? ⟨b,0,none⟩=some (.int .i64 n)∧w'.cell? ⟨b,1,none⟩=some (.string t)∧w'.cell? ⟨b,2,none⟩=some (.string v)∧w'.cell? ⟨b,3,none⟩=some (.string c)∧w'.cell? ⟨b,10,none⟩=some (.int .i64 pl)) (go_keep) ((go_at_call 114;refine(hI.out _).mono ?_;rintro e w1 ⟨rfl,hb1⟩;have hb1':Below w.heap.size w w1:=(Qh _ _).drew.trans hb1;have H1:=H'.out.step hb1';have a0:=H1.c0;have a1:=H1.c1;have a2:=H1.c2;have a3:=H1.c3;have a10:=H1.pl;rw[hpl.out]at a10))
 all_goals
  clear c0 c1 c2 c3 c10 hI hb1
  go_wp2_with fail
  go_region_held (λw'=>w'.cell? ⟨b,0,none⟩=some (.int .i64 n)∧w'.cell? ⟨b,1,none⟩=some (.string t)∧w'.cell? ⟨b,2,none⟩=some (.string v)∧w'.cell? ⟨b,3,none⟩=some (.string c)∧w'.cell? ⟨b,10,none⟩=some (.int .i64 pl)) (go_keep) ((go_at_call 128;refine(hJ.out _).mono ?_;rintro e w2 ⟨rfl,hb2⟩;have hb2':Below w1.heap.size w1 w2:=(Qh _ _).drew.trans hb2;have H2:=H1.step hb2';have d0:=H2.c0;have d1:=H2.c1;have d2:=H2.c2;have d3:=H2.c3;have d10:=H2.pl;rw[hpl.out]at d10))
  all_goals
   clear a0 a1 a2 a3 a10 d0 d1 d2 d3 d10 hJ hb2
   have hB:Below b w w2:=(hb1'.mono (Uf hl0)).trans (hb2'.mono (Qg (Uf hl0) hb1'.size))
   clear hb1' hb2' H1 H'
   obtain⟨⟨s1,s2,s3,s4⟩,hvr,hlv,n1,n2,hx,ha,x0,h11⟩:=REST.out
   have hcs:x=0∨x=1∨x=2∨x=3∨x=4∨x=5∨x=6∨x=7∨x=8∨x=9∨x=10∨x=11:=by omega
   replace hvr:=Z_ hvr
   replace hlv:=Z_ hlv
   rcases hcs with rfl|rfl|rfl|rfl|rfl|rfl|rfl|rfl|rfl|rfl|rfl|rfl
   ·rw[if_neg (by omega)]at n1
    replace n1:=Z_ n1
    replace n2:=Z_ n2
    have s5:=s4
    simp[takesF,givesF]at s5 s1
    go_wp2_with fail
    refine(ZdJ b n t v c T m (a:Int) w2 H2 s2 (by omega)).mono ?_
    rintro e w3 ⟨rfl,H3,hb3⟩
    have p10:=H3.pl
    have f10:=H3.f 10 (by omega)
    have hB4:Kp (Below b w (w3.setCell ⟨b,10,none⟩ (.int .i64 e1))):=⟨(hB.trans hb3).setCell (Qb _) _⟩
    have H4:Kp (YB (w3.setCell ⟨b,10,none⟩ (.int .i64 e1)) b n t v c T (Zy c T m)):=⟨Zb5 H3 (by rw[ZhP hx,ha];rw[n1.out])⟩
    clear hB hb3 H3 H2 n1 n2 hx ha
    go_wp2_with fail
    first|go_end0|refine Qi (Qp rfl _ _ _) rfl ?_
    exact⟨rfl,H4.out,hB4.out⟩
   ·rw[if_neg (by omega)]at n1
    have ha8:a<8:=hvr.out (.inl rfl)
    replace n1:=Z_ n1
    replace n2:=Z_ n2
    have s5:=s4
    simp[takesF,givesF]at s5 s1
    go_wp2_with fail
    refine(ZmS b n t v c T m a w2 H2 ha8 s2 (by omega)).mono ?_
    rintro e w3 ⟨rfl,H3,hb3⟩
    have p10:=H3.pl
    have f10:=H3.f 10 (by omega)
    have hB4:Kp (Below b w (w3.setCell ⟨b,10,none⟩ (.int .i64 e1))):=⟨(hB.trans hb3).setCell (Qb _) _⟩
    have H4:Kp (YB (w3.setCell ⟨b,10,none⟩ (.int .i64 e1)) b n t v c T (Zy c T m)):=⟨Zb5 H3 (by rw[ZhQ hx,ha];rw[n1.out])⟩
    clear hB hb3 H3 H2 n1 n2 hx ha
    go_wp2_with fail
    first|go_end0|refine Qi (Qp rfl _ _ _) rfl ?_
    exact⟨rfl,H4.out,hB4.out⟩
   ·rw[if_neg (by omega)]at n1
    have ha8:a<8:=hvr.out (.inr rfl)
    replace n1:=Z_ n1
    replace n2:=Z_ n2
    have s5:=s4
    simp[takesF,givesF]at s5 s1
    go_wp2_with fail
    refine(Zli b n t v c T m a w2 H2 ha8 s1 s3).mono ?_
    rintro e w3 ⟨rfl,H3,hb3⟩
    have p10:=H3.pl
    have f10:=H3.f 10 (by omega)
    have hB4:Kp (Below b w (w3.setCell ⟨b,10,none⟩ (.int .i64 e1))):=⟨(hB.trans hb3).setCell (Qb _) _⟩
    have H4:Kp (YB (w3.setCell ⟨b,10,none⟩ (.int .i64 e1)) b n t v c T (Zy c T m)):=⟨Zb5 H3 (by rw[ZhR hx,ha];rw[n1.out])⟩
    clear hB hb3 H3 H2 n1 n2 hx ha
    go_wp2_with fail
    first|go_end0|refine Qi (Qp rfl _ _ _) rfl ?_
    exact⟨rfl,H4.out,hB4.out⟩
   ·rw[if_neg (by omega)]at n1
    replace n1:=Z_ n1
    replace n2:=Z_ n2
    have s5:=s4
    simp[takesF,givesF]at s5 s1
    go_wp2_with fail
    refine(Zbu b n t v c T m 3 w2 H2 (by omega) (by omega) s3 V.out).mono ?_
    rintro e w3 ⟨rfl,H3,hb3⟩
    have p10:=H3.pl
    have f10:=H3.f 10 (by omega)
    have hB4:Kp (Below b w (w3.setCell ⟨b,10,none⟩ (.int .i64 e1))):=⟨(hB.trans hb3).setCell (Qb _) _⟩
    have H4:Kp (YB (w3.setCell ⟨b,10,none⟩ (.int .i64 e1)) b n t v c T (Zy c T m)):=⟨Zb5 H3 (by rw[Zbf (by rw[hx];omega),hx];rw[n1.out])⟩
    clear hB hb3 H3 H2 n1 n2 hx ha
    go_wp2_with fail
    first|go_end0|refine Qi (Qp rfl _ _ _) rfl ?_
    exact⟨rfl,H4.out,hB4.out⟩
   ·rw[if_neg (by omega)]at n1
    replace n1:=Z_ n1
    replace n2:=Z_ n2
    have s5:=s4
    simp[takesF,givesF]at s5 s1
    go_wp2_with fail
    refine(Zbu b n t v c T m 4 w2 H2 (by omega) (by omega) s3 V.out).mono ?_
    rintro e w3 ⟨rfl,H3,hb3⟩
    have p10:=H3.pl
    have f10:=H3.f 10 (by omega)
    have hB4:Kp (Below b w (w3.setCell ⟨b,10,none⟩ (.int .i64 e1))):=⟨(hB.trans hb3).setCell (Qb _) _⟩
    have H4:Kp (YB (w3.setCell ⟨b,10,none⟩ (.int .i64 e1)) b n t v c T (Zy c T m)):=⟨Zb5 H3 (by rw[Zbf (by rw[hx];omega),hx];rw[n1.out])⟩
    clear hB hb3 H3 H2 n1 n2 hx ha
    go_wp2_with fail
    first|go_end0|refine Qi (Qp rfl _ _ _) rfl ?_
    exact⟨rfl,H4.out,hB4.out⟩
   ·rw[if_neg (by omega)]at n1
    replace n1:=Z_ n1
    replace n2:=Z_ n2
    have s5:=s4
    simp[takesF,givesF]at s5 s1
    go_wp2_with fail
    refine(Zbu b n t v c T m 5 w2 H2 (by omega) (by omega) s3 V.out).mono ?_
    rintro e w3 ⟨rfl,H3,hb3⟩
    have p10:=H3.pl
    have f10:=H3.f 10 (by omega)
    have hB4:Kp (Below b w (w3.setCell ⟨b,10,none⟩ (.int .i64 e1))):=⟨(hB.trans hb3).setCell (Qb _) _⟩
    have H4:Kp (YB (w3.setCell ⟨b,10,none⟩ (.int .i64 e1)) b n t v c T (Zy c T m)):=⟨Zb5 H3 (by rw[Zbf (by rw[hx];omega),hx];rw[n1.out])⟩
    clear hB hb3 H3 H2 n1 n2 hx ha
    go_wp2_with fail
    first|go_end0|refine Qi (Qp rfl _ _ _) rfl ?_
    exact⟨rfl,H4.out,hB4.out⟩
   ·rw[if_neg (by omega)]at n1
    replace n1:=Z_ n1
    replace n2:=Z_ n2
    have s5:=s4
    simp[takesF,givesF]at s5 s1
    go_wp2_with fail
    refine(Zbu b n t v c T m 6 w2 H2 (by omega) (by omega) s3 V.out).mono ?_
    rintro e w3 ⟨rfl,H3,hb3⟩
    have p10:=H3.pl
    have f10:=H3.f 10 (by omega)
    have hB4:Kp (Below b w (w3.setCell ⟨b,10,none⟩ (.int .i64 e1))):=⟨(hB.trans hb3).setCell (Qb _) _⟩
    have H4:Kp (YB (w3.setCell ⟨b,10,none⟩ (.int .i64 e1)) b n t v c T (Zy c T m)):=⟨Zb5 H3 (by rw[Zbf (by rw[hx];omega),hx];rw[n1.out])⟩
    clear hB hb3 H3 H2 n1 n2 hx ha
    go_wp2_with fail
    first|go_end0|refine Qi (Qp rfl _ _ _) rfl ?_
    exact⟨rfl,H4.out,hB4.out⟩
   ·rw[if_neg (by omega)]at n1
    replace n1:=Z_ n1
    replace n2:=Z_ n2
    have s5:=s4
    simp[takesF,givesF]at s5 s1
    go_wp2_with fail
    refine(Zbu b n t v c T m 7 w2 H2 (by omega) (by omega) s3 V.out).mono ?_
    rintro e w3 ⟨rfl,H3,hb3⟩
    have p10:=H3.pl
    have f10:=H3.f 10 (by omega)
    have hB4:Kp (Below b w (w3.setCell ⟨b,10,none⟩ (.int .i64 e1))):=⟨(hB.trans hb3).setCell (Qb _) _⟩
    have H4:Kp (YB (w3.setCell ⟨b,10,none⟩ (.int .i64 e1)) b n t v c T (Zy c T m)):=⟨Zb5 H3 (by rw[Zbf (by rw[hx];omega),hx];rw[n1.out])⟩
    clear hB hb3 H3 H2 n1 n2 hx ha
    go_wp2_with fail
    first|go_end0|refine Qi (Qp rfl _ _ _) rfl ?_
    exact⟨rfl,H4.out,hB4.out⟩
   ·rw[if_pos rfl]at n1
    replace n1:=Z_ n1
    replace n2:=Z_ n2
    have p10:=H2.pl
    have f10:=H2.f 10 (by omega)
    have hB4:Kp (Below b w (w2.setCell ⟨b,10,none⟩ (.int .i64 e1))):=⟨hB.setCell (Qb _) _⟩
    have H4:Kp (YB (w2.setCell ⟨b,10,none⟩ (.int .i64 e1)) b n t v c T (Zy c T m)):=⟨Zb5 H2 (by rw[Zge hx,ha];rw[n1.out])⟩
    clear hB H2 n1 n2 hx ha
    go_wp2_with fail
    first|go_end0|refine Qi (Qp rfl _ _ _) rfl ?_
    exact⟨rfl,H4.out,hB4.out⟩
   ·rw[if_neg (by omega)]at n1
    rw[if_pos (by omega)]at n2
    replace n1:=Z_ n1
    replace n2:=Z_ n2
    simp[takesF]at s1
    obtain⟨z,hz⟩:∃z,m.st (m.sp-1)=z:=⟨_,rfl⟩
    have hP:=Zfh b n t v c T m w2 H2 s1 s3
    rw[hz]at hP
    by_cases hz0:z=0
    ·subst hz0
     replace hP:=Z_ hP
     go_wp2_with fail
     refine hP.out.mono ?_
     rintro e w3 ⟨rfl,H3,hb3⟩
     have p10:=H3.pl
     have f10:=H3.f 10 (by omega)
     have hB4:Kp (Below b w (w3.setCell ⟨b,10,none⟩ (.int .i64 e2))):=⟨(hB.trans hb3).setCell (Qb _) _⟩
     have H4:Kp (YB (w3.setCell ⟨b,10,none⟩ (.int .i64 e2)) b n t v c T (Zy c T m)):=⟨Zb5 H3 (by rw[Zdw hx,ha,if_pos hz];rw[n2.out])⟩
     clear hB hb3 H3 H2 n1 n2 hx ha hP
     go_wp2_with fail
     first|go_end0|refine Qi (Qp rfl _ _ _) rfl ?_
     exact⟨rfl,H4.out,hB4.out⟩
    ·replace hP:=Z_ hP
     have hzn:(z==0)=false:=Qf.2 hz0
     go_wp2_with fail
     refine hP.out.mono ?_
     rintro e w3 ⟨rfl,H3,hb3⟩
     have p10:=H3.pl
     have f10:=H3.f 10 (by omega)
     have hB4:Kp (Below b w (w3.setCell ⟨b,10,none⟩ (.int .i64 e1))):=⟨(hB.trans hb3).setCell (Qb _) _⟩
     have H4:Kp (YB (w3.setCell ⟨b,10,none⟩ (.int .i64 e1)) b n t v c T (Zy c T m)):=⟨Zb5 H3 (by rw[Zdw hx,ha,if_neg (by rw[hz];exact hz0)];rw[n1.out])⟩
     clear hB hb3 H3 H2 n1 n2 hx ha hP
     go_wp2_with fail
     first|go_end0|refine Qi (Qp rfl _ _ _) rfl ?_
     exact⟨rfl,H4.out,hB4.out⟩
   ·rw[if_neg (by omega)]at n1
    have ha8:a<6:=hlv.out (.inl rfl)
    replace n1:=Z_ n1
    replace n2:=Z_ n2
    have s5:=s4
    simp[takesF,givesF]at s5 s1
    go_wp2_with fail
    refine(ZmT b n t v c T m a w2 H2 ha8 (F.out.ht a ha8) s2 (by omega)).mono ?_
    rintro e w3 ⟨rfl,H3,hb3⟩
    have p10:=H3.pl
    have f10:=H3.f 10 (by omega)
    have hB4:Kp (Below b w (w3.setCell ⟨b,10,none⟩ (.int .i64 e1))):=⟨(hB.trans hb3).setCell (Qb _) _⟩
    have H4:Kp (YB (w3.setCell ⟨b,10,none⟩ (.int .i64 e1)) b n t v c T (Zy c T m)):=⟨Zb5 H3 (by rw[Ze7 hx,ha];rw[n1.out])⟩
    clear hB hb3 H3 H2 n1 n2 hx ha
    go_wp2_with fail
    first|go_end0|refine Qi (Qp rfl _ _ _) rfl ?_
    exact⟨rfl,H4.out,hB4.out⟩
   ·rw[if_neg (by omega)]at n1
    have ha8:a<6:=hlv.out (.inr rfl)
    replace n1:=Z_ n1
    replace n2:=Z_ n2
    have s5:=s4
    simp[takesF,givesF]at s5 s1
    go_wp2_with fail
    refine(Zlj b n t v c T m a w2 H2 ha8 s1 s3 (V.out.st _) (hlen.out _)).mono ?_
    rintro e w3 ⟨rfl,H3,hb3⟩
    have p10:=H3.pl
    have f10:=H3.f 10 (by omega)
    have hB4:Kp (Below b w (w3.setCell ⟨b,10,none⟩ (.int .i64 e1))):=⟨(hB.trans hb3).setCell (Qb _) _⟩
    have H4:Kp (YB (w3.setCell ⟨b,10,none⟩ (.int .i64 e1)) b n t v c T (Zy c T m)):=⟨Zb5 H3 (by rw[Ze8 hx,ha];rw[n1.out])⟩
    clear hB hb3 H3 H2 n1 n2 hx ha
    go_wp2_with fail
    first|go_end0|refine Qi (Qp rfl _ _ _) rfl ?_
    exact⟨rfl,H4.out,hB4.out⟩
structure ZbA(w:World)(g:Nat)(f:Nat->ZB):Prop where
 lt:g<w.heap.size
 c:∀j:Nat,j<6->w.cell? ⟨g,j,none⟩=some (.string (f j))
 f:∀j:Nat,j<6->w.frozen? ⟨g,j,none⟩=false
theorem ZbA.step(H:ZbA w g f)(hb:Below w.heap.size w w1):ZbA w1 g f:=
 ⟨Qq H.lt hb.size,λj hj=>by rw[hb.cell (p:=⟨g,j,none⟩) H.lt];exact H.c j hj,λj hj=>by rw[hb.frozen (p:=⟨g,j,none⟩) H.lt];exact H.f j hj⟩
theorem ZbA.set(H:ZbA w g f)(hk:k<6)(x:ZB):ZbA (w.setCell ⟨g,k,none⟩ (.string x)) g (λj=>if j=k then x else f j):=by
 refine⟨by simpa using H.lt,λj hj=>?_,λj hj=>by rw[World.frozen?_setCell];exact H.f j hj⟩
 by_cases e:j=k
 ·subst e
  rw[Qk _ _ _ (H.c j hj),if_pos rfl]
 ·rw[ZL _ _ _ _ _ (by omega),if_neg e];exact H.c j hj
theorem ZbA.far(H:ZbA w g f)(hne:b≠g):ZbA (w.setCell ⟨b,k,none⟩ x) g f:=
 ⟨by simpa using H.lt,λj hj=>by rw[World.cell?_setCell_far _ _ _ _ hne];exact H.c j hj,λj hj=>by rw[World.frozen?_setCell];exact H.f j hj⟩
theorem ZbA.new(w:World)(t:TypeId)(x0 x1 x2 x3 x4 x5:ZB)(h:f 0=x0∧f 1=x1∧f 2=x2∧f 3=x3∧f 4=x4∧f 5=x5):ZbA (w.alloc (.cells #[.string x0,.string x1,.string x2,.string x3,.string x4,.string x5] t)) w.heap.size f:=by
 obtain⟨rfl,rfl,rfl,rfl,rfl,rfl⟩:=h
 refine⟨by simp,?_,?_⟩ <;>
 ·intro j hj
  match j with
  | 0=>simp[go_sem]
  | 1=>simp[go_sem]
  | 2=>simp[go_sem]
  | 3=>simp[go_sem]
  | 4=>simp[go_sem]
  | 5=>simp[go_sem]
  | j+6=>omega
def ZpE(lo:Int->List Int)(k:Nat):Nat->ZB:=λj=>if j<k then bs (lo j) else {data:=#[]}
theorem Zfj(b:Nat)(n:Int)(t v c:ZB)(T:Int->ZB)(m:Hnd)(w:World)(H:YB w b n t v c T m) :
  Calls prog 70 #[.pointer (some ⟨b,0,none⟩)] w λe w'=>e=.returned (Zhu λl=>bs (m.lo l))∧Below w.heap.size w w':=by
 have hlt:=H.lt
 have R0:=ZbA.new w 23 {data:=#[]} {data:=#[]} {data:=#[]} {data:=#[]} {data:=#[]} {data:=#[]} (f:=λ_=>{data:=#[]}) ⟨rfl,rfl,rfl,rfl,rfl,rfl⟩
 have R1:=R0.step ((Qh _ _).alloc (Qb _) (.cells #[.string {data:=#[]},.string {data:=#[]},.string {data:=#[]},.string {data:=#[]},.string {data:=#[]},.string {data:=#[]}] 23))
 have L1:=ZbA.new (w.alloc (.cells #[.string {data:=#[]},.string {data:=#[]},.string {data:=#[]},.string {data:=#[]},.string {data:=#[]},.string {data:=#[]}] 23)) 23 {data:=#[]} {data:=#[]} {data:=#[]} {data:=#[]} {data:=#[]} {data:=#[]} (f:=ZpE m.lo 0) ⟨rfl,rfl,rfl,rfl,rfl,rfl⟩
 have hB1:=((Qh w.heap.size w).alloc (Qb _) (.cells #[.string {data:=#[]},.string {data:=#[]},.string {data:=#[]},.string {data:=#[]},.string {data:=#[]},.string {data:=#[]}] 23)).alloc (by simp) (.cells #[.string {data:=#[]},.string {data:=#[]},.string {data:=#[]},.string {data:=#[]},.string {data:=#[]},.string {data:=#[]}] 23)
 have e1:(w.alloc (.cells #[.string {data:=#[]},.string {data:=#[]},.string {data:=#[]},.string {data:=#[]},.string {data:=#[]},.string {data:=#[]}] 23)).heap.size=w.heap.size+1:=by simp
 rw[e1]at L1
 replace R1:=Z_ R1
 replace L1:=Z_ L1
 replace hB1:=Z_ hB1
 have H':Kp _:=⟨H⟩
 clear H R0 e1
 go_enter func70,ntmps70
 go_wp2_with fail
 go_loopw [4] (λlv wr=>∃k:Nat,k<=6∧lv=.int .i64 k∧Kp (ZbA wr (w.heap.size+1) (ZpE m.lo k)∧ZbA wr w.heap.size (λ_=>{data:=#[]})∧Below w.heap.size w wr)) (λlv _=>6-(intOf lv).toNat)
 case atStart=>exact⟨0,by omega,rfl,⟨L1.out,R1.out,hB1.out⟩⟩
 case round=>
  clear L1 R1 hB1
  obtain⟨k,hk,rfl,hR⟩:=hrel
  obtain⟨L,R,hB⟩:=hR.out
  clear hR
  by_cases hlt6:k<6
  ·have hk6:(k:Int)<6:=by omega
   have H1:=H'.out.step hB
   obtain⟨S,hS⟩:=H1.lg
   have q0:=hS.c k hlt6
   have hcv:=ZeN (m.lo k) (hS.o k hlt6)
   have p0:=L.c k hlt6
   have p1:=L.f k hlt6
   have L2:=L.set hlt6 (bs (m.lo k))
   have R2:=R.far (b:=w.heap.size+1) (k:=k) (x:=.string (bs (m.lo k))) (by omega)
   have hB2:=hB.setCell (p:=⟨w.heap.size+1,k,none⟩) (Nat.le_succ _) (.string (bs (m.lo k)))
   have fin:Kp (ZbA (wr.setCell ⟨w.heap.size+1,k,none⟩ (.string (bs (m.lo k)))) (w.heap.size+1) (ZpE m.lo (k+1))∧ZbA (wr.setCell ⟨w.heap.size+1,k,none⟩ (.string (bs (m.lo k)))) w.heap.size (λ_=>{data:=#[]})∧Below w.heap.size w (wr.setCell ⟨w.heap.size+1,k,none⟩ (.string (bs (m.lo k))))):=⟨by
    refine⟨?_,R2,hB2⟩
    have e:(λj=>if j=k then bs (m.lo k) else ZpE m.lo k j)=ZpE m.lo (k+1):=by
     funext j
     unfold ZpE
     by_cases e:j=k
     ·subst e;rw[if_pos rfl,if_pos (by omega)]
     ·rw[if_neg e]
      by_cases e2:j<k
      ·rw[if_pos e2,if_pos (by omega)]
      ·rw[if_neg e2,if_neg (by omega)]
    rw[<-e]
    exact L2⟩
   generalize bs (m.lo k)=y at *
   generalize S k=sv at *
   clear L R hB H1 hS L2 R2 hB2
   go_wp2_with fail
   go_roundw
   case rel=>exact⟨k+1,by omega,by go_num,fin⟩
   case measure=>simp[intOf];omega
  ·have e6:k=6:=by omega
   subst e6
   have l0:=L.c 0 (by omega)
   have l1:=L.c 1 (by omega)
   have l2:=L.c 2 (by omega)
   have l3:=L.c 3 (by omega)
   have l4:=L.c 4 (by omega)
   have l5:=L.c 5 (by omega)
   have r0:=R.c 0 (by omega)
   have r1:=R.c 1 (by omega)
   have r2:=R.c 2 (by omega)
   have r3:=R.c 3 (by omega)
   have r4:=R.c 4 (by omega)
   have r5:=R.c 5 (by omega)
   have f0:=R.f 0 (by omega)
   have f1:=R.f 1 (by omega)
   have f2:=R.f 2 (by omega)
   have f3:=R.f 3 (by omega)
   have f4:=R.f 4 (by omega)
   have f5:=R.f 5 (by omega)
   have z:∀j:Nat,j<6->ZpE m.lo 6 j=bs (m.lo j):=λj hj=>by unfold ZpE;rw[if_pos hj]
   rw[z 0 (by omega)]at l0
   rw[z 1 (by omega)]at l1
   rw[z 2 (by omega)]at l2
   rw[z 3 (by omega)]at l3
   rw[z 4 (by omega)]at l4
   rw[z 5 (by omega)]at l5
   have hB9:=(((((hB.setCell (p:=⟨w.heap.size,0,none⟩) (Qb _) (.string (bs (m.lo (0:Nat))))).setCell (p:=⟨w.heap.size,1,none⟩) (Qb _) (.string (bs (m.lo (1:Nat))))).setCell (p:=⟨w.heap.size,2,none⟩) (Qb _) (.string (bs (m.lo (2:Nat))))).setCell (p:=⟨w.heap.size,3,none⟩) (Qb _) (.string (bs (m.lo (3:Nat))))).setCell (p:=⟨w.heap.size,4,none⟩) (Qb _) (.string (bs (m.lo (4:Nat))))).setCell (p:=⟨w.heap.size,5,none⟩) (Qb _) (.string (bs (m.lo (5:Nat))))
   replace hB9:=Z_ hB9
   clear z L R hB H'
   go_wp2
   exact bodyPost_ret (v:=Zhu λl=>bs (m.lo l)) (by simp[results,Tryz.results70,go_sem,r0,r1,r2,r3,r4,r5,Zhu]) rfl ⟨rfl,hB9.out⟩
theorem Own.grown{w':World}{vs:List Value}{row:Option Nat}(h:Own w b vs)(hg:w.grownBy w' row)(hne:some b≠row):Own w' b vs:=
 ⟨Qq h.lt hg.size,λi v hv=>by rw[Qo (w:=w) (hg.block b h.lt hne)];exact h.c i v hv,λi v hv=>by rw[Qz (w:=w) (hg.block b h.lt hne)];exact h.f i v hv⟩
theorem Zfk(b:Nat)(n:Int)(t v c:ZB)(T:Int->ZB)(m:Hnd)(w:World)(H:YB w b n t v c T m)(hc:c.size<=maxLen)(hv8:v.size<=8)(V:Kp (Vals m)) :
  Calls prog 71 #[.pointer (some ⟨b,0,none⟩)] w λe w'=>e=.returned (.string (bs (lst m.va v.size)))∧Below w.heap.size w w':=by
 have c0:=H.c0
 have c1:=H.c1
 have c2:=H.c2
 have c3:=H.c3
 have hlt:=H.lt
 have hI:=λw1=>ZoF n t v c w1 hc (by unfold maxLen;omega)
 replace hI:=Z_ hI
 have H':Kp _:=⟨H⟩
 obtain⟨i0,hi0,hz0,hz1,hz2⟩:=info_parts Zh8
 have hvi:(v.size:Int)<=8:=by omega
 clear H hc
 go_enter func71,ntmps71
 go_wp2_with fail
 refine(hI.out _).mono ?_
 rintro e w1 ⟨rfl,hb1⟩
 have H1:=H'.out.step hb1
 have hs1:=hb1.size
 have O1:=Own.new3 w1 (.int .i64 n) (.int .i64 v.size) (.int .i64 (half c)) 165
 have O2:=O1.alloc (.cells #[] 5)
 have W2:Kp ((((w1.alloc (.cells #[.int .i64 n,.int .i64 v.size,.int .i64 (half c)] 165)).alloc (.cells #[] 5)).ownsRow (w1.heap.size+1) 5 1 (.slice (some ⟨w1.heap.size+1,0,none⟩) 0 0) 0 [])∧Below w1.heap.size w1 ((w1.alloc (.cells #[.int .i64 n,.int .i64 v.size,.int .i64 (half c)] 165)).alloc (.cells #[] 5))):=⟨by
  have:=World.ownsRow_lit (base:=w1.heap.size+1) (e:=5) (size:=1) (w1.alloc (.cells #[.int .i64 n,.int .i64 v.size,.int .i64 (half c)] 165)) #[] 0 (by simp) (by unfold maxLen;omega) rfl
  simpa using this,((Below.refl _ _).alloc (Nat.le_refl _) _).alloc (by simp) _⟩
 replace O2:=Z_ O2
 clear O1 c0 c1 c2 c3 H'
 go_wp2_with fail
 go_loopw [4,5] (λhv lv wr=>∃k:Nat,k<=v.size∧lv=.int .i64 k∧Kp (wr.ownsRow (w1.heap.size+1) 5 1 hv k ((lst m.va k).map (Value.int .u8)))∧Kp (Own wr w1.heap.size [.int .i64 n,.int .i64 v.size,.int .i64 (half c)])∧Kp (Below w1.heap.size w1 wr)) (λ_ lv _=>v.size-(intOf lv).toNat)
 case atStart=>exact⟨0,by omega,rfl,⟨W2.out.1⟩,O2,⟨W2.out.2⟩⟩
 case round=>
  clear O2 W2
  obtain⟨k,hk,rfl,hrow,hO,hB⟩:=hrel
  have ol:=hO.out.lt
  have o1:=hO.out.c 1 _ rfl
  by_cases hkv:k<v.size
  ·have hki:(k:Int)<(v.size:Int):=by omega
   have hk8:(k:Int)<8:=by omega
   have H2:=H1.step hB.out
   have g0:=H2.va k (by omega)
   obtain⟨x0,x9⟩:=V.out.va k
   generalize hx:m.va k=x at *
   have hw8:IntKind.u8.wrap x=x:=Zfi x0 x9
   replace hx:=Z_ hx
   clear H2
   go_wp2_with (at_builtin;refine wpList_append_own _ rfl _ _ 56 rfl (w1.heap.size+1) 5 i0 (.int .u8 0) 1 1 Tryz.underlying56 hi0 hz0 hz1 hz2 rfl (by decide) _ _ _ rfl (hrow.out.alloc _) ⟨wr.heap.size,0,none⟩ 1 1 [.int .u8 x] rfl rfl ?a1 ?a2 ?a3 ?a4 ?a5 ?_)
   case a1=>
    intro j u hj
    match j,hj with
    | 0,hj=>simp at hj;subst hj;simp[Addr.add]
   case a2=>intro u hu;simp at hu;subst hu;rfl
   case a3=>unfold maxLen;omega
   case a4=>omega
   case a5=>simp;omega
   intro v' w3 hown3 hgrow _
   have hrow3:Kp (w3.ownsRow (w1.heap.size+1) 5 1 v' (k+1) ((lst m.va (k+1)).map (Value.int .u8))):=⟨by rw[ZjZ,QK,hx.out];exact hown3⟩
   have hO3:Kp (Own w3 w1.heap.size [.int .i64 n,.int .i64 v.size,.int .i64 (half c)]):=⟨(hO.out.alloc _).grown hgrow (λe=>by have:=(hrow.out.lt _ e.symm).1;omega)⟩
   have hB3:Kp (Below w1.heap.size w1 w3):=⟨(hB.out.alloc (Uf ol) _).grown hgrow (by simp;omega) (λj hj=>Nat.le_of_succ_le (hrow.out.lt j hj).1)⟩
   clear hown3 hgrow hrow hO hB ol o1 g0
   go_wp2_with fail
   go_roundw
   case rel=>exact⟨k+1,by omega,by go_num,hrow3,hO3,hB3⟩
   case measure=>simp[intOf];omega
  ·have e8:k=v.size:=by omega
   have hcv:=ZeN (lst m.va k) (by rw[Zmf];exact hrow.out)
   rw[e8]at hcv
   rw[e8]
   have hBe:Kp (Below w.heap.size w wr):=⟨hb1.trans (hB.out.mono hs1)⟩
   clear hrow hO hB hb1 H1
   obtain⟨y,hy⟩:∃y,bs (lst m.va v.size)=y:=⟨_,rfl⟩
   rw[hy]at hcv
   replace hy:=Z_ hy
   go_wp2
   go_ret
   exact⟨by rw[hy.out];rfl,hBe.out⟩
end Go.Proofs.YtcnbifdlkalimabGreat
