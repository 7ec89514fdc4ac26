import Derived.Test.YtcnbifdlkalimabGreatMchC
import Derived.Deep.QuietTactic
import Derived.BigQuiet
import Derived.Deep.RegionWith
import Derived.Test.YtcnbifdlkalimabGreatPlainR
import Derived.Test.YtcnbifdlkalimabGreatPrgM
import Derived.Laws.StructEq
/- Lemmas for the statement Means; their conditions stand in each. -/
namespace Go.Proofs.YtcnbifdlkalimabGreat
open Go.RowKit Go.Proofs.Tryz
set_option linter.unusedVariables false
set_option maxRecDepth 100000
variable{m:Hnd}{T:Int->ZB}{b p:Nat}{w:World}
structure ZV(w:World)(b:Nat)(T:Int->ZB)(m:Hnd):Prop where
 lt:b<w.heap.size
 tp:∀j:Nat,j<6->w.cell? ⟨b,j,none⟩=some (.string (tl (T j) (m.po j)))
 lo:∀j:Nat,j<6->w.cell? ⟨b,6+j,none⟩=some (.string (bs (m.lo j)))
 va:∀j:Nat,j<8->w.cell? ⟨b,12+j,none⟩=some (.int .i64 (m.va j))
 f:∀j:Nat,j<20->w.frozen? ⟨b,j,none⟩=false
theorem ZV.step{w1:World}(H:ZV w b T m)(hb:Below w.heap.size w w1):ZV w1 b T m:=by
 have key:∀k:Nat,w1.cell? ⟨b,k,none⟩=w.cell? ⟨b,k,none⟩:=λk=>hb.cell (p:=⟨b,k,none⟩) H.lt
 exact⟨Qq H.lt hb.size,λj hj=>(key _).trans (H.tp j hj),λj hj=>(key _).trans (H.lo j hj),λj hj=>(key _).trans (H.va j hj),λj hj=>by rw[hb.frozen (p:=⟨b,j,none⟩) H.lt];exact H.f j hj⟩
theorem ZV.setVa(H:ZV w b T m)(hp:p<8)(y:Int):ZV (w.setCell ⟨b,12+p,none⟩ (.int .i64 y)) b T {m with va:=up m.va p y}:=by
 have key:∀k:Nat,k≠12+p->(w.setCell ⟨b,12+p,none⟩ (.int .i64 y)).cell? ⟨b,k,none⟩=w.cell? ⟨b,k,none⟩:=λk hk=>ZL _ _ _ _ _ (by omega)
 refine⟨by simpa using H.lt,λj hj=>(key _ (by omega)).trans (H.tp j hj),λj hj=>(key _ (by omega)).trans (H.lo j hj),λj hj=>?_,λj hj=>by rw[World.frozen?_setCell];exact H.f j hj⟩
 by_cases e:j=p
 ·subst e
  rw[Qk _ _ _ (H.va j hj)]
  show _=some (Value.int .i64 (up m.va (j:Int) y j))
  rw[Zcq]
 ·rw[key _ (by omega)]
  show _=some (Value.int .i64 (up m.va (p:Int) y j))
  rw[Zcf (by omega)]
  exact H.va j hj
theorem ZV.setPo(H:ZV w b T m)(hp:p<6):ZV (w.setCell ⟨b,p,none⟩ (.string (tl (T p) ((m.po p+1:Nat):Int)))) b T {m with po:=up m.po p (m.po p+1)}:=by
 have key:∀k:Nat,k≠p->(w.setCell ⟨b,p,none⟩ (.string (tl (T p) ((m.po p+1:Nat):Int)))).cell? ⟨b,k,none⟩=w.cell? ⟨b,k,none⟩:=λk hk=>ZL _ _ _ _ _ (by omega)
 refine⟨by simpa using H.lt,λj hj=>?_,λj hj=>(key _ (by omega)).trans (H.lo j hj),λj hj=>(key _ (by omega)).trans (H.va j hj),λj hj=>by rw[World.frozen?_setCell];exact H.f j hj⟩
 by_cases e:j=p
 ·subst e
  rw[Qk _ _ _ (H.tp j hj)]
  show _=some (Value.string (tl (T j) ((up m.po (j:Int) (m.po j+1) j:Nat):Int)))
  rw[Zcq]
 ·rw[key _ (by omega)]
  show _=some (Value.string (tl (T j) ((up m.po (p:Int) (m.po p+1) j:Nat):Int)))
  rw[Zcf (by omega)]
  exact H.tp j hj
theorem ZV.over(H:ZV w b T m)(h:(T p).size<=m.po p):ZV w b T {m with po:=up m.po p (m.po p+1)}:=by
 refine⟨H.lt,λj hj=>?_,H.lo,H.va,H.f⟩
 by_cases e:j=p
 ·subst e
  show _=some (Value.string (tl (T j) ((up m.po (j:Int) (m.po j+1) j:Nat):Int)))
  rw[Zcq,Zi0 (by omega),H.tp j hj,Zi0 h]
 ·show _=some (Value.string (tl (T j) ((up m.po (p:Int) (m.po p+1) j:Nat):Int)))
  rw[Zcf (by omega)]
  exact H.tp j hj
theorem ZV.setLo(H:ZV w b T m)(hp:p<6)(x:Int):ZV (w.setCell ⟨b,6+p,none⟩ (.string (bs (m.lo p)++bs [x]))) b T {m with lo:=up m.lo p (m.lo p++[x])}:=by
 have key:∀k:Nat,k≠6+p->(w.setCell ⟨b,6+p,none⟩ (.string (bs (m.lo p)++bs [x]))).cell? ⟨b,k,none⟩=w.cell? ⟨b,k,none⟩:=λk hk=>ZL _ _ _ _ _ (by omega)
 refine⟨by simpa using H.lt,λj hj=>(key _ (by omega)).trans (H.tp j hj),λj hj=>?_,λj hj=>(key _ (by omega)).trans (H.va j hj),λj hj=>by rw[World.frozen?_setCell];exact H.f j hj⟩
 by_cases e:j=p
 ·subst e
  rw[Qk _ _ _ (H.lo j hj)]
  show _=some (Value.string (bs (up m.lo (j:Int) (m.lo j++[x]) j)))
  rw[Zcq,Zg]
 ·rw[key _ (by omega)]
  show _=some (Value.string (bs (up m.lo (p:Int) (m.lo p++[x]) j)))
  rw[Zcf (by omega)]
  exact H.lo j hj
theorem Zmv(W:World)(g:Nat)(x:Int)(h0:0<=x)(h1:x<=255)(hc:W.cell? ⟨g,0,none⟩=some (.int .u8 x)):(convert 56 9 (.slice (some ⟨g,0,none⟩) 1 1)).run prog W=.ok (.string (bs [x])) W:=by
 have h:=run_convert_bytes_back (P:=prog) W 56 9 5 ⟨g,0,none⟩ 1 [UInt8.ofNat x.toNat] Tryz.underlying56 Tryz.underlying5 Tryz.underlying9 (λj hj=>by
  have e:j=0:=by simp at hj;omega
  subst e
  have hadd:(⟨g,0,none⟩:Addr).add 0=⟨g,0,none⟩:=by unfold Addr.add;split<;>simp_all
  rw[hadd,hc]
  simp
  omega)
 exact h
set_option maxHeartbeats 6400000
theorem Zgj(x:Int)(w:World)(h0:0<=x)(h1:x<=255):Calls prog 51 #[.int .i64 x] w λe w'=>e=.returned (.string (bs [x]))∧Below w.heap.size w w':=by
 have hw8:IntKind.u8.wrap x=x:=Zfi h0 h1
 go_enter func51,ntmps51
 go_wp2_with fail
 rw[Zmv _ _ x h0 h1 (by simp[go_sem])]
 go_wp2
 go_ret
 exact⟨rfl,(Qh _ _).alloc (Qb _) _⟩
theorem Zk5(op x y:Int)(w:World)(ho:3<=op∧op<=7)(hx:0<=x∧x<=255)(hy:0<=y∧y<=255) :
  Calls prog 197 #[.int .i64 op,.int .i64 x,.int .i64 y] w λe w'=>e=.returned (.int .i64 (reckon op x y))∧w'=w:=by
 obtain⟨o1,o2⟩:=ho
 have hm:=Zpm hx hy
 obtain⟨x1,x2⟩:=hx
 obtain⟨y1,y2⟩:=hy
 obtain⟨m1,m2⟩:=hm
 have hcs:op=3∨op=4∨op=5∨op=6∨op=7:=by omega
 rcases hcs with rfl|rfl|rfl|rfl|rfl
 ·have e:reckon 3 x y=(x+y)%256:=by unfold reckon;simp
  rw[e]
  go_enter func197,ntmps197
  go_wp2
  go_ret
  exact⟨ZR (by omega),rfl⟩
 ·have e:reckon 4 x y=(x+256-y)%256:=by unfold reckon;simp
  rw[e]
  go_enter func197,ntmps197
  go_wp2
  go_ret
  exact⟨ZR (by omega),rfl⟩
 ·have e:reckon 5 x y=x*y%256:=by unfold reckon;simp
  rw[e]
  go_enter func197,ntmps197
  go_wp2
  go_ret
  exact⟨ZR (by omega),rfl⟩
 ·by_cases h:x<y
  ·have e:reckon 6 x y=1:=by unfold reckon;simp[h]
   rw[e]
   go_enter func197,ntmps197
   go_wp2
   go_ret
   exact⟨rfl,rfl⟩
  ·have e:reckon 6 x y=0:=by unfold reckon;simp[h]
   rw[e]
   go_enter func197,ntmps197
   go_wp2
   go_ret
   exact⟨rfl,rfl⟩
 ·by_cases h:x=y
  ·have e:reckon 7 x y=1:=by unfold reckon;simp[h]
   have hb:(x==y)=true:=QL.2 h
   rw[e]
   go_enter func197,ntmps197
   go_wp2
   go_ret
   exact⟨rfl,rfl⟩
  ·have e:reckon 7 x y=0:=by unfold reckon;simp[h]
   have hb:(x==y)=false:=Qf.2 h
   rw[e]
   go_enter func197,ntmps197
   go_wp2
   go_ret
   exact⟨rfl,rfl⟩
theorem Zoj(b:Nat)(T:Int->ZB)(m:Hnd)(l:Nat)(w:World)(H:ZV w b T m)(hl:l<6)(hT:(T l).size<=maxLen) :
  Calls prog 196 #[.pointer (some ⟨b,0,none⟩),.int .i64 l] w λe w'=>e=.returned (.int .i64 (bv (T l) (m.po l)))∧ZV w' b T {m with po:=up m.po l (m.po l+1)}∧But b w.heap.size w w':=by
 have a0:=H.tp l hl
 have f0:=H.f l (by omega)
 have hlt:=H.lt
 have hli:(l:Int)<6:=by omega
 by_cases hs:(T l).size<=m.po l
 ·have H1:Kp _:=⟨H.over hs⟩
  have hv:bv (T l) (m.po l)=0:=Zmg (by omega)
  rw[Zi0 hs]at a0
  rw[hv]
  clear H hv hs hT
  go_enter func196,ntmps196
  go_wp2
  go_ret
  exact⟨rfl,H1.out,But.refl _ _ _⟩
 ·have hs2:m.po l<(T l).size:=by omega
  have H1:=H.setPo hl
  have hv:=Zso (s:=T l) (k:=m.po l) hs2
  have hz:=Zi1 (T l) (m.po l)
  have ht:=Zsn (T l) (m.po l)
  obtain⟨x0,x9⟩:=Zag (T l) (m.po l)
  obtain⟨t,hte⟩:∃t,tl (T l) (m.po l)=t:=⟨_,rfl⟩
  rw[hte]at a0 hv hz ht
  rw[<-ht]at H1
  have hz1:1<=t.size:=by omega
  have hp:=ZS t 0 hz1
  rw[show ((0:Nat):Int)=0 from rfl,hv]at hp
  obtain⟨x,hx⟩:∃x,bv (T l) (m.po l)=x:=⟨_,rfl⟩
  rw[hx]at hp x0 x9 ⊢
  have hz2:t.size<=9223372036854775807:=by unfold maxLen at hT;omega
  have hne:(t.toList==[])=false:=by
   rw[Ur]
   apply Qf.2
   intro e
   have:t.data.toList.length=0:=by rw[e];rfl
   have h2:t.data.toList.length=t.size:=by simp
   omega
  have eT:tl t 1=t.extract 1 t.size:=rfl
  rw[eT]at H1
  have hB:Kp (But b w.heap.size w (w.setCell ⟨b,l,none⟩ (.string (t.extract 1 t.size)))):=⟨(But.refl b _ w).setCell l _⟩
  replace H1:=Z_ H1
  clear H hv hz ht hte hx hs hs2 hT eT
  go_enter func196,ntmps196
  go_wp2_with fail
  go_region_with (fail)
  all_goals
   go_wp2
   go_ret
   exact⟨rfl,H1.out.step (Qh _ _).drew,hB.out.trans (But.of (Qh _ _).drew)⟩
theorem Zok(b:Nat)(T:Int->ZB)(m:Hnd)(l:Nat)(x:Int)(w:World)(H:ZV w b T m)(hl:l<6)(h0:0<=x)(h1:x<=255)(hlen:(m.lo l).length<=20000) :
  Calls prog 144 #[.pointer (some ⟨b,0,none⟩),.int .i64 l,.int .i64 x] w λe w'=>e=.returned (.tuple #[])∧ZV w' b T {m with lo:=up m.lo l (m.lo l++[x])}∧But b w.heap.size w w':=by
 have a0:=H.lo l hl
 have hlt:=H.lt
 have hli:(l:Int)<6:=by omega
 have hls:=Zc (m.lo l)
 have hxs:=Zc [x]
 obtain⟨lg,hlg⟩:∃lg,bs (m.lo l)=lg:=⟨_,rfl⟩
 obtain⟨xg,hxg⟩:∃xg,bs [x]=xg:=⟨_,rfl⟩
 rw[hlg]at a0 hls
 rw[hxg]at hxs
 have hxl:xg.size=1:=hxs
 have hs1:¬(9223372036854775807:Int)<(lg.size:Int)+xg.size:=by omega
 have hs2:¬(9223372036854775807:Int)<((lg.size+xg.size:Nat):Int):=by omega
 have hs3:(lg.size:Int)+xg.size<=9223372036854775807:=by omega
 have hby:=λW=>Zgj x W h0 h1
 rw[hxg]at hby
 replace hby:=Z_ hby
 have H':Kp _:=⟨H⟩
 replace hlg:=Z_ hlg
 replace hxg:=Z_ hxg
 clear H hls hxs
 go_enter func144,ntmps144
 go_wp2_with fail
 go_region_with ((go_at_call 51;refine(hby.out _).mono ?_;rintro e w1 ⟨rfl,b1⟩;have b2:Below w.heap.size w w1:=(Qh _ _).drew.trans b1;have H1:=H'.out.step b2;have c0:=H1.lo l hl;rw[hlg.out]at c0;have g0:=H1.f (6+l) (by omega);have hl1:=H1.lt))
 all_goals
  go_wp2_with fail
  first|go_end0|refine Qi (Qp rfl _ _ _) rfl ?_
  have hR:=H1.setLo hl x
  rw[hlg.out,hxg.out]at hR
  exact⟨rfl,hR,(But.of b2).setCell _ _⟩
def ZlI(en st:Int)(y:Nat->ZB)(v:ZB):Value:=.agg #[.int .i64 en,.int .i64 st,.string (y 0),.string (y 1),.string (y 2),.string (y 3),.string (y 4),.string (y 5),.string v]
theorem ZX.boxD(w:World)(t:TypeId)(en st:Int)(y:Nat->ZB)(v:ZB):ZX (w.alloc (.cells #[.int .i64 en,.int .i64 st,.string (y 0),.string (y 1),.string (y 2),.string (y 3),.string (y 4),.string (y 5),.string v] t)) w.heap.size en st y v:=by
 refine⟨by simp,by simp[go_sem],by simp[go_sem],λj hj=>?_,by simp[go_sem],λj hj=>?_⟩
 ·match j with
  | 0=>simp[go_sem]
  | 1=>simp[go_sem]
  | 2=>simp[go_sem]
  | 3=>simp[go_sem]
  | 4=>simp[go_sem]
  | 5=>simp[go_sem]
  | j+6=>omega
 ·simp[go_sem]
theorem Zk6(b:Nat)(T:Int->ZB)(m:Hnd)(en st:Int)(k:Nat)(w:World)(H:ZV w b T m)(V:Kp (Vals m))(hk:k<=8) :
  Calls prog 29 #[.pointer (some ⟨b,0,none⟩),.int .i64 en,.int .i64 st,.int .i64 k] w λe w'=>e=.returned (ZlI en st (λj=>bs (m.lo j)) (bs (lst m.va k)))∧Below w.heap.size w w':=by
 have hl:=H.lt
 have l0:=H.lo 0 (by omega)
 have l1:=H.lo 1 (by omega)
 have l2:=H.lo 2 (by omega)
 have l3:=H.lo 3 (by omega)
 have l4:=H.lo 4 (by omega)
 have l5:=H.lo 5 (by omega)
 obtain⟨y,hy⟩:∃y:Nat->ZB,∀j:Nat,bs (m.lo j)=y j:=⟨_,λ_=>rfl⟩
 rw[hy]at l0 l1 l2 l3 l4 l5
 have hyF:Kp ((λj:Nat=>bs (m.lo j))=y):=⟨by funext j;exact hy j⟩
 rw[hyF.out]
 obtain⟨w0,hw0⟩:∃w0,w0=(w.alloc (.cells #[.int .i64 0,.int .i64 0,.string {data:=#[]},.string {data:=#[]},.string {data:=#[]},.string {data:=#[]},.string {data:=#[]},.string {data:=#[]},.string {data:=#[]}] 36)).alloc (.cells #[.int .i64 en,.int .i64 st,.string (y 0),.string (y 1),.string (y 2),.string (y 3),.string (y 4),.string (y 5),.string {data:=#[]}] 36):=⟨_,rfl⟩
 have X0:ZX w0 w.heap.size 0 0 (λ_=>{data:=#[]}) {data:=#[]}:=by rw[hw0];exact(ZX.new w _ 0 0).step ((Qh _ _).alloc (Qb _) _)
 have Y0:ZX w0 (w.heap.size+1) en st y {data:=#[]}:=by
  rw[hw0]
  have:=ZX.boxD (w.alloc (.cells #[.int .i64 0,.int .i64 0,.string {data:=#[]},.string {data:=#[]},.string {data:=#[]},.string {data:=#[]},.string {data:=#[]},.string {data:=#[]},.string {data:=#[]}] 36)) 36 en st y {data:=#[]}
  simpa using this
 have hB0:Below w.heap.size w w0:=by rw[hw0];exact((Qh _ _).alloc (Qb _) _).alloc (by simp) _
 replace hw0:=Z_ hw0
 replace X0:=Z_ X0
 replace Y0:=Z_ Y0
 replace hB0:=Z_ hB0
 have H':Kp _:=⟨H⟩
 have hki:(k:Int)<=8:=by omega
 clear H hy
 go_enter func29,ntmps29
 go_wp2_with fail
 rw[<-hw0.out]
 clear hw0 l0 l1 l2 l3 l4 l5
 go_loopw [10] (λiv wr=>∃i:Nat,i<=k∧iv=.int .i64 i∧Kp (ZX wr w.heap.size 0 0 (λ_=>{data:=#[]}) {data:=#[]})∧Kp (ZX wr (w.heap.size+1) en st y (bs (lst m.va i)))∧Kp (Below w.heap.size w wr)) (λiv _=>k-(intOf iv).toNat)
 case atStart=>exact⟨0,by omega,rfl,X0,Y0,hB0⟩
 case round=>
  clear X0 Y0 hB0
  obtain⟨i,hi,rfl,X1,Y1,hB1⟩:=hrel
  have hyl:=Y1.out.lt
  by_cases hik:i<k
  ·have hii:(i:Int)<k:=by omega
   have hi8:(i:Int)<8:=by omega
   have H1:=H'.out.step hB1.out
   have q0:=H1.va i (by omega)
   have cv:=Y1.out.cv
   have fv:=Y1.out.f 8 (by omega)
   have hvs:=Zc (lst m.va i)
   rw[Zmf]at hvs
   obtain⟨x0,x9⟩:=V.out.va i
   obtain⟨x,hx⟩:∃x,m.va i=x:=⟨_,rfl⟩
   rw[hx]at q0 x0 x9
   have hby:=λW=>Zgj x W x0 x9
   have hxs:=Zc [x]
   obtain⟨xg,hxg⟩:∃xg,bs [x]=xg:=⟨_,rfl⟩
   obtain⟨vg,hvg⟩:∃vg,bs (lst m.va i)=vg:=⟨_,rfl⟩
   rw[hxg]at hby hxs
   rw[hvg]at cv hvs
   have hxl:xg.size=1:=hxs
   have hs1:¬(9223372036854775807:Int)<(vg.size:Int)+xg.size:=by omega
   have hs2:¬(9223372036854775807:Int)<((vg.size+xg.size:Nat):Int):=by omega
   have hnx:Kp (vg++xg=bs (lst m.va (i+1))):=⟨by rw[<-hvg,<-hxg,ZjZ,Zg,hx]⟩
   replace hby:=Z_ hby
   replace hvg:=Z_ hvg
   clear hxs hvs H1 hxg hx
   go_wp2_with fail
   go_region_with ((go_at_call 51;refine(hby.out _).mono ?_;rintro e w1 ⟨rfl,b1⟩;have b2:Below wr.heap.size wr w1:=(Qh _ _).drew.trans b1;have X2:=X1.out.step b2;have Y2:=Y1.out.step b2;have dv:=Y2.cv;rw[hvg.out]at dv;have gv:=Y2.f 8 (by omega);have hy2:=Y2.lt))
   all_goals
    have Y3:=Y2.setVars (vg++xg)
    rw[hnx.out]at Y3
    have X3:=X2.but ((But.refl (w.heap.size+1) w1.heap.size w1).setCell 8 (.string (vg++xg))) (by omega)
    have hB3:=(hB1.out.trans (b2.mono hB1.out.size)).setCell (p:=⟨w.heap.size+1,8,none⟩) (by show w.heap.size<=w.heap.size+1;omega) (.string (vg++xg))
    rw[hnx.out]at X3 hB3
    rw[hnx.out]
    replace Y3:=Z_ Y3
    replace X3:=Z_ X3
    replace hB3:=Z_ hB3
    clear X2 Y2 b1 b2 X1 Y1 hB1 dv gv
    go_wp2_with fail
    go_roundw
    case rel=>exact⟨i+1,by omega,by go_num,X3,Y3,hB3⟩
    case measure=>simp[intOf];omega
  ·have e:i=k:=by omega
   subst e
   have d0:=Y1.out.c0
   have d1:=Y1.out.c1
   have d2:=Y1.out.cl 0 (by omega)
   have d3:=Y1.out.cl 1 (by omega)
   have d4:=Y1.out.cl 2 (by omega)
   have d5:=Y1.out.cl 3 (by omega)
   have d6:=Y1.out.cl 4 (by omega)
   have d7:=Y1.out.cl 5 (by omega)
   have d8:=Y1.out.cv
   have r0:=X1.out.c0
   have r1:=X1.out.c1
   have r2:=X1.out.cl 0 (by omega)
   have r3:=X1.out.cl 1 (by omega)
   have r4:=X1.out.cl 2 (by omega)
   have r5:=X1.out.cl 3 (by omega)
   have r6:=X1.out.cl 4 (by omega)
   have r7:=X1.out.cl 5 (by omega)
   have r8:=X1.out.cv
   have f0:=X1.out.f 0 (by omega)
   have f1:=X1.out.f 1 (by omega)
   have f2:=X1.out.f 2 (by omega)
   have f3:=X1.out.f 3 (by omega)
   have f4:=X1.out.f 4 (by omega)
   have f5:=X1.out.f 5 (by omega)
   have f6:=X1.out.f 6 (by omega)
   have f7:=X1.out.f 7 (by omega)
   have f8:=X1.out.f 8 (by omega)
   obtain⟨vg,hvg⟩:∃vg,bs (lst m.va i)=vg:=⟨_,rfl⟩
   rw[hvg]at d8
   replace hvg:=Z_ hvg
   have hBX:=hB1.out
   have hwx:w.heap.size<=w.heap.size:=Qb _
   clear X1 Y1 hB1 H'
   go_wp2
   exact bodyPost_ret (v:=ZlI en st y vg) (by simp[results,Tryz.results29,go_sem,r0,r1,r2,r3,r4,r5,r6,r7,r8,ZlI]) rfl ⟨by rw[hvg.out],((((((((hBX.setCell hwx _).setCell hwx _).setCell hwx _).setCell hwx _).setCell hwx _).setCell hwx _).setCell hwx _).setCell hwx _).setCell hwx _⟩
theorem ZV.new(w:World)(t:TypeId)(T:Int->ZB):ZV (w.alloc (.cells #[.string (T 0),.string (T 1),.string (T 2),.string (T 3),.string (T 4),.string (T 5),.string {data:=#[]},.string {data:=#[]},.string {data:=#[]},.string {data:=#[]},.string {data:=#[]},.string {data:=#[]},.int .i64 0,.int .i64 0,.int .i64 0,.int .i64 0,.int .i64 0,.int .i64 0,.int .i64 0,.int .i64 0] t)) w.heap.size T start:=by
 refine⟨by simp,λj hj=>?_,λj hj=>?_,λj hj=>?_,λj hj=>by simp[go_sem]⟩
 ·show _=some (Value.string (tl (T j) ((0:Nat):Int)))
  rw[show ((0:Nat):Int)=0 from rfl,Zp5]
  match j with
  | 0=>simp[go_sem]
  | 1=>simp[go_sem]
  | 2=>simp[go_sem]
  | 3=>simp[go_sem]
  | 4=>simp[go_sem]
  | 5=>simp[go_sem]
  | j+6=>omega
 ·show _=some (Value.string (bs []))
  rw[Zro]
  match j with
  | 0=>simp[go_sem]
  | 1=>simp[go_sem]
  | 2=>simp[go_sem]
  | 3=>simp[go_sem]
  | 4=>simp[go_sem]
  | 5=>simp[go_sem]
  | j+6=>omega
 ·show _=some (Value.int .i64 0)
  match j with
  | 0=>simp[go_sem]
  | 1=>simp[go_sem]
  | 2=>simp[go_sem]
  | 3=>simp[go_sem]
  | 4=>simp[go_sem]
  | 5=>simp[go_sem]
  | 6=>simp[go_sem]
  | 7=>simp[go_sem]
  | j+8=>omega
theorem Zqd(d:Nat)(y:ZB)(w:World):(Op.equalIn (d+1) 9 (.string y) (.string y)).run prog w=.ok true w:=by
 simp only[Op.equalIn,run_underlying Tryz.underlying9,Ue,Sem.run_pure,Uo]
 rw[beq_toListBytes]
 simp
theorem Zb4(xs:Array Value)(i:Nat)(v:Value)(w:World)(h:xs[i]?=some v):(part 9 xs i).run prog w=.ok v w:=by
 have hA:(isAgg 9).run prog w=.ok false w:=by
  unfold isAgg
  rw[Ue,run_underlying Tryz.underlying9 w]
  simp
 unfold part
 simp[Sem.run_bind,hA,h]
theorem Zol(d:Nat)(y0 y1 y2 y3 y4 y5:ZB)(w:World):(Op.equalIn (d+2) 23 (.agg #[.string y0,.string y1,.string y2,.string y3,.string y4,.string y5]) (.agg #[.string y0,.string y1,.string y2,.string y3,.string y4,.string y5])).run prog w=.ok true w:=by
 have hz:(sizeOf 9).run prog w=.ok 1 w:=by
  unfold sizeOf typeInfo
  cases hq:prog.info? 9 with
  | none=>
   have:(prog.info? 9).isSome=true:=by kernel_rfl
   rw[hq]at this
   exact absurd this (by simp)
  | some i=>
   have h1:(prog.info? 9).map (·.size)=some 1:=by kernel_rfl
   rw[hq]at h1
   have h2:i.size=1:=by simpa using h1
   simp[Sem.run_bind,hq,h2]
 unfold Op.equalIn
 simp only[Ue,run_underlying Tryz.underlying23,Uo,hz]
 simp only[Std.Legacy.Range.forIn_eq_forIn_range',Std.Legacy.Range.size,Nat.sub_zero,Nat.add_sub_cancel,Nat.div_one,List.range'_succ,List.range'_zero]
 simp[Sem.run_bind,Zqd,Zb4 _ 0 (.string y0),Zb4 _ 1 (.string y1),Zb4 _ 2 (.string y2),Zb4 _ 3 (.string y3),Zb4 _ 4 (.string y4),Zb4 _ 5 (.string y5)]
theorem Zom(en st:Int)(y:Nat->ZB)(v:ZB)(w:World) :
  Calls prog 11 #[ZlI en st y v,ZlI en st y v] w λe w'=>e=.returned (.bool true)∧Below w.heap.size w w':=by
 have hQ:∀(y0 y1 y2 y3 y4 y5:ZB) (w:World),(Op.equalIn 10000 23 (.agg #[.string y0,.string y1,.string y2,.string y3,.string y4,.string y5]) (.agg #[.string y0,.string y1,.string y2,.string y3,.string y4,.string y5])).run prog w=.ok true w:=Zol 9998
 unfold ZlI
 go_enter func11,ntmps11
 go_wp2
 go_ret
 exact⟨Zd (by simp),((Qh _ _).alloc (Qb _) _).alloc (by simp) _⟩
theorem ZdE(e0:Int)(w:World) :
  Calls prog 8 #[.int .i64 e0] w λe w'=>e=.returned (.int .i64 e0)∧w'=w:=by
 go_enter func8,ntmps8
 go_wp2
 go_ret
 exact⟨rfl,rfl⟩
end Go.Proofs.YtcnbifdlkalimabGreat
