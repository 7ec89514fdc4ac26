import Derived.Test.YtcnbifdlkalimabGreatRdrG
import Derived.Test.YtcnbifdlkalimabGreatSrcC
import Derived.Test.YtcnbifdlkalimabGreatRefB
import Derived.Deep.RegionHeld3
import Derived.Test.YtcnbifdlkalimabGreatRdrF
import Derived.Test.YtcnbifdlkalimabGreatRdrM
/- Lemmas for the statement Means; their conditions stand in each. -/
namespace Go.Proofs.YtcnbifdlkalimabGreat
open Go.RowKit Go.Proofs.Tryz
set_option linter.unusedVariables false
set_option maxRecDepth 100000
theorem Znm{ex:List Ex}(hE:Z7 ex):∀e,e<ex.length->need ex e<=e+1:=by
 have key:∀k e,e<k->e<ex.length->need ex e<=e+1:=by
  intro k
  induction k with
  | zero=>intro e h;omega
  | succ k ih=>
   intro e hk he
   have hx:ex[e]?=some ex[e]:=Qn he
   by_cases hl:ex[e].op=0∨ex[e].op=1∨ex[e].op=10
   ·have:need ex e=1:=by unfold need;rw[ZaE _ _ _ hE hx,if_pos hl]
    omega
   ·rcases hE e _ hx with c|⟨c,d⟩
    ·exact absurd c hl
    ·have h1:=ih _ (by omega) (Nat.lt_trans c he)
     have h2:=ih _ (by omega) (Nat.lt_trans d he)
     have:need ex e=max (need ex ex[e].l) (need ex ex[e].r+1):=by unfold need;rw[ZaE _ _ _ hE hx,if_neg hl]
     omega
 exact λe he=>key _ e (Nat.lt_succ_self e) he
def NGo(rb sb B:Nat)(s tb:ZB)(tp:Value)(p:Rs)(S:Nat->Value)(sv:List (Value×Value))(k:Nat):Prop:=∀(e:Nat) (w:World),e<k->Zx w rb sb B s p tb tp S sv->e<p.ex.length->
 Calls prog 21 #[.pointer (some ⟨sb,0,none⟩),.int .i64 e] w λen w'=>en=.returned (.int .i64 (need p.ex e))∧Below w.heap.size w w'
set_option maxHeartbeats 6400000
theorem Znn(rb sb B:Nat)(s tb:ZB)(tp:Value)(p:Rs)(S:Nat->Value)(sv:List (Value×Value))(hE:Z7 p.ex)(hm:p.ex.length<=20000)(e:Nat)(ih:Kp (NGo rb sb B s tb tp p S sv e))(w:World)(H:Zx w rb sb B s p tb tp S sv)(x:Ex)(hx:p.ex[e]?=some x) :
  Calls prog 21 #[.pointer (some ⟨sb,0,none⟩),.int .i64 e] w λen w'=>en=.returned (.int .i64 (need p.ex e))∧Below w.heap.size w w':=by
 have hnd:need p.ex e=if x.op=0∨x.op=1∨x.op=10 then 1 else max (need p.ex x.l) (need p.ex x.r+1):=by unfold need;rw[ZaE _ _ _ hE hx]
 obtain⟨g,c,hS,hg,hc⟩:=H.node hx
 have he:e<p.ex.length:=(Ql.1 hx).1
 have c4:w.cell? ⟨sb,4,none⟩=some (.slice (some ⟨g,0,none⟩) p.ex.length c):=by rw[<-hS];exact H.c 0 (by omega)
 have d0:w.cell? ⟨g,e*4,none⟩=some (.int .i64 x.op):=hc 0 _ rfl
 have d1:=hc 1 _ rfl
 have d2:=hc 2 _ rfl
 have d3:=hc 3 _ rfl
 have hlt:=H.lt
 obtain⟨wx,hwx⟩:∃wx,w.alloc (.cells #[.int .i64 x.op,.int .i64 x.v,.int .i64 (x.l:Nat),.int .i64 (x.r:Nat)] 121)=wx:=⟨_,rfl⟩
 have Ox:=own4x w (.int .i64 x.op) (.int .i64 x.v) (.int .i64 (x.l:Nat)) (.int .i64 (x.r:Nat)) 121
 rw[hwx]at Ox
 have bx:Below w.heap.size w wx:=by rw[<-hwx];exact(Qh _ _).alloc (Qb _) _
 have hei:(e:Int)<(p.ex.length:Int):=by omega
 by_cases hp:x.op=0∨x.op=1∨x.op=10
 ·rw[hnd,if_pos hp]
  have hb:Kp (Below w.heap.size w (w.alloc (.cells #[.int .i64 x.op,.int .i64 x.v,.int .i64 (x.l:Nat),.int .i64 (x.r:Nat)] 121))):=⟨by rw[hwx];exact bx⟩
  generalize x.v=v at *
  generalize x.l=l at *
  generalize x.r=r at *
  generalize hop:x.op=op at *
  generalize p.ex.length=m at *
  clear H hE hx hc hS ih hnd hop hwx Ox bx
  have hcs:op=0∨op=1∨op=10:=hp
  clear hp
  rcases hcs with rfl|rfl|rfl
  ·go_enter func21,ntmps21
   go_wp2
   go_ret
   exact⟨rfl,hb.out⟩
  ·go_enter func21,ntmps21
   go_wp2
   go_ret
   exact⟨rfl,hb.out⟩
  ·go_enter func21,ntmps21
   go_wp2
   go_ret
   exact⟨rfl,hb.out⟩
 ·rw[hnd,if_neg hp]
  obtain⟨hxl,hxr⟩:=(hE e x hx).resolve_left hp
  have nl:=Znm hE x.l (by omega)
  have nr:=Znm hE x.r (by omega)
  have pl:=ZdA p.ex x.l
  have pr:=ZdA p.ex x.r
  have hC1:Kp (∀W,Below wx.heap.size wx W->Calls prog 21 #[.pointer (some ⟨sb,0,none⟩),.int .i64 (x.l:Nat)] W λen w'=>en=.returned (.int .i64 (need p.ex x.l))∧Below W.heap.size W w'):=⟨λW hW=>ih.out x.l W hxl (H.step (bx.trans (hW.mono bx.size))) (by omega)⟩
  have hC2:Kp (∀W,Below wx.heap.size wx W->Calls prog 21 #[.pointer (some ⟨sb,0,none⟩),.int .i64 (x.r:Nat)] W λen w'=>en=.returned (.int .i64 (need p.ex x.r))∧Below W.heap.size W w'):=⟨λW hW=>ih.out x.r W hxr (H.step (bx.trans (hW.mono bx.size))) (by omega)⟩
  have k0:(x.op==0)=false:=Qf.2 λh=>hp (.inl h)
  have k1:(x.op==1)=false:=Qf.2 λh=>hp (.inr (.inl h))
  have k2:(x.op==10)=false:=Qf.2 λh=>hp (.inr (.inr h))
  have nl2:need p.ex x.l<=30000:=by omega
  have nr2:need p.ex x.r<=30000:=by omega
  generalize need p.ex x.l=A at *
  generalize need p.ex x.r=C at *
  generalize x.op=op at *
  generalize x.v=v at *
  generalize x.l=l at *
  generalize x.r=r at *
  generalize p.ex.length=m at *
  replace Ox:=Z_ Ox
  replace bx:=Z_ bx
  replace hwx:=Z_ hwx
  clear H hE hx hc hS ih hnd hp hxl hxr nl nr
  go_enter func21,ntmps21
  go_wp2_with fail
  rw[hwx.out]
  refine(hC1.out _ (Qh _ _)).mono ?_
  rintro en w1 ⟨rfl,b1⟩
  obtain⟨gx,hgx⟩:∃gx,w.heap.size=gx:=⟨_,rfl⟩
  have O1:=Ox.out.step b1
  rw[hgx]at O1
  simp only[hgx]
  have x3:=O1.c 3 _ rfl
  clear d0 d1 d2 d3 c4 hC1 O1
  have hgx:Kp _:=⟨hgx⟩
  replace b1:=Z_ b1
  go_wp2_with fail
  refine(hC2.out _ b1.out).mono ?_
  rintro en w2 ⟨rfl,b2⟩
  have b3:Kp (Below w.heap.size w w2):=⟨bx.out.trans ((b1.out.trans (b2.mono b1.out.size)).mono bx.out.size)⟩
  clear b2 b1 x3
  by_cases hac:C+1<A
  ·go_wp2
   go_ret
   exact⟨ZR (by omega),b3.out⟩
  ·go_wp2
   go_ret
   exact⟨ZR (by omega),b3.out⟩
theorem Zkv(rb sb B:Nat)(s tb:ZB)(tp:Value)(p:Rs)(S:Nat->Value)(sv:List (Value×Value))(hE:Z7 p.ex)(hm:p.ex.length<=20000):∀k,NGo rb sb B s tb tp p S sv k
 | 0=>λe w hk=>by omega
 | k+1=>λe w hk H he=>Znn rb sb B s tb tp p S sv hE hm e ⟨λf w hf=>Zkv rb sb B s tb tp p S sv hE hm k f w (by omega)⟩ w H _ (Qn he)
theorem ZfE{T:ZB}{n:Int}(ht:Tab T n)(w:World) :
  Calls prog 23 #[.string T,.int .i64 n] w λe w'=>e=.returned (.int .i64 (botI T n))∧w'=w:=by
 obtain⟨t1,t2,-⟩:=id ht
 go_enter func23,ntmps23
 go_wp2
 go_loop [5] (λc=>∃k:Nat,(k:Int)<=n∧c=.int .i64 k∧Kp (∀i:Nat,i<k->pBot T n i=false)) (λc=>n.toNat-(intOf c).toNat)
 case atStart=>exact⟨0,by omega,rfl,⟨λi hi=>absurd hi (by omega)⟩⟩
 case round=>
  obtain⟨k,hk,rfl,hall⟩:=hrel
  by_cases hlt:(k:Int)<n
  ·go_wp2_with fail
   go_loop [6,7] (λo c=>∃m:Nat,(m:Int)<=n∧c=.int .i64 m∧∃x:Bool,o=.bool x∧Kp (x=Zw (λb=>le T n k b) m)) (λ_ c=>n.toNat-(intOf c).toNat)
   case atStart=>exact⟨0,by omega,rfl,true,rfl,⟨rfl⟩⟩
   case round=>
    obtain⟨m,hm,rfl,x,rfl,hx⟩:=hrel
    by_cases hlt2:(m:Int)<n
    ·go_wp2_with fail
     refine(Zas ht k m _ (by omega) hlt (by omega) hlt2).mono ?_
     rintro e w1 ⟨rfl,rfl⟩
     obtain⟨y,hy⟩:∃y,le T n k m=y:=⟨_,rfl⟩
     rw[hy]
     have hn:Kp ((x&&y)=Zw (λb=>le T n k b) (m+1)):=⟨by simp only[Zw];rw[<-hx.out,hy]⟩
     replace hy:=Z_ hy
     cases x<;>cases y
     all_goals
      go_wp2
      go_round
      case rel=>exact⟨m+1,by omega,by go_num,_,rfl,⟨by simpa using hn.out⟩⟩
      case measure=>simp[intOf];omega
    ·have hmn:Kp (x=pBot T n k):=⟨by unfold pBot;rw[hx.out,show n.toNat=m from by omega]⟩
     cases x
     ·go_wp2
      go_round
      case rel=>exact⟨k+1,by omega,by go_num,⟨ZbZ (p:=pBot T n) hall.out hmn.out.symm⟩⟩
      case measure=>simp[intOf];omega
     ·go_wp2
      go_ret
      exact⟨ZR (by unfold botI;rw[Zaq (i:=k) (by omega) hall.out hmn.out.symm];rfl),rfl⟩
  ·go_wp2
   go_ret
   exact⟨ZR (by unfold botI;rw[ZaN (λi hi=>hall.out i (by omega))];rfl),rfl⟩
theorem Zls(a b:Int)(w:World):Calls prog 56 #[.int .i64 a,.int .i64 b] w λe w'=>e=.returned (.int .i64 (Zcr a b))∧w'=w:=by
 unfold Zcr
 by_cases h1:a<0
 ·rw[if_pos (.inl h1)]
  go_enter func56,ntmps56
  go_wp2
  go_ret
  exact⟨rfl,rfl⟩
 ·by_cases h2:0<=b
  ·by_cases h3:b<a
   ·rw[if_pos (.inr ⟨h2,h3⟩)]
    go_enter func56,ntmps56
    go_wp2
    go_ret
    exact⟨rfl,rfl⟩
   ·rw[if_neg (by omega)]
    go_enter func56,ntmps56
    go_wp2
    go_ret
    exact⟨rfl,rfl⟩
  ·rw[if_neg (by omega)]
   go_enter func56,ntmps56
   go_wp2
   go_ret
   exact⟨rfl,rfl⟩
theorem ZrR{T:ZB}{n a b:Int}(L:Zam T n)(ha:Lv n a)(hb:Lv n b):(Zbm T n a b).getD (-1)=jn T n a b:=by
 unfold jn
 cases h:Zbm T n a b with
 | some x=>rfl
 | none=>
  exfalso
  have hj:=L.jin a b ha hb
  have h1:=L.jl a b ha hb
  have h2:=L.jr a b ha hb
  have hk:rIsJoin T n a b ((jn T n a b).toNat:Nat)=true:=by
   rw[Qj hj.1]
   exact ZcO.2 ⟨⟨h1,h2⟩,λc h0 hc x y=>L.jm a b c ha hb ⟨h0,hc⟩ x y⟩
  obtain⟨x,hx⟩:=Zj1 (f:=rIsJoin T n a b) (k:=n.toNat) (i:=(jn T n a b).toNat) (by have:=hj.1;have:=hj.2;omega) hk
  unfold Zbm at h
  rw[hx]at h
  cases h
def VGo(rb sb B:Nat)(s tb:ZB)(tp:Value)(p:Rs)(S:Nat->Value)(sv:List (Value×Value))(k:Nat):Prop:=∀(e:Nat) (w:World),e<k->Zx w rb sb B s p tb tp S sv->e<p.ex.length->
 Calls prog 53 #[.pointer (some ⟨sb,0,none⟩),.int .i64 e] w λen w'=>en=.returned (.int .i64 (levX tb p.n p.vs p.ex e))∧Below w.heap.size w w'
theorem Zlt(rb sb B:Nat)(s tb:ZB)(tp:Value)(p:Rs)(S:Nat->Value)(sv:List (Value×Value))(hE:Z7 p.ex)(hXB:ExB p.n p.vs.length p.ex)(hV:VsB p.n p.vs)(ht:Tab tb p.n)(L:Zam tb p.n)(e:Nat)(ih:Kp (VGo rb sb B s tb tp p S sv e))(w:World)(H:Zx w rb sb B s p tb tp S sv)(x:Ex)(hx:p.ex[e]?=some x) :
  Calls prog 53 #[.pointer (some ⟨sb,0,none⟩),.int .i64 e] w λen w'=>en=.returned (.int .i64 (levX tb p.n p.vs p.ex e))∧Below w.heap.size w w':=by
 have hlv:levX tb p.n p.vs p.ex e=if x.op=0∨x.op=1∨x.op=10 then (if x.op=0 then botI tb p.n else lfL p.vs x) else jn tb p.n (levX tb p.n p.vs p.ex x.l) (levX tb p.n p.vs p.ex x.r):=by unfold levX;rw[ZaE _ _ _ hE hx]
 obtain⟨g,c,hS,hg,hc⟩:=H.node hx
 have he:e<p.ex.length:=(Ql.1 hx).1
 have c4:w.cell? ⟨sb,4,none⟩=some (.slice (some ⟨g,0,none⟩) p.ex.length c):=by rw[<-hS];exact H.c 0 (by omega)
 have d0:w.cell? ⟨g,e*4,none⟩=some (.int .i64 x.op):=hc 0 _ rfl
 have d1:=hc 1 _ rfl
 have d2:=hc 2 _ rfl
 have d3:=hc 3 _ rfl
 have hlt:=H.lt
 obtain⟨wx,hwx⟩:∃wx,w.alloc (.cells #[.int .i64 x.op,.int .i64 x.v,.int .i64 (x.l:Nat),.int .i64 (x.r:Nat)] 121)=wx:=⟨_,rfl⟩
 have Ox:=own4x w (.int .i64 x.op) (.int .i64 x.v) (.int .i64 (x.l:Nat)) (.int .i64 (x.r:Nat)) 121
 rw[hwx]at Ox
 have bx:Below w.heap.size w wx:=by rw[<-hwx];exact(Qh _ _).alloc (Qb _) _
 have hei:(e:Int)<(p.ex.length:Int):=by omega
 have Hx:=H.step bx
 have y0:=Hx.cn
 have y1:=Hx.ct
 have y3:=Hx.cv
 have hbx:=hXB x (Qw hx)
 by_cases hp:x.op=0∨x.op=1∨x.op=10
 ·rw[hlv,if_pos hp]
  have hBt:=λW=>ZfE ht W
  have hcs:=hp
  rcases hcs with h0|h0|h0
  ·rw[if_pos h0]
   rw[h0]at d0 hwx Ox
   generalize botI tb p.n=z at *
   generalize x.v=v at *
   generalize x.l=l at *
   generalize x.r=r at *
   generalize p.ex.length=m at *
   generalize p.n=n at *
   replace bx:=Z_ bx
   replace hwx:=Z_ hwx
   replace hBt:=Z_ hBt
   clear H hE hXB hV ht L hx hc hS ih hlv hp hbx Hx y3
   go_enter func53,ntmps53
   go_wp2_with fail
   rw[hwx.out]
   clear d0 d1 d2 d3 c4
   go_region_held3 (λw'=>w'.cell? ⟨sb,0,none⟩=some (.int .i64 n)∧w'.cell? ⟨sb,1,none⟩=some (.string tb)) (go_keep) ((go_at_call 23;refine(hBt.out _).mono ?_;rintro en w5 ⟨rfl,hw5⟩;subst hw5))
   go_wp2
   go_ret
   exact⟨rfl,bx.out.drew⟩
  ·have hvb:0<=x.v∧x.v<p.vs.length:=by
    rcases hbx with c|⟨_,c⟩|c|c
    ·omega
    ·exact c
    ·omega
    ·omega
   obtain⟨i,hi⟩:∃i:Nat,x.v=i:=⟨x.v.toNat,by omega⟩
   have hil:i<p.vs.length:=by omega
   have hvl:=hV.at hil
   have e1:lfL p.vs x=p.vs.getD i 0:=by unfold lfL;rw[if_pos h0,hi,QC]
   rw[if_neg (by omega),e1]
   have hn6:p.n<=6:=ht.2
   have hbv:bv (bs p.vs) i=p.vs.getD i 0:=ZfR (by rw[Qs,Qn hil];rfl) hvl.1 (by have:=hvl.2;omega)
   have hbz:i<(bs p.vs).size:=by rw[Zc];exact hil
   have hget:=ZS (bs p.vs) i hbz
   rw[hbv]at hget
   have hib:(i:Int)<((bs p.vs).size:Int):=by omega
   rw[h0,hi]at hwx Ox
   rw[h0]at d0
   rw[hi]at d1
   generalize p.vs.getD i 0=z at *
   generalize bs p.vs=V at *
   generalize x.l=l at *
   generalize x.r=r at *
   generalize p.ex.length=m at *
   have x1:=Ox.c 1 _ rfl
   have hz2:0<=z∧z<=255:=⟨hvl.1,by have:=hvl.2;omega⟩
   have hzz:Kp (0<=z∧z<=255):=⟨hz2⟩
   replace bx:=Z_ bx
   replace hwx:=Z_ hwx
   clear H hE hXB hV ht L hx hc hS ih hlv hp hbx Hx y0 y1 hBt hvb hi hil hvl e1 hn6 hbv hz2 Ox
   go_enter func53,ntmps53
   go_wp2_with fail
   rw[hwx.out]
   clear d0 d1 d2 d3 c4
   obtain⟨gx,hgx⟩:∃gx,w.heap.size=gx:=⟨_,rfl⟩
   rw[hgx]at x1
   simp only[hgx]
   have hgx:Kp _:=⟨hgx⟩
   go_region_held3 (λw'=>w'.cell? ⟨sb,3,none⟩=some (.string V)∧w'.cell? ⟨gx,1,none⟩=some (.int .i64 (i:Nat))) (go_keep) (fail)
   have hwz:IntKind.i64.wrap z=z:=by have:=hzz.out;rw[IntKind.wrap_i64];omega
   rw[hwz]
   clear hwz
   go_wp2
   go_ret
   exact⟨rfl,bx.out.drew⟩
  ·have e1:lfL p.vs x=x.v:=by unfold lfL;rw[if_neg (by omega)]
   rw[if_neg (by omega),e1]
   rw[h0]at hwx Ox d0
   generalize x.v=v at *
   generalize x.l=l at *
   generalize x.r=r at *
   generalize p.ex.length=m at *
   replace bx:=Z_ bx
   replace hwx:=Z_ hwx
   have hbb:Kp (Below w.heap.size w (w.alloc (.cells #[.int .i64 10,.int .i64 v,.int .i64 (l:Nat),.int .i64 (r:Nat)] 121))):=⟨by rw[hwx.out];exact bx.out⟩
   clear H hE hXB hV ht L hx hc hS ih hlv hp hbx Hx y0 y1 y3 hBt e1 Ox hwx bx
   go_enter func53,ntmps53
   go_wp2
   go_ret
   exact⟨rfl,hbb.out⟩
 ·rw[hlv,if_neg hp]
  obtain⟨hxl,hxr⟩:=(hE e x hx).resolve_left hp
  obtain⟨l1,_,_⟩:=Zfc L hE hXB hV x.l (by omega)
  obtain⟨r1,_,_⟩:=Zfc L hE hXB hV x.r (by omega)
  have hC1:Kp (∀W,Below wx.heap.size wx W->Calls prog 53 #[.pointer (some ⟨sb,0,none⟩),.int .i64 (x.l:Nat)] W λen w'=>en=.returned (.int .i64 (levX tb p.n p.vs p.ex x.l))∧Below W.heap.size W w'):=⟨λW hW=>ih.out x.l W hxl (H.step (bx.trans (hW.mono bx.size))) (by omega)⟩
  have hC2:Kp (∀W,Below wx.heap.size wx W->Calls prog 53 #[.pointer (some ⟨sb,0,none⟩),.int .i64 (x.r:Nat)] W λen w'=>en=.returned (.int .i64 (levX tb p.n p.vs p.ex x.r))∧Below W.heap.size W w'):=⟨λW hW=>ih.out x.r W hxr (H.step (bx.trans (hW.mono bx.size))) (by omega)⟩
  have hJ:=λW=>ZcV ht (levX tb p.n p.vs p.ex x.l) (levX tb p.n p.vs p.ex x.r) W l1.1 l1.2 r1.1 r1.2
  have hsome:(Zbm tb p.n (levX tb p.n p.vs p.ex x.l) (levX tb p.n p.vs p.ex x.r)).getD (-1)=jn tb p.n (levX tb p.n p.vs p.ex x.l) (levX tb p.n p.vs p.ex x.r):=ZrR L l1 r1
  rw[hsome]at hJ
  have k0:(x.op==0)=false:=Qf.2 λh=>hp (.inl h)
  have k1:(x.op==1)=false:=Qf.2 λh=>hp (.inr (.inl h))
  have k2:(x.op==10)=false:=Qf.2 λh=>hp (.inr (.inr h))
  generalize jn tb p.n (levX tb p.n p.vs p.ex x.l) (levX tb p.n p.vs p.ex x.r)=J at *
  generalize levX tb p.n p.vs p.ex x.l=A at *
  generalize levX tb p.n p.vs p.ex x.r=C at *
  have Hk:Kp _:=⟨Hx⟩
  have x2:=Ox.c 2 _ rfl
  have x3:=Ox.c 3 _ rfl
  generalize x.op=op at *
  generalize x.v=v at *
  generalize x.l=l at *
  generalize x.r=r at *
  generalize p.ex.length=m at *
  obtain⟨n,hn⟩:∃n,p.n=n:=⟨_,rfl⟩
  rw[hn]at y0 hJ
  replace hn:=Z_ hn
  replace Ox:=Z_ Ox
  replace bx:=Z_ bx
  replace hwx:=Z_ hwx
  replace hJ:=Z_ hJ
  clear H hE hXB hV ht L hx hc hS ih hlv hp hbx Hx y3 hxl hxr l1 r1 hsome
  go_enter func53,ntmps53
  go_wp2_with fail
  rw[hwx.out]
  clear d0 d1 d2 d3 c4
  obtain⟨gx,hgx⟩:∃gx,w.heap.size=gx:=⟨_,rfl⟩
  rw[hgx]at x2 x3 Ox
  simp only[hgx]
  have hgk:Kp (w.heap.size=gx):=⟨hgx⟩
  clear hgx
  go_region_held3 (λw'=>w'.cell? ⟨sb,0,none⟩=some (.int .i64 n)∧w'.cell? ⟨sb,1,none⟩=some (.string tb)∧w'.cell? ⟨gx,2,none⟩=some (.int .i64 (l:Nat))∧w'.cell? ⟨gx,3,none⟩=some (.int .i64 (r:Nat))) (go_keep) (first
   | (go_at_call 52;refine(hJ.out _).mono ?_;rintro en w6 ⟨rfl,hw6⟩;subst hw6)
   | (go_at_call_of 53 l;refine(hC1.out _ (by first|exact(Qh _ _).drew|assumption)).mono ?_;rintro en w5 ⟨rfl,bb⟩;have bn:Below wx.heap.size wx w5:=(by first|exact((Qh _ _).drew).trans bb|exact Q9 (by assumption) (bb.mono (Below.size (w:=wx) (by assumption))));have o0:w5.cell? ⟨sb,0,none⟩=some (.int .i64 n):=(by rw[<-hn.out];exact(Hk.out.step bn).cn);have o1:=(Hk.out.step bn).ct;have o2:=(Ox.out.step bn).c 2 _ rfl;have o3:=(Ox.out.step bn).c 3 _ rfl;clear bb)
   | (go_at_call_of 53 r;refine(hC2.out _ (by first|exact(Qh _ _).drew|assumption)).mono ?_;rintro en w5 ⟨rfl,bb⟩;have bn:Below wx.heap.size wx w5:=(by first|exact((Qh _ _).drew).trans bb|exact Q9 (by assumption) (bb.mono (Below.size (w:=wx) (by assumption))));have o0:w5.cell? ⟨sb,0,none⟩=some (.int .i64 n):=(by rw[<-hn.out];exact(Hk.out.step bn).cn);have o1:=(Hk.out.step bn).ct;have o2:=(Ox.out.step bn).c 2 _ rfl;have o3:=(Ox.out.step bn).c 3 _ rfl;clear bb))
  all_goals
   have b9:Below wx.heap.size wx w6:=by assumption
   replace b9:=Z_ b9
   go_wp2
   go_ret
   exact⟨rfl,bx.out.trans (b9.out.mono bx.out.size)⟩
theorem Zgq(rb sb B:Nat)(s tb:ZB)(tp:Value)(p:Rs)(S:Nat->Value)(sv:List (Value×Value))(hE:Z7 p.ex)(hXB:ExB p.n p.vs.length p.ex)(hV:VsB p.n p.vs)(ht:Tab tb p.n)(L:Zam tb p.n):∀k,VGo rb sb B s tb tp p S sv k
 | 0=>λe w hk=>by omega
 | k+1=>λe w hk H he=>Zlt rb sb B s tb tp p S sv hE hXB hV ht L e ⟨λf w hf=>Zgq rb sb B s tb tp p S sv hE hXB hV ht L k f w (by omega)⟩ w H _ (Qn he)
def DGo(rb sb B:Nat)(s tb:ZB)(tp:Value)(p:Rs)(S:Nat->Value)(sv:List (Value×Value))(ct:Int)(k:Nat):Prop:=∀(e:Nat) (w:World),e<k->Zx w rb sb B s p tb tp S sv->e<p.ex.length->
 Calls prog 54 #[.pointer (some ⟨sb,0,none⟩),.int .i64 e,.int .i64 ct] w λen w'=>en=.returned (.bool (drawX tb p.n ct p.ex e))∧Below w.heap.size w w'
theorem Zlu(rb sb B:Nat)(s tb:ZB)(tp:Value)(p:Rs)(S:Nat->Value)(sv:List (Value×Value))(hE:Z7 p.ex)(hXB:ExB p.n p.vs.length p.ex)(ht:Tab tb p.n)(ct:Int)(hct:Lv p.n ct)(e:Nat)(ih:Kp (DGo rb sb B s tb tp p S sv ct e))(w:World)(H:Zx w rb sb B s p tb tp S sv)(x:Ex)(hx:p.ex[e]?=some x) :
  Calls prog 54 #[.pointer (some ⟨sb,0,none⟩),.int .i64 e,.int .i64 ct] w λen w'=>en=.returned (.bool (drawX tb p.n ct p.ex e))∧Below w.heap.size w w':=by
 have hlv:drawX tb p.n ct p.ex e=if x.op=0∨x.op=1∨x.op=10 then (if x.op=10 then le tb p.n ct x.v else true) else (drawX tb p.n ct p.ex x.l&&drawX tb p.n ct p.ex x.r):=by unfold drawX;rw[ZaE _ _ _ hE hx]
 obtain⟨g,c,hS,hg,hc⟩:=H.node hx
 have he:e<p.ex.length:=(Ql.1 hx).1
 have c4:w.cell? ⟨sb,4,none⟩=some (.slice (some ⟨g,0,none⟩) p.ex.length c):=by rw[<-hS];exact H.c 0 (by omega)
 have d0:w.cell? ⟨g,e*4,none⟩=some (.int .i64 x.op):=hc 0 _ rfl
 have d1:=hc 1 _ rfl
 have d2:=hc 2 _ rfl
 have d3:=hc 3 _ rfl
 have hlt:=H.lt
 obtain⟨wx,hwx⟩:∃wx,w.alloc (.cells #[.int .i64 x.op,.int .i64 x.v,.int .i64 (x.l:Nat),.int .i64 (x.r:Nat)] 121)=wx:=⟨_,rfl⟩
 have Ox:=own4x w (.int .i64 x.op) (.int .i64 x.v) (.int .i64 (x.l:Nat)) (.int .i64 (x.r:Nat)) 121
 rw[hwx]at Ox
 have bx:Below w.heap.size w wx:=by rw[<-hwx];exact(Qh _ _).alloc (Qb _) _
 have hei:(e:Int)<(p.ex.length:Int):=by omega
 have Hx:=H.step bx
 have y0:=Hx.cn
 have y1:=Hx.ct
 have hbx:=hXB x (Qw hx)
 by_cases hp:x.op=0∨x.op=1∨x.op=10
 ·rw[hlv,if_pos hp]
  have hcs:=hp
  rcases hcs with h0|h0|h0
  ·rw[if_neg (by omega)]
   rw[h0]at d0 hwx
   generalize x.v=v at *
   generalize x.l=l at *
   generalize x.r=r at *
   generalize p.ex.length=m at *
   have hbb:Kp (Below w.heap.size w (w.alloc (.cells #[.int .i64 0,.int .i64 v,.int .i64 (l:Nat),.int .i64 (r:Nat)] 121))):=⟨by rw[hwx];exact bx⟩
   clear H hE hXB ht hx hc hS ih hlv hp hbx Hx y0 y1 Ox hwx bx hct
   go_enter func54,ntmps54
   go_wp2
   go_ret
   exact⟨rfl,hbb.out⟩
  ·rw[if_neg (by omega)]
   rw[h0]at d0 hwx
   generalize x.v=v at *
   generalize x.l=l at *
   generalize x.r=r at *
   generalize p.ex.length=m at *
   have hbb:Kp (Below w.heap.size w (w.alloc (.cells #[.int .i64 1,.int .i64 v,.int .i64 (l:Nat),.int .i64 (r:Nat)] 121))):=⟨by rw[hwx];exact bx⟩
   clear H hE hXB ht hx hc hS ih hlv hp hbx Hx y0 y1 Ox hwx bx hct
   go_enter func54,ntmps54
   go_wp2
   go_ret
   exact⟨rfl,hbb.out⟩
  ·rw[if_pos h0]
   have hvb:0<=x.v∧x.v<p.n:=by
    rcases hbx with c|c|⟨_,c⟩|c
    ·omega
    ·omega
    ·exact c
    ·omega
   have hU:=λW=>Zas ht ct x.v W hct.1 hct.2 hvb.1 hvb.2
   rw[h0]at d0 hwx Ox
   generalize le tb p.n ct x.v=z at *
   generalize x.v=v at *
   generalize x.l=l at *
   generalize x.r=r at *
   generalize p.ex.length=m at *
   generalize p.n=n at *
   have x1:=Ox.c 1 _ rfl
   replace bx:=Z_ bx
   replace hwx:=Z_ hwx
   replace hU:=Z_ hU
   clear H hE hXB ht hx hc hS ih hlv hp hbx Hx Ox hct hvb
   go_enter func54,ntmps54
   go_wp2_with fail
   rw[hwx.out]
   clear d0 d1 d2 d3 c4
   obtain⟨gx,hgx⟩:∃gx,w.heap.size=gx:=⟨_,rfl⟩
   rw[hgx]at x1
   simp only[hgx]
   have hgk:Kp (w.heap.size=gx):=⟨hgx⟩
   clear hgx
   go_region_held3 (λw'=>w'.cell? ⟨sb,0,none⟩=some (.int .i64 n)∧w'.cell? ⟨sb,1,none⟩=some (.string tb)∧w'.cell? ⟨gx,1,none⟩=some (.int .i64 v)) (go_keep) ((go_at_call 55;refine(hU.out _).mono ?_;rintro en w5 ⟨rfl,hw5⟩;subst hw5))
   go_wp2
   go_ret
   exact⟨rfl,bx.out.drew⟩
 ·rw[hlv,if_neg hp]
  obtain⟨hxl,hxr⟩:=(hE e x hx).resolve_left hp
  have hC1:Kp (∀W,Below wx.heap.size wx W->Calls prog 54 #[.pointer (some ⟨sb,0,none⟩),.int .i64 (x.l:Nat),.int .i64 ct] W λen w'=>en=.returned (.bool (drawX tb p.n ct p.ex x.l))∧Below W.heap.size W w'):=⟨λW hW=>ih.out x.l W hxl (H.step (bx.trans (hW.mono bx.size))) (by omega)⟩
  have hC2:Kp (∀W,Below wx.heap.size wx W->Calls prog 54 #[.pointer (some ⟨sb,0,none⟩),.int .i64 (x.r:Nat),.int .i64 ct] W λen w'=>en=.returned (.bool (drawX tb p.n ct p.ex x.r))∧Below W.heap.size W w'):=⟨λW hW=>ih.out x.r W hxr (H.step (bx.trans (hW.mono bx.size))) (by omega)⟩
  have k0:(x.op==0)=false:=Qf.2 λh=>hp (.inl h)
  have k1:(x.op==1)=false:=Qf.2 λh=>hp (.inr (.inl h))
  have k2:(x.op==10)=false:=Qf.2 λh=>hp (.inr (.inr h))
  generalize drawX tb p.n ct p.ex x.l=A at *
  generalize drawX tb p.n ct p.ex x.r=C at *
  generalize x.op=op at *
  generalize x.v=v at *
  generalize x.l=l at *
  generalize x.r=r at *
  generalize p.ex.length=m at *
  replace Ox:=Z_ Ox
  replace bx:=Z_ bx
  replace hwx:=Z_ hwx
  clear H hE hXB ht hx hc hS ih hlv hp hbx Hx hxl hxr y0 y1 hct
  go_enter func54,ntmps54
  go_wp2_with fail
  rw[hwx.out]
  refine(hC1.out _ (Qh _ _)).mono ?_
  rintro en w1 ⟨rfl,b1⟩
  obtain⟨gx,hgx⟩:∃gx,w.heap.size=gx:=⟨_,rfl⟩
  have O1:=Ox.out.step b1
  rw[hgx]at O1
  simp only[hgx]
  have x3:=O1.c 3 _ rfl
  clear d0 d1 d2 d3 c4 hC1 O1
  have hgx:Kp _:=⟨hgx⟩
  replace b1:=Z_ b1
  go_wp2_with fail
  refine(hC2.out _ b1.out).mono ?_
  rintro en w2 ⟨rfl,b2⟩
  have b3:Kp (Below w.heap.size w w2):=⟨bx.out.trans ((b1.out.trans (b2.mono b1.out.size)).mono bx.out.size)⟩
  clear b2 b1 x3
  cases A<;>cases C
  all_goals
   go_wp2
   go_ret
   exact⟨rfl,b3.out⟩
theorem ZfF(rb sb B:Nat)(s tb:ZB)(tp:Value)(p:Rs)(S:Nat->Value)(sv:List (Value×Value))(hE:Z7 p.ex)(hXB:ExB p.n p.vs.length p.ex)(ht:Tab tb p.n)(ct:Int)(hct:Lv p.n ct):∀k,DGo rb sb B s tb tp p S sv ct k
 | 0=>λe w hk=>by omega
 | k+1=>λe w hk H he=>Zlu rb sb B s tb tp p S sv hE hXB ht ct hct e ⟨λf w hf=>ZfF rb sb B s tb tp p S sv hE hXB ht ct hct k f w (by omega)⟩ w H _ (Qn he)
set_option linter.unusedSimpArgs false
theorem Zkw(f:Nat->Int->Int->Int)(c:Int)(n:Nat):∀(l:List Nat) (m:Int),Zgv f (l++[n]) c m=f n c (Zgv f l c m)
 | [],m=>rfl
 | i::l,m=>by simp only[Uj,Zgv];exact Zkw f c n l _
theorem Zkx{w:World}{B:Nat}{e:TypeId}{z:Nat}{v:Value}{k:Nat}{xs:List Value}(h:w.ownsRow B e z v k xs):k<=maxLen:=by
 rcases h.2 with ⟨_,rfl⟩|⟨g,cap,cur,_,_,_,h1,h2,_⟩
 ·exact Q8 _
 ·exact Qg h1 h2
def BGo(rb sb B:Nat)(s tb:ZB)(tp:Value)(p:Rs)(S:Nat->Value)(sv:List (Value×Value))(k:Nat):Prop:=∀(l:List Nat) (lv:Value) (ct:Int) (w:World),(∀n,n∈l->n<k∧n<p.sm.length)->Zx w rb sb B s p tb tp S sv->ZaB w B S lv l->Lv p.n ct->
 Calls prog 22 #[.pointer (some ⟨sb,0,none⟩),lv,.int .i64 ct] w λen w'=>en=.returned (.int .i64 (brks tb p.n p.vs p.ex p.sm l ct (-1)))∧Below w.heap.size w w'
theorem ZfG(rb sb B:Nat)(s tb:ZB)(tp:Value)(p:Rs)(S:Nat->Value)(sv:List (Value×Value))(hE:Z7 p.ex)(hSm:ZaQ p.ex p.sm)(hXB:ExB p.n p.vs.length p.ex)(hV:VsB p.n p.vs)(hSB:∀x,x∈p.sm->SB p.n p.vs.length x)(ht:Tab tb p.n)(L:Zam tb p.n)(k:Nat)(l:List Nat)(ih:l≠[]->Kp (BGo rb sb B s tb tp p S sv k))(lv:Value)(ct:Int)(w:World)(hn:∀n,n∈l->n<k+1∧n<p.sm.length)(H:Zx w rb sb B s p tb tp S sv)(hI:ZaB w B S lv l)(hct:Lv p.n ct) :
  Calls prog 22 #[.pointer (some ⟨sb,0,none⟩),lv,.int .i64 ct] w λen w'=>en=.returned (.int .i64 (brks tb p.n p.vs p.ex p.sm l ct (-1)))∧Below w.heap.size w w':=by
 obtain⟨p1,c1,hv⟩:=Zb hI.1
 have hli:(l.length:Int)<=9223372036854775807:=by have:=Zkx hI.1;unfold maxLen at this;omega
 replace H:=Z_ H
 replace hI:=Z_ hI
 replace hn:=Z_ hn
 subst hv
 go_enter func22,ntmps22
 go_wp2_with fail
 go_loopw [7,8] (λmv d wr=>∃(i:Nat) (m:Int),mv=.int .i64 m∧d=.int .i64 i∧i<=l.length∧Kp (m=brks tb p.n p.vs p.ex p.sm (l.take i) ct (-1))∧Kp (Below w.heap.size w wr)) (λ_ d _=>l.length-(intOf d).toNat)
 case atStart=>exact⟨0,-1,rfl,rfl,Q8 _,⟨rfl⟩,⟨Qh _ _⟩⟩
 case round=>
  obtain⟨i,m,rfl,rfl,hi,hm,hb⟩:=hrel
  by_cases hlt:i<l.length
  ·have hx0:l[i]?=some l[i]:=Qn hlt
   have hmem:l[i]∈l:=Ua hlt
   have htk:l.take (i+1)=l.take i++[l[i]]:=by rw[List.take_add_one,hx0];rfl
   obtain⟨n,hnn⟩:∃n,l[i]=n:=⟨_,rfl⟩
   rw[hnn]at hx0 hmem htk
   obtain⟨hnk,hnl⟩:=hn.out n hmem
   have hx:p.sm[n]?=some p.sm[n]:=Qn hnl
   obtain⟨x,hxx⟩:∃x,p.sm[n]=x:=⟨_,rfl⟩
   rw[hxx]at hx
   have hxm:=Qw hx
   have ih:=ih (λe=>by rw[e]at hmem;simp at hmem)
   obtain⟨o1,o2,o3⟩:=hSm n x hx
   have Hr:=H.out.step hb.out
   obtain⟨gl,cl,hlv,hgl,hcl⟩:=(hI.out.step hb.out).at hx0
   obtain⟨rfl,rfl⟩:p1=some ⟨gl,0,none⟩∧c1=cl:=by
    injection hlv with a b c
    exact⟨a,c⟩
   obtain⟨g,cg,y,hS1,hg,hy,hIb,hIe,hcell⟩:=Hr.stat hx
   have d0:wr.cell? ⟨g,n*7,none⟩=some (.int .u8 x.k):=hcell 0 _ rfl
   have d1:=hcell 1 _ rfl
   have d2:=hcell 2 _ rfl
   have d3:=hcell 3 _ rfl
   have d4:=hcell 4 _ rfl
   have d5:=hcell 5 _ rfl
   have d6:=hcell 6 _ rfl
   have c5:wr.cell? ⟨sb,5,none⟩=some (.slice (some ⟨g,0,none⟩) p.sm.length cg):=by rw[<-hS1];exact Hr.c 1 (by omega)
   have hii:(i:Int)<(l.length:Int):=by omega
   have hni:(n:Int)<(p.sm.length:Int):=by omega
   have hltr:=Hr.lt
   obtain⟨p4,q4,e4⟩:=Zb hIb.1
   obtain⟨p5,q5,e5⟩:=Zb hIe.1
   rw[e4]at d4 hIb
   rw[e5]at d5 hIe
   obtain⟨wx,hwx⟩:∃wx,(wr.alloc (.cells #[.int .u8 x.k,.int .i64 (x.a:Nat),.int .i64 x.v,.int .i64 (x.e:Nat),.slice p4 x.bo.length q4,.slice p5 x.el.length q5,.bool x.two] 123)).drew=wx:=⟨_,rfl⟩
   replace Hr:=Z_ Hr
   replace hIb:=Z_ hIb
   replace hIe:=Z_ hIe
   replace hwx:=Z_ hwx
   replace hm:Kp _:=hm
   have bxw:Below wr.heap.size wr wx:=by rw[<-hwx.out];exact((Qh _ _).alloc (Qb _) _).drew
   have Hx:=Hr.out.step bxw
   have Ox:=(own7 wr (.int .u8 x.k) (.int .i64 (x.a:Nat)) (.int .i64 x.v) (.int .i64 (x.e:Nat)) (.slice p4 x.bo.length q4) (.slice p5 x.el.length q5) (.bool x.two) 123).step ((Qh _ _).drew)
   rw[hwx.out]at Ox
   obtain⟨lvl,hlvl⟩:∃z,levX tb p.n p.vs p.ex x.e=z:=⟨_,rfl⟩
   have lvL:Lv p.n lvl:=by rw[<-hlvl];exact(Zfc L hE hXB hV x.e o1).1
   obtain⟨vv,hvv⟩:∃z,jn tb p.n ct lvl=z:=⟨_,rfl⟩
   have vvL:Lv p.n vv:=by rw[<-hvv];exact L.jin _ _ hct lvL
   obtain⟨D,hD⟩:∃z,drawX tb p.n ct p.ex x.e=z:=⟨_,rfl⟩
   obtain⟨Dv,hDv⟩:∃z,drawX tb p.n vv p.ex x.e=z:=⟨_,rfl⟩
   obtain⟨m1,hm1⟩:∃z,brks tb p.n p.vs p.ex p.sm x.bo vv (-1)=z:=⟨_,rfl⟩
   obtain⟨m2,hm2⟩:∃z,brks tb p.n p.vs p.ex p.sm x.el vv (-1)=z:=⟨_,rfl⟩
   have hLev:Kp (∀W,Below wx.heap.size wx W->Calls prog 53 #[.pointer (some ⟨sb,0,none⟩),.int .i64 (x.e:Nat)] W λen w'=>en=.returned (.int .i64 lvl)∧Below W.heap.size W w'):=⟨λW hW=>by rw[<-hlvl];exact Zgq rb sb B s tb tp p S sv hE hXB hV ht L (x.e+1) x.e W (by omega) (Hx.step hW) o1⟩
   have hJ:Kp (∀W,Calls prog 52 #[.string tb,.int .i64 p.n,.int .i64 ct,.int .i64 lvl] W λe w'=>e=.returned (.int .i64 vv)∧w'=W):=⟨λW=>by rw[<-hvv,<-ZrR L hct lvL];exact ZcV ht ct lvl W hct.1 hct.2 lvL.1 lvL.2⟩
   have hDr:Kp (∀W,Below wx.heap.size wx W->Calls prog 54 #[.pointer (some ⟨sb,0,none⟩),.int .i64 (x.e:Nat),.int .i64 ct] W λen w'=>en=.returned (.bool D)∧Below W.heap.size W w'):=⟨λW hW=>by rw[<-hD];exact ZfF rb sb B s tb tp p S sv hE hXB ht ct hct (x.e+1) x.e W (by omega) (Hx.step hW) o1⟩
   have hDw:Kp (∀W,Below wx.heap.size wx W->Calls prog 54 #[.pointer (some ⟨sb,0,none⟩),.int .i64 (x.e:Nat),.int .i64 vv] W λen w'=>en=.returned (.bool Dv)∧Below W.heap.size W w'):=⟨λW hW=>by rw[<-hDv];exact ZfF rb sb B s tb tp p S sv hE hXB ht vv vvL (x.e+1) x.e W (by omega) (Hx.step hW) o1⟩
   have hBb:Kp (∀W,Below wx.heap.size wx W->Calls prog 22 #[.pointer (some ⟨sb,0,none⟩),.slice p4 x.bo.length q4,.int .i64 vv] W λen w'=>en=.returned (.int .i64 m1)∧Below W.heap.size W w'):=⟨λW hW=>by rw[<-hm1];exact ih.out x.bo _ vv W (λj hj=>⟨by have:=o2 j hj;omega,by have:=o2 j hj;omega⟩) (Hx.step hW) ((hIb.out.step bxw).step hW) vvL⟩
   have hBe:Kp (∀W,Below wx.heap.size wx W->Calls prog 22 #[.pointer (some ⟨sb,0,none⟩),.slice p5 x.el.length q5,.int .i64 vv] W λen w'=>en=.returned (.int .i64 m2)∧Below W.heap.size W w'):=⟨λW hW=>by rw[<-hm2];exact ih.out x.el _ vv W (λj hj=>⟨by have:=o3 j hj;omega,by have:=o3 j hj;omega⟩) (Hx.step hW) ((hIe.out.step bxw).step hW) vvL⟩
   have hLes:Kp (∀(a b:Int) (W:World),Calls prog 56 #[.int .i64 a,.int .i64 b] W λe w'=>e=.returned (.int .i64 (Zcr a b))∧w'=W):=⟨λa b W=>Zls a b W⟩
   have hfin0:Kp (∀ok,okX tb p.n p.vs p.ex x ct vv=ok->brks tb p.n p.vs p.ex p.sm (l.take (i+1)) ct (-1)=Zcr (Zcr (if ok=true then m else Zcr m x.a) m1) m2):=⟨λok hok=>by
    rw[htk]
    show Zgv (brk tb p.n p.vs p.ex p.sm) (l.take i++[n]) ct (-1)=_
    rw[Zkw]
    have:Zgv (brk tb p.n p.vs p.ex p.sm) (l.take i) ct (-1)=m:=hm.out.symm
    rw[this,ZrC hSm hx,hlvl,hvv,hok,hm1,hm2]⟩
   have hSBx:=hSB x hxm
   have hok61:Kp (x.k=61->okX tb p.n p.vs p.ex x ct vv=(D&&le tb p.n vv (p.vs.getD x.v.toNat 0))):=⟨λh=>by unfold okX;rw[if_pos h,hD]⟩
   have hok62:Kp (x.k=62->okX tb p.n p.vs p.ex x ct vv=(D&&le tb p.n vv x.v)):=⟨λh=>by unfold okX;rw[if_neg (by omega),if_pos h,hD]⟩
   have hok63:Kp (x.k=63->okX tb p.n p.vs p.ex x ct vv=D):=⟨λh=>by unfold okX;rw[if_neg (by omega),if_neg (by omega),if_neg (by omega),hD]⟩
   have hok64:Kp (x.k=64->okX tb p.n p.vs p.ex x ct vv=Dv):=⟨λh=>by unfold okX;rw[if_neg (by omega),if_neg (by omega),if_pos h,hDv]⟩
   replace Hx:=Z_ Hx
   replace Ox:=Z_ Ox
   replace bxw:=Z_ bxw
   replace hSBx:=Z_ hSBx
   have n1:=World.new_ne wr _ c5
   have n2:=World.new_ne wr _ hcl
   have n3:=World.new_ne wr _ d0
   clear hcell hlv hx0
   go_wp2_with fail
   go_region_held3 (λw'=>w'.cell? ⟨sb,5,none⟩=some (.slice (some ⟨g,0,none⟩) p.sm.length cg)∧w'.cell? ⟨gl,i,none⟩=some (.int .i64 (n:Nat))∧w'.cell? ⟨g,n*7,none⟩=some (.int .u8 x.k)∧w'.cell? ⟨g,n*7+1,none⟩=some (.int .i64 (x.a:Nat))∧w'.cell? ⟨g,n*7+2,none⟩=some (.int .i64 x.v)∧w'.cell? ⟨g,n*7+3,none⟩=some (.int .i64 (x.e:Nat))∧w'.cell? ⟨g,n*7+4,none⟩=some (.slice p4 x.bo.length q4)∧w'.cell? ⟨g,n*7+5,none⟩=some (.slice p5 x.el.length q5)∧w'.cell? ⟨g,n*7+6,none⟩=some (.bool x.two)) (go_keep) (fail)
   rw[hwx.out]
   clear d0 d1 d2 d3 d4 d5 d6 c5 hcl n1 n2 n3
   have y0:=Hx.out.cn
   have y1:=Hx.out.ct
   have z3:=Ox.out.c 3 _ rfl
   obtain⟨gx,hgx⟩:∃gx,Kp (wr.heap.size=gx):=⟨_,⟨rfl⟩⟩
   rw[hgx.out]at Ox z3
   simp only[hgx.out]
   obtain⟨N,hN⟩:∃N,Kp (p.n=N):=⟨_,⟨rfl⟩⟩
   rw[hN.out]at y0
   have hJ2:=hJ
   rw[hN.out]at hJ2
   go_wp2_with fail
   go_region_held3 (λw'=>w'.cell? ⟨sb,0,none⟩=some (.int .i64 N)∧w'.cell? ⟨sb,1,none⟩=some (.string tb)∧w'.cell? ⟨gx,3,none⟩=some (.int .i64 (x.e:Nat))) (go_keep) (first
    | (go_at_call 52;refine(hJ2.out _).mono ?_;rintro en w6 ⟨rfl,hw6⟩;subst hw6)
    | (go_at_call 53;refine(hLev.out _ ((Qh _ _).drew)).mono ?_;rintro en w5 ⟨rfl,bb⟩;have bn:Below wx.heap.size wx w5:=(((Qh _ _).drew).trans bb);have o0:w5.cell? ⟨sb,0,none⟩=some (.int .i64 N):=(by rw[<-hN.out];exact(Hx.out.step bn).cn);have o1:=(Hx.out.step bn).ct;have o3:=(Ox.out.step bn).c 3 _ rfl;clear bb))
   have b6:Kp (Below wx.heap.size wx w6):=⟨by assumption⟩
   have t3:=(Ox.out.step b6.out).c 3 _ rfl
   clear y0 y1 z3 hJ hJ2 hLev
   go_wp2_with fail
   refine(hDr.out _ b6.out).mono ?_
   rintro en w7 ⟨rfl,b7⟩
   have bw0:Kp (Below wx.heap.size wx w7):=⟨b6.out.trans (b7.mono b6.out.size)⟩
   have s0:=(Ox.out.step bw0.out).c 0 _ rfl
   clear b6 b7 t3 hDr
   rcases hSBx.out with ⟨h61,hv0,hv1⟩|⟨h62,hv0,hv1⟩|h63|h64
   ·obtain⟨j,hj⟩:∃j:Nat,x.v=j:=⟨x.v.toNat,by omega⟩
    have hjl:j<p.vs.length:=by omega
    have hok:=hok61.out h61
    have hvl:=hV.at hjl
    obtain⟨z,hz⟩:∃z,p.vs.getD j 0=z:=⟨_,rfl⟩
    rw[hz]at hvl
    rw[hj,QC,hz]at hok
    obtain⟨U,hU⟩:∃U,le tb p.n vv z=U:=⟨_,rfl⟩
    rw[hU]at hok
    have hUn:Kp (∀W,Calls prog 55 #[.string tb,.int .i64 N,.int .i64 vv,.int .i64 z] W λe w'=>e=.returned (.bool U)∧w'=W):=⟨λW=>by rw[<-hU,<-hN.out];exact Zas ht vv z W vvL.1 vvL.2 hvl.1 hvl.2⟩
    have n6:p.n<=6:=ht.2
    have hz255:0<=z∧z<=255:=⟨hvl.1,by have:=hvl.2;omega⟩
    have hbz:j<(bs p.vs).size:=by rw[Zc];exact hjl
    have hbv:bv (bs p.vs) j=z:=ZfR (by rw[<-hz,Qs,Qn hjl];rfl) hz255.1 hz255.2
    have hget:=ZS (bs p.vs) j hbz
    rw[hbv]at hget
    have hwz:IntKind.i64.wrap z=z:=by rw[IntKind.wrap_i64];omega
    have hib:(j:Int)<((bs p.vs).size:Int):=by omega
    have y3:=(Hx.out.step bw0.out).cv
    have y1:=(Hx.out.step bw0.out).ct
    have y0:=(Hx.out.step bw0.out).cn
    rw[hN.out]at y0
    have s2:=(Ox.out.step bw0.out).c 2 _ rfl
    rw[hj]at s2
    rw[h61]at s0
    generalize bs p.vs=V at *
    replace hok:=Z_ hok
    clear hbv hz hU n6 hjl hvl hz255 hj hv0 hv1 h61
    cases D
    ·have hfin:Kp _:=⟨hfin0.out false (by rw[hok.out];rfl)⟩
     clear y0 y1 y3 s2
     go_wp2_with fail
     refine wp_region_noPanic ?_
     refine wp_region_held_drew (S:=λ_=>True) (by kernel_rfl) trivial (λhHeld=>?_)
     refine tkS (i:=0) (v:=?_) rfl (Or.inl ⟨by rfl,?_⟩) trivial ?_
     rotate_left
     ·intro w hSw
      go_simp
      (try with_reducible rfl)
     try simp only[Act.put,Qa,Qc,Qd]
     refine tkS (i:=1) (v:=?_) rfl (Or.inl ⟨by rfl,?_⟩) trivial ?_
     rotate_left
     ·intro w hSw
      go_simp
      (try with_reducible rfl)
     try simp only[Act.put,Qa,Qc,Qd]
     refine tkS (i:=2) (v:=undef) rfl (Or.inr ⟨by kernel_rfl,rfl⟩) trivial ?_
     try simp only[Act.put,Qa,Qc,Qd]
     refine tkS (i:=3) (v:=undef) rfl (Or.inr ⟨by kernel_rfl,rfl⟩) trivial ?_
     try simp only[Act.put,Qa,Qc,Qd]
     refine tkS (i:=4) (v:=undef) rfl (Or.inr ⟨by kernel_rfl,rfl⟩) trivial ?_
     try simp only[Act.put,Qa,Qc,Qd]
     refine tkS (i:=5) (v:=undef) rfl (Or.inr ⟨by kernel_rfl,rfl⟩) trivial ?_
     try simp only[Act.put,Qa,Qc,Qd]
     refine tkS (i:=6) (v:=undef) rfl (Or.inr ⟨by kernel_rfl,rfl⟩) trivial ?_
     try simp only[Act.put,Qa,Qc,Qd]
     refine tkS (i:=7) (v:=undef) rfl (Or.inr ⟨by kernel_rfl,rfl⟩) trivial ?_
     try simp only[Act.put,Qa,Qc,Qd]
     refine tkS (i:=8) (v:=undef) rfl (Or.inr ⟨by kernel_rfl,rfl⟩) trivial ?_
     try simp only[Act.put,Qa,Qc,Qd]
     refine tkS (i:=9) (v:=undef) rfl (Or.inr ⟨by kernel_rfl,rfl⟩) trivial ?_
     try simp only[Act.put,Qa,Qc,Qd]
     refine tkS (i:=10) (v:=undef) rfl (Or.inr ⟨by kernel_rfl,rfl⟩) trivial ?_
     try simp only[Act.put,Qa,Qc,Qd]
     refine tkS (i:=11) (v:=undef) rfl (Or.inr ⟨by kernel_rfl,rfl⟩) trivial ?_
     try simp only[Act.put,Qa,Qc,Qd]
     refine tkS (i:=12) (v:=undef) rfl (Or.inr ⟨by kernel_rfl,rfl⟩) trivial ?_
     try simp only[Act.put,Qa,Qc,Qd]
     refine tkS (i:=13) (v:=undef) rfl (Or.inr ⟨by kernel_rfl,rfl⟩) trivial ?_
     try simp only[Act.put,Qa,Qc,Qd]
     refine tkS (i:=14) (v:=undef) rfl (Or.inr ⟨by kernel_rfl,rfl⟩) trivial ?_
     try simp only[Act.put,Qa,Qc,Qd]
     refine tkS (i:=15) (v:=undef) rfl (Or.inr ⟨by kernel_rfl,rfl⟩) trivial ?_
     try simp only[Act.put,Qa,Qc,Qd]
     refine tkS (i:=16) (v:=undef) rfl (Or.inr ⟨by kernel_rfl,rfl⟩) trivial ?_
     try simp only[Act.put,Qa,Qc,Qd]
     refine tkS (i:=17) (v:=undef) rfl (Or.inr ⟨by kernel_rfl,rfl⟩) trivial ?_
     try simp only[Act.put,Qa,Qc,Qd]
     refine tkS (i:=18) (v:=undef) rfl (Or.inr ⟨by kernel_rfl,rfl⟩) trivial ?_
     try simp only[Act.put,Qa,Qc,Qd]
     refine tkS (i:=19) (v:=undef) rfl (Or.inr ⟨by kernel_rfl,rfl⟩) trivial ?_
     try simp only[Act.put,Qa,Qc,Qd]
     refine tkS (i:=20) (v:=?_) rfl (Or.inl ⟨by rfl,?_⟩) trivial ?_
     rotate_left
     ·intro w hSw
      go_simp
      (try with_reducible rfl)
     try simp only[Act.put,Qa,Qc,Qd]
     refine tkS (i:=21) (v:=?_) rfl (Or.inl ⟨by rfl,?_⟩) trivial ?_
     rotate_left
     ·intro w hSw
      go_simp
      (try with_reducible rfl)
     try simp only[Act.put,Qa,Qc,Qd]
     refine wpAnyH_done (by kernel_rfl) ?_ _
     refine NoPanic.normal ?_
     have bw:Kp (Below wx.heap.size wx w7.drew):=⟨bw0.out.drew⟩
     clear bw0 s0 hHeld
     have s1:=(Ox.out.step bw.out).c 1 _ rfl
     have s4:=(Ox.out.step bw.out).c 4 _ rfl
     go_wp2_with fail
     refine(hLes.out m (x.a:Nat) _).mono ?_
     rintro en wl ⟨rfl,hwl⟩
     have hwl2:=hwl.symm
     clear hwl
     subst hwl2
     go_wp2_with fail
     refine(hBb.out _ bw.out).mono ?_
     rintro en w7 ⟨rfl,b7⟩
     have bw7:Kp (Below wx.heap.size wx w7):=⟨bw.out.trans (b7.mono bw.out.size)⟩
     have s5:=(Ox.out.step bw7.out).c 5 _ rfl
     clear s1 s4 b7 bw
     go_wp2_with fail
     refine(hLes.out _ _ _).mono ?_
     rintro en wl ⟨rfl,hwl⟩
     have hwl2:=hwl.symm
     clear hwl
     subst hwl2
     go_wp2_with fail
     refine(hBe.out _ bw7.out).mono ?_
     rintro en w8 ⟨rfl,b8⟩
     have bw8:Kp (Below wx.heap.size wx w8):=⟨bw7.out.trans (b8.mono bw7.out.size)⟩
     clear s5 b8 bw7
     go_wp2_with fail
     refine(hLes.out _ _ _).mono ?_
     rintro en wl ⟨rfl,hwl⟩
     have hwl2:=hwl.symm
     clear hwl
     subst hwl2
     go_wp2_with fail
     go_roundw
     case rel=>exact⟨i+1,_,rfl,by go_num,by omega,⟨by rw[hfin.out];rfl⟩,⟨hb.out.trans ((bxw.out.trans (bw8.out.mono bxw.out.size)).mono hb.out.size)⟩⟩
     case measure=>simp[intOf];omega
    ·have hU2:Kp (okX tb p.n p.vs p.ex x ct vv=U):=⟨by rw[hok.out];rfl⟩
     go_wp2_with fail
     go_region_held3 (λw'=>w'.cell? ⟨sb,0,none⟩=some (.int .i64 N)∧w'.cell? ⟨sb,1,none⟩=some (.string tb)∧w'.cell? ⟨sb,3,none⟩=some (.string V)∧w'.cell? ⟨gx,2,none⟩=some (.int .i64 (j:Nat))) (go_keep) ((go_at_call 55;refine(hUn.out _).mono ?_;rintro en w9 ⟨rfl,hw9⟩;subst hw9))
     clear y0 y1 y3 s2 hget hwz hib hbz
     cases U
     ·have hfin:Kp _:=⟨hfin0.out false hU2.out⟩
      have bw:Kp (Below wx.heap.size wx w7.drew):=⟨bw0.out.drew⟩
      clear bw0 s0
      have s1:=(Ox.out.step bw.out).c 1 _ rfl
      have s4:=(Ox.out.step bw.out).c 4 _ rfl
      go_wp2_with fail
      refine(hLes.out m (x.a:Nat) _).mono ?_
      rintro en wl ⟨rfl,hwl⟩
      have hwl2:=hwl.symm
      clear hwl
      subst hwl2
      go_wp2_with fail
      refine(hBb.out _ bw.out).mono ?_
      rintro en w7 ⟨rfl,b7⟩
      have bw7:Kp (Below wx.heap.size wx w7):=⟨bw.out.trans (b7.mono bw.out.size)⟩
      have s5:=(Ox.out.step bw7.out).c 5 _ rfl
      clear s1 s4 b7 bw
      go_wp2_with fail
      refine(hLes.out _ _ _).mono ?_
      rintro en wl ⟨rfl,hwl⟩
      have hwl2:=hwl.symm
      clear hwl
      subst hwl2
      go_wp2_with fail
      refine(hBe.out _ bw7.out).mono ?_
      rintro en w8 ⟨rfl,b8⟩
      have bw8:Kp (Below wx.heap.size wx w8):=⟨bw7.out.trans (b8.mono bw7.out.size)⟩
      clear s5 b8 bw7
      go_wp2_with fail
      refine(hLes.out _ _ _).mono ?_
      rintro en wl ⟨rfl,hwl⟩
      have hwl2:=hwl.symm
      clear hwl
      subst hwl2
      go_wp2_with fail
      go_roundw
      case rel=>exact⟨i+1,_,rfl,by go_num,by omega,⟨by rw[hfin.out];rfl⟩,⟨hb.out.trans ((bxw.out.trans (bw8.out.mono bxw.out.size)).mono hb.out.size)⟩⟩
      case measure=>simp[intOf];omega
     ·have hfin:Kp _:=⟨hfin0.out true hU2.out⟩
      have bw:Kp (Below wx.heap.size wx w7.drew):=⟨bw0.out.drew⟩
      clear bw0 s0
      have s1:=(Ox.out.step bw.out).c 1 _ rfl
      have s4:=(Ox.out.step bw.out).c 4 _ rfl
      go_wp2_with fail
      refine(hBb.out _ bw.out).mono ?_
      rintro en w7 ⟨rfl,b7⟩
      have bw7:Kp (Below wx.heap.size wx w7):=⟨bw.out.trans (b7.mono bw.out.size)⟩
      have s5:=(Ox.out.step bw7.out).c 5 _ rfl
      clear s1 s4 b7 bw
      go_wp2_with fail
      refine(hLes.out _ _ _).mono ?_
      rintro en wl ⟨rfl,hwl⟩
      have hwl2:=hwl.symm
      clear hwl
      subst hwl2
      go_wp2_with fail
      refine(hBe.out _ bw7.out).mono ?_
      rintro en w8 ⟨rfl,b8⟩
      have bw8:Kp (Below wx.heap.size wx w8):=⟨bw7.out.trans (b8.mono bw7.out.size)⟩
      clear s5 b8 bw7
      go_wp2_with fail
      refine(hLes.out _ _ _).mono ?_
      rintro en wl ⟨rfl,hwl⟩
      have hwl2:=hwl.symm
      clear hwl
      subst hwl2
      go_wp2_with fail
      go_roundw
      case rel=>exact⟨i+1,_,rfl,by go_num,by omega,⟨by rw[hfin.out];rfl⟩,⟨hb.out.trans ((bxw.out.trans (bw8.out.mono bxw.out.size)).mono hb.out.size)⟩⟩
      case measure=>simp[intOf];omega
   ·have hok:=hok62.out h62
    obtain⟨U,hU⟩:∃U,le tb p.n vv x.v=U:=⟨_,rfl⟩
    rw[hU]at hok
    have hUn:Kp (∀W,Calls prog 55 #[.string tb,.int .i64 N,.int .i64 vv,.int .i64 x.v] W λe w'=>e=.returned (.bool U)∧w'=W):=⟨λW=>by rw[<-hU,<-hN.out];exact Zas ht vv x.v W vvL.1 vvL.2 hv0 hv1⟩
    have y1:=(Hx.out.step bw0.out).ct
    have y0:=(Hx.out.step bw0.out).cn
    rw[hN.out]at y0
    have s2:=(Ox.out.step bw0.out).c 2 _ rfl
    rw[h62]at s0
    replace hok:=Z_ hok
    clear hU hv0 hv1 h62
    cases D
    ·have hfin:Kp _:=⟨hfin0.out false (by rw[hok.out];rfl)⟩
     clear y0 y1 s2
     go_wp2_with fail
     refine wp_region_noPanic ?_
     refine wp_region_held_drew (S:=λ_=>True) (by kernel_rfl) trivial (λhHeld=>?_)
     refine tkS (i:=0) (v:=?_) rfl (Or.inl ⟨by rfl,?_⟩) trivial ?_
     rotate_left
     ·intro w hSw
      go_simp
      (try with_reducible rfl)
     try simp only[Act.put,Qa,Qc,Qd]
     refine tkS (i:=1) (v:=?_) rfl (Or.inl ⟨by rfl,?_⟩) trivial ?_
     rotate_left
     ·intro w hSw
      go_simp
      (try with_reducible rfl)
     try simp only[Act.put,Qa,Qc,Qd]
     refine tkS (i:=2) (v:=undef) rfl (Or.inr ⟨by kernel_rfl,rfl⟩) trivial ?_
     try simp only[Act.put,Qa,Qc,Qd]
     refine tkS (i:=3) (v:=undef) rfl (Or.inr ⟨by kernel_rfl,rfl⟩) trivial ?_
     try simp only[Act.put,Qa,Qc,Qd]
     refine tkS (i:=4) (v:=undef) rfl (Or.inr ⟨by kernel_rfl,rfl⟩) trivial ?_
     try simp only[Act.put,Qa,Qc,Qd]
     refine tkS (i:=5) (v:=undef) rfl (Or.inr ⟨by kernel_rfl,rfl⟩) trivial ?_
     try simp only[Act.put,Qa,Qc,Qd]
     refine tkS (i:=6) (v:=undef) rfl (Or.inr ⟨by kernel_rfl,rfl⟩) trivial ?_
     try simp only[Act.put,Qa,Qc,Qd]
     refine tkS (i:=7) (v:=undef) rfl (Or.inr ⟨by kernel_rfl,rfl⟩) trivial ?_
     try simp only[Act.put,Qa,Qc,Qd]
     refine tkS (i:=8) (v:=undef) rfl (Or.inr ⟨by kernel_rfl,rfl⟩) trivial ?_
     try simp only[Act.put,Qa,Qc,Qd]
     refine tkS (i:=9) (v:=undef) rfl (Or.inr ⟨by kernel_rfl,rfl⟩) trivial ?_
     try simp only[Act.put,Qa,Qc,Qd]
     refine tkS (i:=10) (v:=undef) rfl (Or.inr ⟨by kernel_rfl,rfl⟩) trivial ?_
     try simp only[Act.put,Qa,Qc,Qd]
     refine tkS (i:=11) (v:=undef) rfl (Or.inr ⟨by kernel_rfl,rfl⟩) trivial ?_
     try simp only[Act.put,Qa,Qc,Qd]
     refine tkS (i:=12) (v:=undef) rfl (Or.inr ⟨by kernel_rfl,rfl⟩) trivial ?_
     try simp only[Act.put,Qa,Qc,Qd]
     refine tkS (i:=13) (v:=undef) rfl (Or.inr ⟨by kernel_rfl,rfl⟩) trivial ?_
     try simp only[Act.put,Qa,Qc,Qd]
     refine tkS (i:=14) (v:=?_) rfl (Or.inl ⟨by rfl,?_⟩) trivial ?_
     rotate_left
     ·intro w hSw
      go_simp
      (try with_reducible rfl)
     try simp only[Act.put,Qa,Qc,Qd]
     refine tkS (i:=15) (v:=?_) rfl (Or.inl ⟨by rfl,?_⟩) trivial ?_
     rotate_left
     ·intro w hSw
      go_simp
      (try with_reducible rfl)
     try simp only[Act.put,Qa,Qc,Qd]
     refine wpAnyH_done (by kernel_rfl) ?_ _
     refine NoPanic.normal ?_
     have bw:Kp (Below wx.heap.size wx w7.drew):=⟨bw0.out.drew⟩
     clear bw0 s0 hHeld
     have s1:=(Ox.out.step bw.out).c 1 _ rfl
     have s4:=(Ox.out.step bw.out).c 4 _ rfl
     go_wp2_with fail
     refine(hLes.out m (x.a:Nat) _).mono ?_
     rintro en wl ⟨rfl,hwl⟩
     have hwl2:=hwl.symm
     clear hwl
     subst hwl2
     go_wp2_with fail
     refine(hBb.out _ bw.out).mono ?_
     rintro en w7 ⟨rfl,b7⟩
     have bw7:Kp (Below wx.heap.size wx w7):=⟨bw.out.trans (b7.mono bw.out.size)⟩
     have s5:=(Ox.out.step bw7.out).c 5 _ rfl
     clear s1 s4 b7 bw
     go_wp2_with fail
     refine(hLes.out _ _ _).mono ?_
     rintro en wl ⟨rfl,hwl⟩
     have hwl2:=hwl.symm
     clear hwl
     subst hwl2
     go_wp2_with fail
     refine(hBe.out _ bw7.out).mono ?_
     rintro en w8 ⟨rfl,b8⟩
     have bw8:Kp (Below wx.heap.size wx w8):=⟨bw7.out.trans (b8.mono bw7.out.size)⟩
     clear s5 b8 bw7
     go_wp2_with fail
     refine(hLes.out _ _ _).mono ?_
     rintro en wl ⟨rfl,hwl⟩
     have hwl2:=hwl.symm
     clear hwl
     subst hwl2
     go_wp2_with fail
     go_roundw
     case rel=>exact⟨i+1,_,rfl,by go_num,by omega,⟨by rw[hfin.out];rfl⟩,⟨hb.out.trans ((bxw.out.trans (bw8.out.mono bxw.out.size)).mono hb.out.size)⟩⟩
     case measure=>simp[intOf];omega
    ·have hU2:Kp (okX tb p.n p.vs p.ex x ct vv=U):=⟨by rw[hok.out];rfl⟩
     go_wp2_with fail
     go_region_held3 (λw'=>w'.cell? ⟨sb,0,none⟩=some (.int .i64 N)∧w'.cell? ⟨sb,1,none⟩=some (.string tb)∧w'.cell? ⟨gx,2,none⟩=some (.int .i64 x.v)) (go_keep) ((go_at_call 55;refine(hUn.out _).mono ?_;rintro en w9 ⟨rfl,hw9⟩;subst hw9))
     clear y0 y1 s2
     cases U
     ·have hfin:Kp _:=⟨hfin0.out false hU2.out⟩
      have bw:Kp (Below wx.heap.size wx w7.drew):=⟨bw0.out.drew⟩
      clear bw0 s0
      have s1:=(Ox.out.step bw.out).c 1 _ rfl
      have s4:=(Ox.out.step bw.out).c 4 _ rfl
      go_wp2_with fail
      refine(hLes.out m (x.a:Nat) _).mono ?_
      rintro en wl ⟨rfl,hwl⟩
      have hwl2:=hwl.symm
      clear hwl
      subst hwl2
      go_wp2_with fail
      refine(hBb.out _ bw.out).mono ?_
      rintro en w7 ⟨rfl,b7⟩
      have bw7:Kp (Below wx.heap.size wx w7):=⟨bw.out.trans (b7.mono bw.out.size)⟩
      have s5:=(Ox.out.step bw7.out).c 5 _ rfl
      clear s1 s4 b7 bw
      go_wp2_with fail
      refine(hLes.out _ _ _).mono ?_
      rintro en wl ⟨rfl,hwl⟩
      have hwl2:=hwl.symm
      clear hwl
      subst hwl2
      go_wp2_with fail
      refine(hBe.out _ bw7.out).mono ?_
      rintro en w8 ⟨rfl,b8⟩
      have bw8:Kp (Below wx.heap.size wx w8):=⟨bw7.out.trans (b8.mono bw7.out.size)⟩
      clear s5 b8 bw7
      go_wp2_with fail
      refine(hLes.out _ _ _).mono ?_
      rintro en wl ⟨rfl,hwl⟩
      have hwl2:=hwl.symm
      clear hwl
      subst hwl2
      go_wp2_with fail
      go_roundw
      case rel=>exact⟨i+1,_,rfl,by go_num,by omega,⟨by rw[hfin.out];rfl⟩,⟨hb.out.trans ((bxw.out.trans (bw8.out.mono bxw.out.size)).mono hb.out.size)⟩⟩
      case measure=>simp[intOf];omega
     ·have hfin:Kp _:=⟨hfin0.out true hU2.out⟩
      have bw:Kp (Below wx.heap.size wx w7.drew):=⟨bw0.out.drew⟩
      clear bw0 s0
      have s1:=(Ox.out.step bw.out).c 1 _ rfl
      have s4:=(Ox.out.step bw.out).c 4 _ rfl
      go_wp2_with fail
      refine(hBb.out _ bw.out).mono ?_
      rintro en w7 ⟨rfl,b7⟩
      have bw7:Kp (Below wx.heap.size wx w7):=⟨bw.out.trans (b7.mono bw.out.size)⟩
      have s5:=(Ox.out.step bw7.out).c 5 _ rfl
      clear s1 s4 b7 bw
      go_wp2_with fail
      refine(hLes.out _ _ _).mono ?_
      rintro en wl ⟨rfl,hwl⟩
      have hwl2:=hwl.symm
      clear hwl
      subst hwl2
      go_wp2_with fail
      refine(hBe.out _ bw7.out).mono ?_
      rintro en w8 ⟨rfl,b8⟩
      have bw8:Kp (Below wx.heap.size wx w8):=⟨bw7.out.trans (b8.mono bw7.out.size)⟩
      clear s5 b8 bw7
      go_wp2_with fail
      refine(hLes.out _ _ _).mono ?_
      rintro en wl ⟨rfl,hwl⟩
      have hwl2:=hwl.symm
      clear hwl
      subst hwl2
      go_wp2_with fail
      go_roundw
      case rel=>exact⟨i+1,_,rfl,by go_num,by omega,⟨by rw[hfin.out];rfl⟩,⟨hb.out.trans ((bxw.out.trans (bw8.out.mono bxw.out.size)).mono hb.out.size)⟩⟩
      case measure=>simp[intOf];omega
   ·have hok:Kp _:=⟨hok63.out h63⟩
    rw[h63]at s0
    clear h63
    have bw:=bw0
    clear bw0
    cases D
    ·have hfin:Kp _:=⟨hfin0.out false hok.out⟩
     have s1:=(Ox.out.step bw.out).c 1 _ rfl
     have s4:=(Ox.out.step bw.out).c 4 _ rfl
     go_wp2_with fail
     refine(hLes.out m (x.a:Nat) _).mono ?_
     rintro en wl ⟨rfl,hwl⟩
     have hwl2:=hwl.symm
     clear hwl
     subst hwl2
     go_wp2_with fail
     refine(hBb.out _ bw.out).mono ?_
     rintro en w7 ⟨rfl,b7⟩
     have bw7:Kp (Below wx.heap.size wx w7):=⟨bw.out.trans (b7.mono bw.out.size)⟩
     have s5:=(Ox.out.step bw7.out).c 5 _ rfl
     clear s1 s4 b7 bw
     go_wp2_with fail
     refine(hLes.out _ _ _).mono ?_
     rintro en wl ⟨rfl,hwl⟩
     have hwl2:=hwl.symm
     clear hwl
     subst hwl2
     go_wp2_with fail
     refine(hBe.out _ bw7.out).mono ?_
     rintro en w8 ⟨rfl,b8⟩
     have bw8:Kp (Below wx.heap.size wx w8):=⟨bw7.out.trans (b8.mono bw7.out.size)⟩
     clear s5 b8 bw7
     go_wp2_with fail
     refine(hLes.out _ _ _).mono ?_
     rintro en wl ⟨rfl,hwl⟩
     have hwl2:=hwl.symm
     clear hwl
     subst hwl2
     go_wp2_with fail
     go_roundw
     case rel=>exact⟨i+1,_,rfl,by go_num,by omega,⟨by rw[hfin.out];rfl⟩,⟨hb.out.trans ((bxw.out.trans (bw8.out.mono bxw.out.size)).mono hb.out.size)⟩⟩
     case measure=>simp[intOf];omega
    ·have hfin:Kp _:=⟨hfin0.out true hok.out⟩
     have s1:=(Ox.out.step bw.out).c 1 _ rfl
     have s4:=(Ox.out.step bw.out).c 4 _ rfl
     go_wp2_with fail
     refine(hBb.out _ bw.out).mono ?_
     rintro en w7 ⟨rfl,b7⟩
     have bw7:Kp (Below wx.heap.size wx w7):=⟨bw.out.trans (b7.mono bw.out.size)⟩
     have s5:=(Ox.out.step bw7.out).c 5 _ rfl
     clear s1 s4 b7 bw
     go_wp2_with fail
     refine(hLes.out _ _ _).mono ?_
     rintro en wl ⟨rfl,hwl⟩
     have hwl2:=hwl.symm
     clear hwl
     subst hwl2
     go_wp2_with fail
     refine(hBe.out _ bw7.out).mono ?_
     rintro en w8 ⟨rfl,b8⟩
     have bw8:Kp (Below wx.heap.size wx w8):=⟨bw7.out.trans (b8.mono bw7.out.size)⟩
     clear s5 b8 bw7
     go_wp2_with fail
     refine(hLes.out _ _ _).mono ?_
     rintro en wl ⟨rfl,hwl⟩
     have hwl2:=hwl.symm
     clear hwl
     subst hwl2
     go_wp2_with fail
     go_roundw
     case rel=>exact⟨i+1,_,rfl,by go_num,by omega,⟨by rw[hfin.out];rfl⟩,⟨hb.out.trans ((bxw.out.trans (bw8.out.mono bxw.out.size)).mono hb.out.size)⟩⟩
     case measure=>simp[intOf];omega
   ·have hok:Kp _:=⟨hok64.out h64⟩
    have s3:=(Ox.out.step bw0.out).c 3 _ rfl
    rw[h64]at s0
    clear h64
    go_wp2_with fail
    refine(hDw.out _ bw0.out).mono ?_
    rintro en wd ⟨rfl,bd⟩
    have bw:Kp (Below wx.heap.size wx wd):=⟨bw0.out.trans (bd.mono bw0.out.size)⟩
    clear bd bw0 s0 s3
    cases Dv
    ·have hfin:Kp _:=⟨hfin0.out false hok.out⟩
     have s1:=(Ox.out.step bw.out).c 1 _ rfl
     have s4:=(Ox.out.step bw.out).c 4 _ rfl
     go_wp2_with fail
     refine(hLes.out m (x.a:Nat) _).mono ?_
     rintro en wl ⟨rfl,hwl⟩
     have hwl2:=hwl.symm
     clear hwl
     subst hwl2
     go_wp2_with fail
     refine(hBb.out _ bw.out).mono ?_
     rintro en w7 ⟨rfl,b7⟩
     have bw7:Kp (Below wx.heap.size wx w7):=⟨bw.out.trans (b7.mono bw.out.size)⟩
     have s5:=(Ox.out.step bw7.out).c 5 _ rfl
     clear s1 s4 b7 bw
     go_wp2_with fail
     refine(hLes.out _ _ _).mono ?_
     rintro en wl ⟨rfl,hwl⟩
     have hwl2:=hwl.symm
     clear hwl
     subst hwl2
     go_wp2_with fail
     refine(hBe.out _ bw7.out).mono ?_
     rintro en w8 ⟨rfl,b8⟩
     have bw8:Kp (Below wx.heap.size wx w8):=⟨bw7.out.trans (b8.mono bw7.out.size)⟩
     clear s5 b8 bw7
     go_wp2_with fail
     refine(hLes.out _ _ _).mono ?_
     rintro en wl ⟨rfl,hwl⟩
     have hwl2:=hwl.symm
     clear hwl
     subst hwl2
     go_wp2_with fail
     go_roundw
     case rel=>exact⟨i+1,_,rfl,by go_num,by omega,⟨by rw[hfin.out];rfl⟩,⟨hb.out.trans ((bxw.out.trans (bw8.out.mono bxw.out.size)).mono hb.out.size)⟩⟩
     case measure=>simp[intOf];omega
    ·have hfin:Kp _:=⟨hfin0.out true hok.out⟩
     have s1:=(Ox.out.step bw.out).c 1 _ rfl
     have s4:=(Ox.out.step bw.out).c 4 _ rfl
     go_wp2_with fail
     refine(hBb.out _ bw.out).mono ?_
     rintro en w7 ⟨rfl,b7⟩
     have bw7:Kp (Below wx.heap.size wx w7):=⟨bw.out.trans (b7.mono bw.out.size)⟩
     have s5:=(Ox.out.step bw7.out).c 5 _ rfl
     clear s1 s4 b7 bw
     go_wp2_with fail
     refine(hLes.out _ _ _).mono ?_
     rintro en wl ⟨rfl,hwl⟩
     have hwl2:=hwl.symm
     clear hwl
     subst hwl2
     go_wp2_with fail
     refine(hBe.out _ bw7.out).mono ?_
     rintro en w8 ⟨rfl,b8⟩
     have bw8:Kp (Below wx.heap.size wx w8):=⟨bw7.out.trans (b8.mono bw7.out.size)⟩
     clear s5 b8 bw7
     go_wp2_with fail
     refine(hLes.out _ _ _).mono ?_
     rintro en wl ⟨rfl,hwl⟩
     have hwl2:=hwl.symm
     clear hwl
     subst hwl2
     go_wp2_with fail
     go_roundw
     case rel=>exact⟨i+1,_,rfl,by go_num,by omega,⟨by rw[hfin.out];rfl⟩,⟨hb.out.trans ((bxw.out.trans (bw8.out.mono bxw.out.size)).mono hb.out.size)⟩⟩
     case measure=>simp[intOf];omega
  ·have e0:Kp (m=brks tb p.n p.vs p.ex p.sm l ct (-1)):=⟨by rw[hm.out,Ux (by omega)]⟩
   have hni:¬(i:Int)<(l.length:Int):=by omega
   clear hm
   go_wp2
   go_ret
   exact⟨ZR e0.out,hb.out⟩
theorem Zgr(rb sb B:Nat)(s tb:ZB)(tp:Value)(p:Rs)(S:Nat->Value)(sv:List (Value×Value))(hE:Z7 p.ex)(hSm:ZaQ p.ex p.sm)(hXB:ExB p.n p.vs.length p.ex)(hV:VsB p.n p.vs)(hSB:∀x,x∈p.sm->SB p.n p.vs.length x)(ht:Tab tb p.n)(L:Zam tb p.n):∀k,BGo rb sb B s tb tp p S sv k
 | 0=>λl lv ct w hn H hI hct=>ZfG rb sb B s tb tp p S sv hE hSm hXB hV hSB ht L 0 l (λh=>by
   cases l with
   | nil=>exact absurd rfl h
   | cons n l=>have:=(hn n (by simp)).1;omega) lv ct w (λn hm=>by have:=hn n hm;omega) H hI hct
 | k+1=>λl lv ct w hn H hI hct=>ZfG rb sb B s tb tp p S sv hE hSm hXB hV hSB ht L k l (λ_=>⟨Zgr rb sb B s tb tp p S sv hE hSm hXB hV hSB ht L k⟩) lv ct w hn H hI hct
end Go.Proofs.YtcnbifdlkalimabGreat
