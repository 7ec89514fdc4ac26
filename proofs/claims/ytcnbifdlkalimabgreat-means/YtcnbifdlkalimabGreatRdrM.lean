import Derived.Test.YtcnbifdlkalimabGreatTrnD
import Derived.Test.YtcnbifdlkalimabGreatTrnF
import Derived.Test.YtcnbifdlkalimabGreatSrcB
import Derived.Test.YtcnbifdlkalimabGreatTrnC
import Derived.Test.YtcnbifdlkalimabGreatTrnE
import Derived.Deep.RegionHeld
import Derived.Test.YtcnbifdlkalimabGreatPlnA
/- Lemmas for the statement Means; their conditions stand in each. -/
namespace Go.Proofs.YtcnbifdlkalimabGreat
open Go.RowKit Go.Proofs.Tryz
set_option linter.unusedVariables false
set_option maxRecDepth 100000
variable{t:Int}{sv:List (Value×Value)}{l ls:List Int}{B g i k m n rb sb:Nat}{S S':Nat->Value}{row:Option Nat}{r:Rd}{p:Rs}{tp v:Value}{w w':World}{P s set tb:ZB}
theorem Zgs(h:i<s.size):(bl s)[i]?=some (bv s i):=by
 unfold bl
 rw[Ui,Array.getElem?_toList]
 have h2:i<s.data.size:=h
 rw[Array.getElem?_eq_getElem h2]
 show some ((s.data[i].toNat:Nat):Int)=some (bv s i)
 rw[<-ZS s i h]
 rfl
set_option maxHeartbeats 6400000
theorem Zbv(b:Nat)(s:ZB)(r:Rd)(w:World)(H:Zct w b s r)(O:ZbV s r) :
  Calls prog 74 #[.pointer (some ⟨b,0,none⟩)] w λe w'=>e=.returned (.tuple #[])∧Zi w w' b ⟨skp s r.a,r.er⟩:=by
 have sz:=O.sz
 have T0:Kp (Zi w w b r):=⟨Zi.refl H⟩
 have H':Kp _:=⟨H⟩
 have hle:Kp (r.a<=s.size):=⟨O.le⟩
 clear H O
 go_enter func74,ntmps74
 go_wp2_with fail
 go_loopg [2] (s.size-r.a) (λg pv wr=>∃a:Nat,Kp (skp s a=skp s r.a)∧Kp (a<=s.size)∧Kp (Zi w wr b ⟨a,r.er⟩)∧Kp (g=s.size-a))
 case atStart=>exact⟨r.a,⟨rfl⟩,hle,T0,⟨rfl⟩⟩
 case round=>
  clear T0 hle
  obtain⟨a,ha,hle,hT,hg⟩:=hrel
  have hA:=H'.out.to hT.out
  have c0:=hA.c0
  have c1:wr.cell? ⟨b,1,none⟩=some (.int .i64 a):=hA.c1
  have f1:=hA.f1
  by_cases h1:a<s.size
  ·have d1:decide ((a:Int)<(s.size:Int))=true:=Qv (by omega)
   have hai:(a:Int)<(s.size:Int):=by omega
   have hv:=ZS s a h1
   obtain⟨x,hx⟩:∃x,bv s a=x:=⟨_,rfl⟩
   rw[hx]at hv
   by_cases h2:x=32∨x=10
   ·have hb:blk (bv s a)=true:=by rw[hx];unfold blk;rcases h2 with h|h<;>rw[h]<;>rfl
    have e1:Kp (skp s (a+1)=skp s r.a):=⟨by rw[<-ha.out,Zl0 h1 hb]⟩
    have T1:=Zi.setA hA (a+1)
    have T2:Kp (Zi w (wr.setCell ⟨b,1,none⟩ (.int .i64 ((a:Int)+1))) b ⟨a+1,r.er⟩):=⟨hT.out.trans T1⟩
    clear hA T1 hT hb hx
    rcases h2 with rfl|rfl
    ·go_wp2_with fail
     go_quiet (fail)
     go_wp2_with fail
     go_roundg (s.size-(a+1))
     case measure=>have:=hg.out;omega
     case rel=>exact⟨a+1,e1,⟨by omega⟩,⟨T2.out.drewN _⟩,⟨rfl⟩⟩
    ·go_wp2_with fail
     go_quiet (fail)
     go_wp2_with fail
     go_roundg (s.size-(a+1))
     case measure=>have:=hg.out;omega
     case rel=>exact⟨a+1,e1,⟨by omega⟩,⟨T2.out.drewN _⟩,⟨rfl⟩⟩
   ·have hb:¬(a<s.size∧blk (bv s a)=true):=λc=>by
     have:=c.2
     rw[hx]at this
     unfold blk at this
     simp at this
     exact h2 this
    have e1:Kp (skp s r.a=a):=⟨by rw[<-ha.out,Zf7 hb]⟩
    have k1:(x==32)=false:=Qf.2 λc=>h2 (.inl c)
    have k2:(x==10)=false:=Qf.2 λc=>h2 (.inr c)
    clear hA hb h2 hx
    go_wp2_with fail
    go_quiet (fail)
    go_wp2_with fail
    first|go_end0|refine Qi (Qp rfl _ _ _) rfl ?_
    exact⟨rfl,by rw[e1.out];exact hT.out.drewN _⟩
  ·have d1:decide ((a:Int)<(s.size:Int))=false:=Qx (by omega)
   have d1n:decide (a<s.size)=false:=Qx (by omega)
   have h2:s.size<=a:=by omega
   have e1:Kp (skp s r.a=a):=⟨by rw[<-ha.out,Zf7 (λc=>h1 c.1)]⟩
   clear hA h1
   go_wp2_with fail
   go_quiet (fail)
   go_wp2_with fail
   first|go_end0|refine Qi (Qp rfl _ _ _) rfl ?_
   exact⟨rfl,by rw[e1.out];exact hT.out.drewN _⟩
def Zd0(s set:ZB)(r:Rd):Bool:=fnB (tok s r) (bl set)
def NoZ(set:ZB):Prop:=∀x,x∈bl set->x≠0
theorem Zhj(h:NoZ set):fnB 0 (bl set)=false:=by
 refine Qx λc=>?_
 exact h 0 (Qw (Zf9 c)) rfl
theorem Zay(b:Nat)(s set:ZB)(r:Rd)(w:World)(H:Zct w b s r)(O:ZbV s r)(hz:NoZ set)(hl:set.size<=300) :
  Calls prog 138 #[.pointer (some ⟨b,0,none⟩),.string set] w λe w'=>e=.returned (.bool (Zd0 s set r))∧Zi w w' b (adv s r):=by
 unfold Zd0
 by_cases h0:r.er=0
 ·have hS:=Zbv b s r w H O
  have ea:adv s r=⟨skp s r.a,r.er⟩:=by rw[Zb0 h0,h0]
  have hA:=λ(w1:World) (T:Zi w w1 b ⟨skp s r.a,r.er⟩)=>H.to T
  have ht:tok s r=here s (adv s r):=rfl
  have hle:=Zpa O.le
  have sz:=O.sz
  have c2:=H.c2
  rw[h0]at c2
  rw[ht,ea]
  obtain⟨a,ha⟩:∃a,skp s r.a=a:=⟨_,rfl⟩
  rw[ha]at hS hA hle ⊢
  rw[h0]at hS hA ⊢
  clear ht ea H O ha h0
  obtain⟨x,hx⟩:∃x,here s ⟨a,0⟩=x:=⟨_,rfl⟩
  rw[hx]
  replace hS:=Z_ hS
  replace hA:=Z_ hA
  go_enter func138,ntmps138
  go_wp2_with fail
  refine hS.out.mono ?_
  rintro e w1 ⟨rfl,T1⟩
  replace T1:=Z_ T1
  clear hS c2
  go_wp2_with fail
  go_loopw [5] (λiv wr=>∃i:Nat,i<=set.size∧iv=.int .i64 i∧Kp (∀j,j<i->(bl set)[j]?≠some x)∧Kp (Zi w wr b ⟨a,0⟩)) (λiv _=>set.size-(intOf iv).toNat)
  case atStart=>exact⟨0,by omega,rfl,⟨λj hj=>by omega⟩,T1⟩
  case round=>
   clear T1
   obtain⟨i,hi,rfl,hb,hT⟩:=hrel
   have A1:=hA.out wr hT.out
   have c0:wr.cell? ⟨b,0,none⟩=some (.string s):=A1.c0
   have c1:wr.cell? ⟨b,1,none⟩=some (.int .i64 a):=A1.c1
   clear A1
   have hsi:(set.size:Int)<=300:=by omega
   by_cases h1:i<set.size
   ·have d1:decide ((i:Int)<(set.size:Int))=true:=Qv (by omega)
    have hii:(i:Int)<(set.size:Int):=by omega
    by_cases h2:a<s.size
    ·have d2:decide ((a:Int)<(s.size:Int))=true:=Qv (by omega)
     have hai:(a:Int)<(s.size:Int):=by omega
     have hv:=ZS s a h2
     have hxv:bv s a=x:=by rw[<-hx];exact(if_pos ⟨rfl,h2⟩).symm
     rw[hxv]at hv
     have hu:=ZS set i h1
     have hg:=Zgs h1
     obtain⟨y,hy⟩:∃y,bv set i=y:=⟨_,rfl⟩
     rw[hy]at hu hg
     replace hg:=Z_ hg
     by_cases h3:x=y
     ·subst h3
      have e1:Kp (fnB x (bl set)=true):=⟨(Zew (ZjT hg.out hb.out) (by rw[Zbx];exact h1)).2⟩
      clear hb hy hxv hx
      go_wp2_with fail
      go_quiet (fail)
      go_wp2_with fail
      go_quiet (fail)
      go_wp2
      go_ret
      exact⟨by rw[e1.out];rfl,(hT.out.drewN _).drewN _⟩
     ·have k3:(x==y)=false:=Qf.2 h3
      have hb2:Kp (∀j,j<i+1->(bl set)[j]?≠some x):=⟨λj hj=>by
       by_cases e:j=i
       ·rw[e,hg.out];intro h;exact h3 (Option.some.inj h).symm
       ·exact hb.out j (by omega)⟩
      clear hb hy hxv hx h3
      go_wp2_with fail
      go_quiet (fail)
      go_wp2_with fail
      go_quiet (fail)
      go_wp2_with fail
      go_roundw
      case rel=>exact⟨i+1,by omega,by go_num,hb2,⟨by first|exact(hT.out.drewN _).drewN _|exact hT.out.drewN _⟩⟩
      case measure=>simp[intOf];omega
    ·have d2:decide ((a:Int)<(s.size:Int))=false:=Qx (by omega)
     have d2n:decide (a<s.size)=false:=Qx (by omega)
     have h2n:s.size<=a:=by omega
     have hx0:x=0:=by rw[<-hx];exact if_neg λc=>h2 c.2
     have e1:Kp (fnB x (bl set)=false):=⟨by rw[hx0];exact Zhj hz⟩
     clear hb hx h2 hx0
     go_wp2_with fail
     go_quiet (fail)
     go_wp2
     go_ret
     exact⟨by rw[e1.out];rfl,hT.out.drewN _⟩
   ·have d1:decide ((i:Int)<(set.size:Int))=false:=Qx (by omega)
    have d1n:decide (i<set.size)=false:=Qx (by omega)
    have h1n:set.size<=i:=by omega
    have e1:Kp (fnB x (bl set)=false):=⟨(ZeE (ZbF λj hj=>hb.out j (by rw[Zbx]at hj;omega))).2⟩
    clear hb h1 hx
    go_wp2_with fail
    go_quiet (fail)
    go_wp2
    go_ret
    exact⟨by rw[e1.out];rfl,hT.out.drewN _⟩
 ·have c2:=H.c2
  have e1:fnB (tok s r) (bl set)=false:=by rw[Zd3 h0];exact Zhj hz
  have T:Kp (Zi w w b (adv s r)):=⟨by rw[Zz h0];exact Zi.refl H⟩
  rw[e1]
  have hk:(r.er != 0)=true:=QO.2 h0
  generalize r.er=er at *
  clear H O e1 h0
  go_enter func138,ntmps138
  go_wp2
  go_ret
  exact⟨rfl,T.out⟩
theorem Za2(b:Nat)(s set:ZB)(r:Rd)(w:World)(H:Zct w b s r)(O:ZbV s r)(hz:NoZ set)(hl:set.size<=300) :
  Calls prog 137 #[.pointer (some ⟨b,0,none⟩),.string set] w λe w'=>e=.returned (.int .i64 (fnI (tok s r) (bl set):Nat))∧Zi w w' b (Zbn s r (Zd0 s set r) 11):=by
 have hS:=Zay b s set r w H O hz hl
 have sz:=O.sz
 have hsi:(set.size:Int)<=300:=by omega
 cases hc:Zd0 s set r with
 | true=>
  rw[hc]at hS
  have hfd:fnd (tok s r) (bl set)<(bl set).length:=QB hc
  have ht0:tok s r≠0:=λc=>by
   have h1:=Zhj hz
   unfold Zd0 at hc
   rw[c,h1]at hc
   simp at hc
  have hpos:=Z5 ht0
  have e1:Zbn s r true 11=nx (adv s r):=if_pos rfl
  rw[e1]
  have hA:=λ(w1:World) (T:Zi w w1 b (adv s r))=>H.to T
  have hxv:bv s (adv s r).a=tok s r:=(if_pos ⟨by rw[Zk];exact hpos.1,hpos.2⟩:here s (adv s r)=_).symm
  have hi:fnI (tok s r) (bl set)=fnd (tok s r) (bl set):=if_pos hfd
  rw[hi]
  have hgt:=Zf9 hfd
  have hbf:∀j,j<fnd (tok s r) (bl set)->(bl set)[j]?≠some (tok s r):=λj hj=>Zb1 hj
  rw[Zbx]at hfd
  have ha2:=hpos.2
  have her:(adv s r).er=0:=by rw[Zk];exact hpos.1
  obtain⟨r1,hr1⟩:∃r1,adv s r=r1:=⟨_,rfl⟩
  rw[hr1]at hS hA hxv ha2 her ⊢
  obtain⟨a,er⟩:=r1
  have her:er=0:=her
  subst her
  have ha2:a<s.size:=ha2
  have hxv:bv s a=tok s r:=hxv
  have hv:=ZS s a ha2
  rw[hxv]at hv
  obtain⟨i,hie⟩:∃i,fnd (tok s r) (bl set)=i:=⟨_,rfl⟩
  rw[hie]at hgt hbf hfd ⊢
  have hgi:=Zgs hfd
  obtain⟨x,hx⟩:∃x,tok s r=x:=⟨_,rfl⟩
  rw[hx]at hv hgt hbf
  have hsx:bv set i=x:=Option.some.inj (hgi.symm.trans hgt)
  have hai:(a:Int)<(s.size:Int):=by omega
  replace hS:=Z_ hS
  replace hA:=Z_ hA
  replace hbf:=Z_ hbf
  clear hc ht0 hpos e1 hxv hi hr1 hie hx H O hgt hgi
  go_enter func137,ntmps137
  go_wp2_with fail
  refine hS.out.mono ?_
  rintro e w1 ⟨rfl,T1⟩
  have A1:=hA.out _ T1
  have c0:=A1.c0
  have c1:w1.cell? ⟨b,1,none⟩=some (.int .i64 a):=A1.c1
  have f1:=A1.f1
  have T2:=Zi.setA A1 (a+1)
  have T3:Kp (Zi w (w1.setCell ⟨b,1,none⟩ (.int .i64 ((a:Int)+1))) b (nx ⟨a,0⟩)):=⟨T1.trans T2⟩
  clear hS hA A1 T1 T2
  go_wp2_with fail
  go_quiet (fail)
  go_wp2_with fail
  go_loop [7] (λiv=>∃j:Nat,j<=i∧iv=.int .i64 j) (λiv=>set.size-(intOf iv).toNat)
  case atStart=>exact⟨0,by omega,rfl⟩
  case round=>
   obtain⟨j,hj,rfl⟩:=hrel
   have hjs:j<set.size:=by omega
   have hji:(j:Int)<(set.size:Int):=by omega
   have hu:=ZS set j hjs
   by_cases hje:j=i
   ·subst hje
    rw[hsx]at hu
    go_wp2
    go_ret
    exact⟨rfl,T3.out.drewN _⟩
   ·have hb:=hbf.out j (by omega)
    rw[Zgs hjs]at hb
    obtain⟨y,hy⟩:∃y,bv set j=y:=⟨_,rfl⟩
    rw[hy]at hu hb
    have k3:(y==x)=false:=Qf.2 λc=>hb (by rw[c])
    clear hb hy
    go_wp2_with fail
    go_round
    case rel=>exact⟨j+1,by omega,by go_num⟩
    case measure=>simp[intOf];omega
 | false=>
  rw[hc]at hS
  have e1:Zbn s r false 11=rfs (adv s r) 11:=if_neg (by simp)
  rw[e1]
  have hi:fnI (tok s r) (bl set)=0:=if_neg (Ul hc)
  rw[hi]
  have hA:=λ(w1:World) (T:Zi w w1 b (adv s r))=>H.to T
  obtain⟨r1,hr1⟩:∃r1,adv s r=r1:=⟨_,rfl⟩
  rw[hr1]at hS hA ⊢
  obtain⟨a,er⟩:=r1
  replace hS:=Z_ hS
  replace hA:=Z_ hA
  clear hc e1 hi hr1 H O
  by_cases h0:er=0
  ·subst h0
   go_enter func137,ntmps137
   go_wp2_with fail
   refine hS.out.mono ?_
   rintro e w1 ⟨rfl,T1⟩
   have A1:=hA.out _ T1
   have c2:w1.cell? ⟨b,2,none⟩=some (.int .i64 0):=A1.c2
   have f2:=A1.f2
   have T2:=Zi.setE A1 11
   have T3:Kp (Zi w (w1.setCell ⟨b,2,none⟩ (.int .i64 11)) b (rfs ⟨a,0⟩ 11)):=⟨T1.trans T2⟩
   clear hS hA A1 T1 T2
   go_wp2
   go_ret
   exact⟨rfl,T3.out⟩
  ·have hk:(er==0)=false:=Qf.2 h0
   have e2:Kp (rfs ⟨a,er⟩ 11=⟨a,er⟩):=⟨ZiS h0⟩
   clear h0
   go_enter func137,ntmps137
   go_wp2_with fail
   refine hS.out.mono ?_
   rintro e w1 ⟨rfl,T1⟩
   have A1:=hA.out _ T1
   have c2:w1.cell? ⟨b,2,none⟩=some (.int .i64 er):=A1.c2
   replace T1:=Z_ T1
   clear hS hA A1
   go_wp2
   go_ret
   exact⟨rfl,by rw[e2.out];exact T1.out⟩
theorem Zju(b:Nat)(s:ZB)(r:Rd)(w:World)(H:Zct w b s r)(O:ZbV s r)(he:r.er=0) :
  Calls prog 235 #[.pointer (some ⟨b,0,none⟩)] w λe w'=>e=.returned (.int .i64 (num s r).1)∧Zi w w' b (num s r).2:=by
 have sz:=O.sz
 have T0:Kp (Zi w w b r):=⟨Zi.refl H⟩
 have H':Kp _:=⟨H⟩
 have hle:Kp (r.a<=s.size):=⟨O.le⟩
 obtain⟨a0,er⟩:=r
 have he:er=0:=he
 subst he
 have hrm:Kp (rem s ⟨a0,0⟩=s.size-a0):=⟨if_pos rfl⟩
 clear H O
 go_enter func235,ntmps235
 go_wp2_with fail
 go_loopg [3] (s.size-a0) (λg vv wr=>∃(a:Nat) (v:Int),vv=.int .i64 v∧0<=v∧v<=255∧Kp (num s ⟨a0,0⟩=ZfK s g ⟨a,0⟩ v)∧Kp (a<=s.size)∧Kp (Zi w wr b ⟨a,0⟩)∧Kp (g=s.size-a))
 case atStart=>exact⟨a0,0,rfl,by omega,by omega,⟨by unfold num;rw[hrm.out]⟩,hle,T0,⟨rfl⟩⟩
 case round=>
  clear T0 hle hrm
  obtain⟨a,v,rfl,v0,v9,hn,hle,hT,hg⟩:=hrel
  have hA:=H'.out.to hT.out
  have c0:=hA.c0
  have c1:wr.cell? ⟨b,1,none⟩=some (.int .i64 a):=hA.c1
  have c2:wr.cell? ⟨b,2,none⟩=some (.int .i64 0):=hA.c2
  have f1:=hA.f1
  have f2:=hA.f2
  by_cases h1:a<s.size
  ·have d1:decide ((a:Int)<(s.size:Int))=true:=Qv (by omega)
   have hai:(a:Int)<(s.size:Int):=by omega
   have hv:=ZS s a h1
   have hh:here s ⟨a,0⟩=bv s a:=if_pos ⟨rfl,h1⟩
   obtain⟨x0,x9⟩:=Zag s a
   obtain⟨x,hx⟩:∃x,bv s a=x:=⟨_,rfl⟩
   rw[hx]at hv hh x0 x9
   have hgs:=hg.out
   obtain⟨g,rfl⟩:∃g,gk=g+1:=⟨gk-1,by omega⟩
   by_cases h2:48<=x∧x<=57
   ·obtain⟨y1,y2⟩:=h2
    have d2:decide (48<=x)=true:=Qv y1
    have d3:decide (x<=57)=true:=Qv y2
    obtain⟨wm1,wm2⟩:=i64w (x:=v*10) (by omega) (by omega)
    obtain⟨wa1,wa2⟩:=i64w (x:=v*10+x) (by omega) (by omega)
    obtain⟨ws1,ws2⟩:=i64w (x:=v*10+x-48) (by omega) (by omega)
    by_cases h3:255<v*10+x-48
    ·have e1:Kp (num s ⟨a0,0⟩=(0,⟨a,11⟩)):=⟨by
      rw[hn.out]
      simp only[ZfK]
      rw[hh,if_pos ⟨y1,y2⟩,if_pos (by omega)]
      rfl⟩
     have T2:Kp (∀k,Zi w ((wr.drewN k).setCell ⟨b,2,none⟩ (.int .i64 11)) b ⟨a,11⟩):=⟨λk=>(hT.out.drewN k).trans (Zi.setE (H'.out.to (hT.out.drewN k)) 11)⟩
     clear hA hT hx hh hn hg hgs
     go_wp2_with fail
     go_quiet (fail)
     go_wp2_with fail
     go_quiet (fail)
     go_wp2
     go_ret
     exact⟨by rw[e1.out];rfl,by rw[e1.out];exact T2.out _⟩
    ·have e1:Kp (num s ⟨a0,0⟩=ZfK s g ⟨a+1,0⟩ (v*10+x-48)):=⟨by
      rw[hn.out]
      simp only[ZfK]
      rw[hh,if_pos ⟨y1,y2⟩,if_neg (by omega),show 10*v+x-48=v*10+x-48 from by omega]
      rfl⟩
     have T2:Kp (∀k,Zi w ((wr.drewN k).setCell ⟨b,1,none⟩ (.int .i64 ((a:Int)+1))) b ⟨a+1,0⟩):=⟨λk=>(hT.out.drewN k).trans (Zi.setA (H'.out.to (hT.out.drewN k)) (a+1))⟩
     clear hA hT hx hh hn hg
     go_wp2_with fail
     go_quiet (fail)
     go_wp2_with fail
     go_quiet (fail)
     go_wp2_with fail
     go_roundg g
     case measure=>omega
     case rel=>exact⟨a+1,v*10+x-48,rfl,by omega,by omega,e1,⟨by omega⟩,⟨T2.out _⟩,⟨by omega⟩⟩
   ·have e1:Kp (num s ⟨a0,0⟩=(v,⟨a,0⟩)):=⟨by
     rw[hn.out]
     simp only[ZfK]
     rw[hh,if_neg h2]⟩
    clear hA hx hh hn hg
    by_cases h3:48<=x
    ·have d2:decide (48<=x)=true:=Qv h3
     have d3:decide (x<=57)=false:=Qx (λc=>h2 ⟨h3,c⟩)
     clear h2
     go_wp2_with fail
     go_quiet (fail)
     go_wp2
     go_ret
     exact⟨by rw[e1.out];rfl,by rw[e1.out];exact hT.out.drewN _⟩
    ·have d2:decide (48<=x)=false:=Qx h3
     clear h2 h3
     go_wp2_with fail
     go_quiet (fail)
     go_wp2
     go_ret
     exact⟨by rw[e1.out];rfl,by rw[e1.out];exact hT.out.drewN _⟩
  ·have d1:decide ((a:Int)<(s.size:Int))=false:=Qx (by omega)
   have d1n:decide (a<s.size)=false:=Qx (by omega)
   have h1n:s.size<=a:=by omega
   have e1:Kp (num s ⟨a0,0⟩=(v,⟨a,0⟩)):=⟨by
    rw[hn.out]
    exact Zl2 s _ _ _ (by unfold rem;rw[if_pos rfl];show s.size-a=0;omega)⟩
   clear hA h1
   go_wp2_with fail
   go_quiet (fail)
   go_wp2
   go_ret
   exact⟨by rw[e1.out];rfl,by rw[e1.out];exact hT.out.drewN _⟩
def dgL(n:Nat):List Int:=(List.range n).map λi=>((48+i:Nat):Int)
theorem Zjv(h:i<n):(dgL n)[i]?=some ((48+i:Nat):Int):=by simp[dgL,h]
theorem Zjw(n:Nat):(dgL n).length=n:=by simp[dgL]
theorem ZqF(h0:48<=t)(h1:t<48+n):fnd t (dgL n)=(t-48).toNat:=by
 refine ZjT ?_ λj hj=>?_
 ·rw[Zjv (by omega)]
  congr 1
  omega
 ·rw[Zjv (by omega)]
  intro e
  have:=Option.some.inj e
  omega
theorem ZrS(h:¬(48<=t∧t<48+n)):fnd t (dgL n)=(dgL n).length:=by
 refine ZbF λj hj=>?_
 rw[Zjw]at hj
 rw[Zjv hj]
 intro e
 have:=Option.some.inj e
 omega
theorem ZrT(h1:1<=n)(h6:n<=6):bl ((ByteArray.mk #[48,49,50,51,52,53,54,55,56,57]).extract 0 n)=dgL n:=by
 have hc:n=1∨n=2∨n=3∨n=4∨n=5∨n=6:=by omega
 rcases hc with rfl|rfl|rfl|rfl|rfl|rfl<;>decide
theorem ZqG(hb:bl set=dgL n):Zd0 s set r=isD s r 0 ((n:Int)-1)∧((fnI (tok s r) (bl set):Nat):Int)=dig s r 0 ((n:Int)-1):=by
 unfold Zd0
 rw[hb]
 by_cases h:48<=tok s r∧tok s r<48+n
 ·have e:=ZqF h.1 h.2
  have hy:=Zew e (by rw[Zjw];omega)
  have hd:isD s r 0 ((n:Int)-1)=true:=Qv ⟨by omega,by omega⟩
  refine⟨by rw[hy.2,hd],?_⟩
  rw[hy.1]
  unfold dig
  rw[if_pos hd]
  omega
 ·have e:=ZrS h
  have hn:=ZeE e
  have hd:isD s r 0 ((n:Int)-1)=false:=Qx (λk=>h ⟨by omega,by omega⟩)
  refine⟨by rw[hn.2,hd],?_⟩
  rw[hn.1]
  unfold dig
  rw[if_neg (by rw[hd];simp)]
  rfl
theorem Zej(b sb:Nat)(s:ZB)(r:Rd)(n:Nat)(w:World)(H:Zct w b s r)(O:ZbV s r)(c3:w.cell? ⟨b,3,none⟩=some (.pointer (some ⟨sb,0,none⟩)))(cN:w.cell? ⟨sb,0,none⟩=some (.int .i64 n))(h1:1<=n)(h6:n<=6) :
  Calls prog 139 #[.pointer (some ⟨b,0,none⟩)] w λe w'=>e=.returned (.int .i64 (dig s r 0 ((n:Int)-1)))∧Zi w w' b (digR s r 0 ((n:Int)-1)):=by
 have hb:=ZrT h1 h6
 have hz:NoZ ((ByteArray.mk #[48,49,50,51,52,53,54,55,56,57]).extract 0 n):=λx hx=>by
  rw[hb]at hx
  obtain⟨i,_,rfl⟩:=List.mem_map.1 hx
  omega
 have hsz:((ByteArray.mk #[48,49,50,51,52,53,54,55,56,57]).extract 0 n).size<=300:=by
  rw[<-Zbx,hb,Zjw];omega
 have hT:=Za2 b s _ r w H O hz hsz
 have hl:=ZqG (s:=s) (r:=r) hb
 rw[hl.2,hl.1]at hT
 have hT:Calls prog 137 #[.pointer (some ⟨b,0,none⟩),.string ((ByteArray.mk #[48,49,50,51,52,53,54,55,56,57]).extract 0 n)] w λe w'=>e=.returned (.int .i64 (dig s r 0 ((n:Int)-1)))∧Zi w w' b (digR s r 0 ((n:Int)-1)):=hT
 generalize dig s r 0 ((n:Int)-1)=d at *
 generalize digR s r 0 ((n:Int)-1)=r2 at *
 replace hT:=Z_ hT
 have hni:(n:Int)<=10:=by omega
 have hn10:n<=10:=by omega
 clear hb hz hsz hl H O h1 h6
 go_enter func139,ntmps139
 go_wp2_with fail
 refine hT.out.mono ?_
 rintro e w1 ⟨rfl,T⟩
 go_wp2
 go_ret
 exact⟨rfl,T⟩
theorem ZrU(h:∀x∈l,0<=x∧x<=255):bl (bs l)=l:=by
 apply List.ext_getElem?
 intro i
 by_cases hi:i<l.length
 ·have e:l[i]?=some l[i]:=Qn hi
  obtain⟨h0,h1⟩:=h l[i] (Ua hi)
  rw[Zgs (by rw[Zc];exact hi),ZfR e h0 h1,e]
 ·rw[Uh (by rw[Zbx,Zc];omega),Uh (by omega)]
theorem Lets.bl(h:Lets ls):bl (bs ls)=ls:=ZrU λx hx=>by have:=h.2 x hx;omega
theorem Lets.noz(h:Lets ls):NoZ (bs ls):=λx hx=>by rw[h.bl]at hx;have:=h.2 x hx;omega
theorem Zhk:bl ⟨#[97,98,99,100,101,102,103,104]⟩=[97,98,99,100,101,102,103,104]:=by decide
theorem Zjx(s:ZB)(r:Rd):Zd0 s ⟨#[97,98,99,100,101,102,103,104]⟩ r=isL (tok s r):=by
 unfold Zd0
 rw[Zhk]
 generalize tok s r=t
 by_cases h:97<=t∧t<=104
 ·have hc:t=97∨t=98∨t=99∨t=100∨t=101∨t=102∨t=103∨t=104:=by omega
  rcases hc with rfl|rfl|rfl|rfl|rfl|rfl|rfl|rfl<;>decide
 ·have h2:isL t=false:=Qx h
  rw[h2]
  refine(ZeE (ZbF λj hj e=>?_)).2
  have:=Qw e
  simp at this
  omega
theorem Zpw(h:Lets ls):Zd0 s (bs ls) r=ZaW s r ls∧fnI (tok s r) (bl (bs ls))=varI s r ls:=by
 unfold Zd0 varI
 rw[h.bl]
 by_cases hf:fnd (tok s r) ls<ls.length
 ·have h1:=h.2 _ (Qw (Zf9 hf))
  have h2:isL (tok s r)=true:=Qv h1
  have h3:ZaW s r ls=true:=by unfold ZaW;rw[h2];simpa using hf
  rw[h3]
  exact⟨Qv hf,by unfold fnI;rw[if_pos hf];rfl⟩
 ·have h3:ZaW s r ls=false:=by unfold ZaW;simp[hf]
  rw[h3]
  exact⟨Qx hf,by unfold fnI;rw[if_neg hf];rfl⟩
theorem Zq6:NoZ ⟨#[97,98,99,100,101,102,103,104]⟩:=λx hx=>by rw[Zhk]at hx;simp at hx;omega
theorem Zsf:NoZ ⟨#[]⟩:=λx hx=>by simp[bl]at hx
theorem ZdU(b sb:Nat)(s:ZB)(r:Rd)(ls:List Int)(w:World)(H:Zct w b s r)(O:ZbV s r)(c3:w.cell? ⟨b,3,none⟩=some (.pointer (some ⟨sb,0,none⟩)))(hne:sb≠b)(cL:w.cell? ⟨sb,2,none⟩=some (.string (bs ls)))(hl:Lets ls) :
  Calls prog 195 #[.pointer (some ⟨b,0,none⟩)] w λe w'=>e=.returned (.int .i64 (varI s r ls:Nat))∧Zi w w' b (varR s r ls):=by
 have hv:=Zpw (s:=s) (r:=r) hl
 have hsz:(bs ls).size<=300:=by rw[Zc];have:=hl.1;omega
 have hS:=Zay b s (bs ls) r w H O hl.noz hsz
 rw[hv.1]at hS
 replace hS:=Z_ hS
 have key:Kp (∀w1,Zi w w1 b (adv s r)->Zct w1 b s (adv s r)∧w1.cell? ⟨b,3,none⟩=some (.pointer (some ⟨sb,0,none⟩))∧w1.cell? ⟨sb,2,none⟩=some (.string (bs ls))):=⟨λw1 T=>⟨H.to T,(T.cell 3 (by omega) (by omega)).trans c3,by rw[Qo (w:=w) (T.block sb hne)];exact cL⟩⟩
 have hZ:Kp (NoZ (bs ls)):=⟨hl.noz⟩
 have hsz':Kp _:=⟨hsz⟩
 have O1:Kp (ZbV s (adv s r)):=⟨O.adv⟩
 have hvR:Kp _:=⟨hv⟩
 clear hv hsz
 obtain⟨V,hV⟩:∃V,bs ls=V:=⟨_,rfl⟩
 rw[hV]at cL hS key hZ hsz' hvR
 clear hV
 go_enter func195,ntmps195
 go_wp2_with fail
 refine hS.out.mono ?_
 rintro e w1 ⟨rfl,T1⟩
 obtain⟨H1,c31,cL1⟩:=key.out w1 T1
 have hS2:=Zay b s ⟨#[97,98,99,100,101,102,103,104]⟩ (adv s r) w1 H1 O1.out Zq6 (by decide)
 rw[Zjx,Zp,ZY]at hS2
 replace hS2:=Z_ hS2
 replace T1:=Z_ T1
 clear H1 hS c3 cL
 by_cases ho:ZaW s r ls=true
 ·rw[ho]
  go_wp2_with fail
  refine hS2.out.mono ?_
  rintro e w2 ⟨rfl,T2⟩
  have T12:=T1.out.trans T2
  obtain⟨H2,c32,cL2⟩:=key.out w2 T12
  have hT:=Za2 b s V (adv s r) w2 H2 O1.out hZ.out hsz'.out
  have e1:Zd0 s V (adv s r)=ZaW s r ls:=by unfold Zd0;rw[Zp];exact hvR.out.1
  rw[e1,Zp,hvR.out.2,ho,ZeP]at hT
  have e2:varR s r ls=Zbn s r true 11:=by unfold varR;rw[ho];rfl
  replace e2:=Z_ e2
  replace hT:=Z_ hT
  replace T12:=Z_ T12
  clear H2 T2 c31 cL1 e1 hvR
  generalize isL (tok s r)=il at *
  go_wp2_with fail
  refine hT.out.mono ?_
  rintro e w3 ⟨rfl,T3⟩
  go_wp2
  go_ret
  exact⟨rfl,by rw[e2.out];exact T12.out.trans T3⟩
 ·have ho:ZaW s r ls=false:=by simpa using ho
  rw[ho]
  have e0:varI s r ls=0:=by unfold varI;rw[ho];rfl
  replace e0:=Z_ e0
  cases hi:isL (tok s r) with
  | true=>
   rw[hi]at hS2
   have he:r.er=0:=(Z5 (s:=s) (r:=r) (by have:=QB hi;omega)).1
   have e2:varR s r ls=⟨(adv s r).a,12⟩:=by
    unfold varR Zbn
    rw[ho,hi,if_neg (by simp),if_pos rfl]
    unfold rfs
    rw[if_pos (by rw[Zk];exact he)]
   replace e2:=Z_ e2
   go_wp2_with fail
   refine hS2.out.mono ?_
   rintro e w2 ⟨rfl,T2⟩
   have T12:=T1.out.trans T2
   obtain⟨H2,c32,cL2⟩:=key.out w2 T12
   have c2:=H2.c2
   have f2:=H2.f2
   have hlt:=H2.lt
   have T3:=Zi.setE H2 12
   clear T2 c31 cL1 c32 cL2
   replace H2:=Z_ H2
   replace T3:=Z_ T3
   replace T12:=Z_ T12
   go_wp2
   go_ret
   exact⟨by rw[e0.out];rfl,by rw[e2.out];exact T12.out.trans T3.out⟩
  | false=>
   rw[hi]at hS2
   have e2:varR s r ls=Zbn s r false 11:=by unfold varR;rw[ho,hi];rfl
   replace e2:=Z_ e2
   go_wp2_with fail
   refine hS2.out.mono ?_
   rintro e w2 ⟨rfl,T2⟩
   have T12:=T1.out.trans T2
   obtain⟨H2,c32,cL2⟩:=key.out w2 T12
   have hT:=Za2 b s ⟨#[]⟩ (adv s r) w2 H2 O1.out Zsf (by decide)
   have e1:Zd0 s ⟨#[]⟩ (adv s r)=false:=rfl
   have e3:fnI (tok s (adv s r)) (bl ⟨#[]⟩)=0:=rfl
   rw[e1,e3,ZeP]at hT
   replace hT:=Z_ hT
   replace T12:=Z_ T12
   clear H2 T2 c31 cL1 e1 e3 c32 cL2
   go_wp2_with fail
   refine hT.out.mono ?_
   rintro e w3 ⟨rfl,T3⟩
   go_wp2
   go_ret
   exact⟨by rw[e0.out];rfl,by rw[e2.out];exact T12.out.trans T3⟩
def exV(x:Ex):List Value:=[.int .i64 x.op,.int .i64 x.v,.int .i64 x.l,.int .i64 x.r]
def smV(x:Sm×(Value×Value)):List Value:=[.int .u8 x.1.k,.int .i64 x.1.a,.int .i64 x.1.v,.int .i64 x.1.e,x.2.1,x.2.2,.bool x.1.two]
def itV(l:List Nat):List Value:=l.map λn=>Value.int .i64 (n:Nat)
def pT(j:Nat):TypeId:=if j=0 then 121 else 123
def pZ(j:Nat):Nat:=if j=0 then 4 else 7
def pN(p:Rs)(j:Nat):Nat:=if j=0 then p.ex.length else p.sm.length
def pV(p:Rs)(sv:List (Value×Value))(j:Nat):List Value:=if j=0 then p.ex.flatMap exV else (List.zip p.sm sv).flatMap smV
def ZaB(w:World)(B:Nat)(S:Nat->Value)(v:Value)(l:List Nat):Prop:=w.ownsRow B 3 1 v l.length (itV l)∧∀k,v.ownBlock=some k->∀j,j<2->(S j).ownBlock≠some k
structure Zx(w:World)(rb sb B:Nat)(s:ZB)(p:Rs)(tb:ZB)(tp:Value)(S:Nat->Value)(sv:List (Value×Value)):Prop where
 rd:Zct w rb s p.r
 c3:w.cell? ⟨rb,3,none⟩=some (.pointer (some ⟨sb,0,none⟩))
 lt:sb<w.heap.size
 ne:sb≠rb
 b0:rb<B
 b1:sb<B
 cn:w.cell? ⟨sb,0,none⟩=some (.int .i64 p.n)
 ct:w.cell? ⟨sb,1,none⟩=some (.string tb)
 cl:w.cell? ⟨sb,2,none⟩=some (.string (bs p.ls))
 cv:w.cell? ⟨sb,3,none⟩=some (.string (bs p.vs))
 c:∀j:Nat,j<2->w.cell? ⟨sb,4+j,none⟩=some (S j)
 cp:w.cell? ⟨sb,6,none⟩=some tp
 f:∀j:Nat,j<7->w.frozen? ⟨sb,j,none⟩=false
 o:∀j:Nat,j<2->w.ownsRow B (pT j) (pZ j) (S j) (pN p j) (pV p sv j)
 d:∀i j:Nat,i<2->j<2->i≠j->(S i).ownBlock=none∨(S i).ownBlock≠(S j).ownBlock
 k:sv.length=p.sm.length
 i:∀(i:Nat) (x:Sm) (y:Value×Value),p.sm[i]?=some x->sv[i]?=some y->ZaB w B S y.1 x.bo∧ZaB w B S y.2 x.el
 hB:B<=w.heap.size
structure ZW(rb sb:Nat)(S S':Nat->Value)(w w':World):Prop where
 os:w'.os=w.os
 tape:w'.tape=w.tape
 output:w'.output=w.output
 size:w.heap.size<=w'.heap.size
 block:∀k,k<w.heap.size->k≠rb->k≠sb->(∀j,j<2->(S j).ownBlock≠some k)->w'.heap[k]?=w.heap[k]?
 rows:∀j,j<2->(S' j).ownBlock=(S j).ownBlock∨∀k,(S' j).ownBlock=some k->w.heap.size<=k
theorem ZW.trans{S'':Nat->Value}{x y z:World}(h:ZW rb sb S S' x y)(k:ZW rb sb S' S'' y z):ZW rb sb S S'' x z:=by
 refine⟨k.os.trans h.os,k.tape.trans h.tape,k.output.trans h.output,Qg h.size k.size,λi hi h1 h2 h3=>?_,λj hj=>?_⟩
 ·rw[k.block i (Qq hi h.size) h1 h2 ?_,h.block i hi h1 h2 h3]
  intro j hj e
  rcases h.rows j hj with c|c
  ·exact h3 j hj (by rw[<-c];exact e)
  ·have:=c i e;omega
 ·rcases k.rows j hj with c|c
  ·rcases h.rows j hj with c2|c2
   ·exact .inl (c.trans c2)
   ·exact .inr λi e=>c2 i (by rw[<-c];exact e)
  ·exact .inr λi e=>Qg h.size (c i e)
theorem ZW.below(h:Below w.heap.size w w'):ZW rb sb S S w w':=⟨h.os,h.tape,h.output,h.size,λk hk _ _ _=>h.block k hk,λ_ _=>.inl rfl⟩
theorem ZW.rd(h:Zi w w' rb r):ZW rb sb S S w w':=⟨h.os,h.tape,h.output,by rw[h.size];exact Qb _,λk _ hb _ _=>h.block k hb,λ_ _=>.inl rfl⟩
theorem ZaB.to{l:List Nat}(h:ZaB w B S v l)(T:ZW rb sb S S' w w')(h0:rb<B)(h1:sb<B):ZaB w' B S' v l:=by
 refine⟨ZJ h.1 λk hk=>?_,λk hk j hj e=>?_⟩
 ·have:=h.1.lt k hk
  exact T.block k this.2 (by omega) (by omega) (h.2 k hk)
 ·have:=h.1.lt k hk
  rcases T.rows j hj with c|c
  ·exact h.2 k hk j hj (by rw[<-c];exact e)
  ·have:=c k e;omega
theorem ZaB.nil(w:World)(B:Nat)(S:Nat->Value):ZaB w B S (.slice none 0 0) []:=⟨⟨rfl,.inl ⟨rfl,rfl⟩⟩,λk hk=>by cases hk⟩
theorem Zx.to(H:Zx w rb sb B s p tb tp S sv)(T:ZW rb sb S S' w w')(i:Nat)(x:Sm)(y:Value×Value)(hx:p.sm[i]?=some x)(hy:sv[i]?=some y):ZaB w' B S' y.1 x.bo∧ZaB w' B S' y.2 x.el:=
 ⟨(H.i i x y hx hy).1.to T H.b0 H.b1,(H.i i x y hx hy).2.to T H.b0 H.b1⟩
theorem Zx.rdto(H:Zx w rb sb B s p tb tp S sv)(h:Zi w w' rb r):Zx w' rb sb B s {p with r:=r} tb tp S sv:=by
 have key:∀k:Nat,w'.cell? ⟨sb,k,none⟩=w.cell? ⟨sb,k,none⟩:=λk=>Qo (w:=w) (a:=⟨sb,k,none⟩) (h.block sb H.ne)
 exact⟨H.rd.to h,(h.cell 3 (by omega) (by omega)).trans H.c3,by rw[h.size];exact H.lt,H.ne,H.b0,H.b1,(key _).trans H.cn,(key _).trans H.ct,(key _).trans H.cl,(key _).trans H.cv,λj hj=>(key _).trans (H.c j hj),(key _).trans H.cp,λj hj=>by rw[Qz (w:=w) (a:=⟨sb,j,none⟩) (h.block sb H.ne)];exact H.f j hj,λj hj=>ZJ (H.o j hj) λg hg=>h.block g (by have:=((H.o j hj).lt g hg).1;have:=H.b0;omega),H.d,H.k,H.to (ZW.rd h),by rw[h.size];exact H.hB⟩
theorem Zx.step(H:Zx w rb sb B s p tb tp S sv)(h:Below w.heap.size w w'):Zx w' rb sb B s p tb tp S sv:=by
 have key:∀k:Nat,w'.cell? ⟨sb,k,none⟩=w.cell? ⟨sb,k,none⟩:=λk=>h.cell (p:=⟨sb,k,none⟩) H.lt
 have keyr:∀k:Nat,w'.cell? ⟨rb,k,none⟩=w.cell? ⟨rb,k,none⟩:=λk=>h.cell (p:=⟨rb,k,none⟩) H.rd.lt
 exact⟨⟨Qq H.rd.lt h.size,(keyr _).trans H.rd.c0,(keyr _).trans H.rd.c1,(keyr _).trans H.rd.c2,by rw[h.frozen (p:=⟨rb,1,none⟩) H.rd.lt];exact H.rd.f1,by rw[h.frozen (p:=⟨rb,2,none⟩) H.rd.lt];exact H.rd.f2⟩,(keyr _).trans H.c3,Qq H.lt h.size,H.ne,H.b0,H.b1,(key _).trans H.cn,(key _).trans H.ct,(key _).trans H.cl,(key _).trans H.cv,λj hj=>(key _).trans (H.c j hj),(key _).trans H.cp,λj hj=>by rw[h.frozen (p:=⟨sb,j,none⟩) H.lt];exact H.f j hj,λj hj=>Zq (H.o j hj) h,H.d,H.k,H.to (ZW.below h),Qg H.hB h.size⟩
theorem Zx.setC{p':Rs}{tb':ZB}{tp':Value}{x:Value}(H:Zx w rb sb B s p tb tp S sv)(hk:k≠4∧k≠5)
  (hr:p'.r=p.r) (he:p'.ex=p.ex) (hm:p'.sm=p.sm) (h0:(w.setCell ⟨sb,k,none⟩ x).cell? ⟨sb,0,none⟩=some (.int .i64 p'.n)) (h1:(w.setCell ⟨sb,k,none⟩ x).cell? ⟨sb,1,none⟩=some (.string tb')) (h2:(w.setCell ⟨sb,k,none⟩ x).cell? ⟨sb,2,none⟩=some (.string (bs p'.ls))) (h3:(w.setCell ⟨sb,k,none⟩ x).cell? ⟨sb,3,none⟩=some (.string (bs p'.vs))) (h6:(w.setCell ⟨sb,k,none⟩ x).cell? ⟨sb,6,none⟩=some tp') :
  Zx (w.setCell ⟨sb,k,none⟩ x) rb sb B s p' tb' tp' S sv∧ZW rb sb S S w (w.setCell ⟨sb,k,none⟩ x):=by
 have hb:∀g,g≠sb->(w.setCell ⟨sb,k,none⟩ x).heap[g]?=w.heap[g]?:=λg hg=>QH w ⟨sb,k,none⟩ x g hg
 have keyr:∀i:Nat,(w.setCell ⟨sb,k,none⟩ x).cell? ⟨rb,i,none⟩=w.cell? ⟨rb,i,none⟩:=λi=>Qo (w:=w) (a:=⟨rb,i,none⟩) (hb rb (λe=>H.ne e.symm))
 have T:ZW rb sb S S w (w.setCell ⟨sb,k,none⟩ x):=⟨rfl,rfl,rfl,by simp,λi _ _ h1 _=>hb i h1,λ_ _=>.inl rfl⟩
 have eN:∀j,pN p' j=pN p j:=λj=>by unfold pN;rw[he,hm]
 have eV:∀j,pV p' sv j=pV p sv j:=λj=>by unfold pV;rw[he,hm]
 refine⟨⟨?_,(keyr _).trans H.c3,by simpa using H.lt,H.ne,H.b0,H.b1,h0,h1,h2,h3,λj hj=>(coff _ _ _ _ _ (by omega)).trans (H.c j hj),h6,λj hj=>by rw[World.frozen?_setCell];exact H.f j hj,λj hj=>?_,H.d,by rw[hm];exact H.k,by rw[hm];exact H.to T,by simpa using H.hB⟩,T⟩
 ·rw[hr]
  exact⟨by simpa using H.rd.lt,(keyr _).trans H.rd.c0,(keyr _).trans H.rd.c1,(keyr _).trans H.rd.c2,by rw[World.frozen?_setCell];exact H.rd.f1,by rw[World.frozen?_setCell];exact H.rd.f2⟩
 ·rw[eN,eV]
  exact ZJ (H.o j hj) λg hg=>hb g (by have:=((H.o j hj).lt g hg).1;have:=H.b1;omega)
theorem Zx.told{wa w3:World}{l:Nat}{p':Rs}{sv':List (Value×Value)}{v':Value}(H:Zx w rb sb B s p tb tp S sv)(hl:l<2)(ha:Below w.heap.size w wa)(hg:wa.grownBy w3 (S l).ownBlock)(hown:w3.ownsRow B (pT l) (pZ l) v' (pN p' l) (pV p' sv' l))(hat:v'.ownBlock=(S l).ownBlock∨v'.ownBlock=some wa.heap.size)
  (h0:p'.r=p.r) (hn:p'.n=p.n) (hls:p'.ls=p.ls) (hvs:p'.vs=p.vs) (hN:∀j,j<2->j≠l->pN p' j=pN p j) (hV:∀j,j<2->j≠l->pV p' sv' j=pV p sv j) (hk:sv'.length=p'.sm.length)
  (hi:∀(i:Nat) (x:Sm) (y:Value×Value),p'.sm[i]?=some x->sv'[i]?=some y->ZaB w B S y.1 x.bo∧ZaB w B S y.2 x.el) :
  Zx (w3.setCell ⟨sb,4+l,none⟩ v') rb sb B s p' tb tp (λj=>if j=l then v' else S j) sv'∧ZW rb sb S (λj=>if j=l then v' else S j) w (w3.setCell ⟨sb,4+l,none⟩ v'):=by
 have hsz:=ha.size
 have hlt:=H.lt
 have hltr:=H.rd.lt
 have hb0:=H.b0
 have hb1:=H.b1
 have hne:some sb≠(S l).ownBlock:=λe=>by have:=((H.o l hl).lt _ e.symm).1;omega
 have hner:some rb≠(S l).ownBlock:=λe=>by have:=((H.o l hl).lt _ e.symm).1;omega
 have blk:w3.heap[sb]?=w.heap[sb]?:=by rw[hg.block sb (by omega) hne,ha.block sb hlt]
 have blkr:w3.heap[rb]?=w.heap[rb]?:=by rw[hg.block rb (by omega) hner,ha.block rb hltr]
 have key0:∀k:Nat,w3.cell? ⟨sb,k,none⟩=w.cell? ⟨sb,k,none⟩:=λk=>Qo (w:=w) (a:=⟨sb,k,none⟩) blk
 have key:∀k:Nat,k≠4+l->(w3.setCell ⟨sb,4+l,none⟩ v').cell? ⟨sb,k,none⟩=w.cell? ⟨sb,k,none⟩:=λk hk=>(coff _ _ _ _ _ (by omega)).trans (key0 k)
 have hsb:∀g,g≠sb->(w3.setCell ⟨sb,4+l,none⟩ v').heap[g]?=w3.heap[g]?:=λg hg=>QH w3 ⟨sb,4+l,none⟩ v' g hg
 have blkr2:(w3.setCell ⟨sb,4+l,none⟩ v').heap[rb]?=w.heap[rb]?:=(hsb rb (λe=>H.ne e.symm)).trans blkr
 have keyr:∀k:Nat,(w3.setCell ⟨sb,4+l,none⟩ v').cell? ⟨rb,k,none⟩=w.cell? ⟨rb,k,none⟩:=λk=>Qo (w:=w) (a:=⟨rb,k,none⟩) blkr2
 have keyf:∀k:Nat,(w3.setCell ⟨sb,4+l,none⟩ v').frozen? ⟨rb,k,none⟩=w.frozen? ⟨rb,k,none⟩:=λk=>Qz (w:=w) (a:=⟨rb,k,none⟩) blkr2
 have old:∀k:Nat,k<2->(S k).ownBlock≠some wa.heap.size:=λk hk e=>by have:=(H.o k hk).lt _ e;omega
 have hsz3:w.heap.size<=(w3.setCell ⟨sb,4+l,none⟩ v').heap.size:=by
  have:=hg.size
  simp
  omega
 have T:ZW rb sb S (λj=>if j=l then v' else S j) w (w3.setCell ⟨sb,4+l,none⟩ v'):=by
  refine⟨hg.os.trans ha.os,hg.tape.trans ha.tape,hg.output.trans ha.output,hsz3,λk hk _ h1 h3=>?_,λj hj=>?_⟩
  ·rw[hsb k h1,hg.block k (by omega) (λe=>h3 l hl e.symm),ha.block k hk]
  ·by_cases e:j=l
   ·subst e
    show (if j=j then v' else S j).ownBlock=_∨_
    rw[if_pos rfl]
    rcases hat with hat|hat
    ·exact .inl hat
    ·refine .inr λk hk=>?_
     rw[hat]at hk
     have:=Option.some.inj hk
     omega
   ·show (if j=l then v' else S j).ownBlock=_∨_
    rw[if_neg e]
    exact .inl rfl
 refine⟨⟨?_,(keyr _).trans H.c3,Qq hlt hsz3,H.ne,hb0,hb1,?_,(key _ (by omega)).trans H.ct,?_,?_,λj hj=>?_,(key _ (by omega)).trans H.cp,λj hj=>?_,λj hj=>?_,λi j hi hj hij=>?_,hk,λi x y hx hy=>⟨(hi i x y hx hy).1.to T hb0 hb1,(hi i x y hx hy).2.to T hb0 hb1⟩,Qg H.hB hsz3⟩,T⟩
 ·rw[h0]
  exact⟨Qq hltr hsz3,(keyr _).trans H.rd.c0,(keyr _).trans H.rd.c1,(keyr _).trans H.rd.c2,(keyf _).trans H.rd.f1,(keyf _).trans H.rd.f2⟩
 ·rw[hn];exact(key _ (by omega)).trans H.cn
 ·rw[hls];exact(key _ (by omega)).trans H.cl
 ·rw[hvs];exact(key _ (by omega)).trans H.cv
 ·by_cases e:j=l
  ·subst e
   rw[if_pos rfl]
   exact Qk _ _ _ ((key0 _).trans (H.c j hj))
  ·rw[if_neg e,key _ (by omega)]
   exact H.c j hj
 ·rw[Qu,Qz (w:=w) (a:=⟨sb,j,none⟩) blk]
  exact H.f j hj
 ·by_cases e:j=l
  ·subst e
   rw[if_pos rfl]
   exact ZJ hown λg hg=>hsb g (by have:=(hown.lt g hg).1;omega)
  ·rw[if_neg e,hN j hj e,hV j hj e]
   exact ZJ ((Zq (H.o j hj) ha).kept hg (H.d j l hj hl e)) λg hg=>hsb g (by have:=((H.o j hj).lt g hg).1;omega)
 ·show (if i=l then v' else S i).ownBlock=none∨(if i=l then v' else S i).ownBlock≠(if j=l then v' else S j).ownBlock
  by_cases e:i=l
  ·subst e
   rw[if_pos rfl,if_neg (λk=>hij k.symm)]
   rcases hat with hat|hat
   ·rw[hat];exact H.d i j hi hj hij
   ·rw[hat];exact .inr (λk=>old j hj k.symm)
  ·rw[if_neg e]
   by_cases e2:j=l
   ·subst e2
    rw[if_pos rfl]
    rcases hat with hat|hat
    ·rw[hat];exact H.d i j hi hj hij
    ·rw[hat];exact .inr (old i hi)
   ·rw[if_neg e2];exact H.d i j hi hj hij
def Zhw(sv:List (Value×Value))(k:Nat):Prop:=∃y,y∈sv∧(y.1.ownBlock=some k∨y.2.ownBlock=some k)
def ZbE(w:World)(sv sv':List (Value×Value)):Prop:=∀k,Zhw sv' k->Zhw sv k∨w.heap.size<=k
theorem ZbE.refl(w:World)(sv:List (Value×Value)):ZbE w sv sv:=λ_ h=>.inl h
theorem ZbE.trans{a b c:List (Value×Value)}(h:ZbE w a b)(k:ZbE w' b c)(hs:w.heap.size<=w'.heap.size):ZbE w a c:=λi hi=>by
 rcases k i hi with e|e
 ·exact h i e
 ·exact .inr (by omega)
theorem Zx.fin(H:Zx w rb sb B s p tb tp S sv)(h:Zhw sv k):B<=k∧k<w.heap.size:=by
 obtain⟨y,hy,e⟩:=h
 obtain⟨i,hi,rfl⟩:=List.mem_iff_getElem.1 hy
 have hi2:i<p.sm.length:=by rw[<-H.k];exact hi
 have:=H.i i _ _ (Qn hi2) (Qn hi)
 rcases e with e|e
 ·exact this.1.1.lt k e
 ·exact this.2.1.lt k e
structure Fr(rb sb:Nat)(S:Nat->Value)(sv:List (Value×Value))(g:Nat):Prop where
 r:g≠rb
 s:g≠sb
 o:∀j,j<2->(S j).ownBlock≠some g
 f:¬Zhw sv g
theorem Fr.to{sv':List (Value×Value)}(F:Fr rb sb S sv g)(hg:g<w.heap.size)(T:ZW rb sb S S' w w')(N:ZbE w sv sv'):Fr rb sb S' sv' g:=
 ⟨F.r,F.s,λj hj e=>by
  rcases T.rows j hj with c|c
  ·exact F.o j hj (by rw[<-c];exact e)
  ·have:=c g e;omega,λe=>by
  rcases N g e with c|c
  ·exact F.f c
  ·omega⟩
theorem Fr.same(F:Fr rb sb S sv g)(hg:g<w.heap.size)(T:ZW rb sb S S' w w'):w'.heap[g]?=w.heap[g]?:=T.block g hg F.r F.s F.o
theorem Zx.new(H:Zx w rb sb B s p tb tp S sv)(hg:w.heap.size<=g):Fr rb sb S sv g:=
 ⟨by have:=H.rd.lt;omega,by have:=H.lt;omega,λj hj e=>by have:=((H.o j hj).lt g e).2;omega,λe=>by have:=(H.fin e).2;omega⟩
theorem Zx.grow(H:Zx w rb sb B s p tb tp S sv)(h:w.grownBy w' row)(F:∀g,row=some g->Fr rb sb S sv g):Zx w' rb sb B s p tb tp S sv:=by
 have nr:some rb≠row:=λe=>(F rb e.symm).r rfl
 have ns:some sb≠row:=λe=>(F sb e.symm).s rfl
 have key:∀k:Nat,w'.cell? ⟨sb,k,none⟩=w.cell? ⟨sb,k,none⟩:=λk=>Qo (w:=w) (a:=⟨sb,k,none⟩) (h.block sb H.lt ns)
 have keyr:∀k:Nat,w'.cell? ⟨rb,k,none⟩=w.cell? ⟨rb,k,none⟩:=λk=>Qo (w:=w) (a:=⟨rb,k,none⟩) (h.block rb H.rd.lt nr)
 have keyf:∀k:Nat,w'.frozen? ⟨rb,k,none⟩=w.frozen? ⟨rb,k,none⟩:=λk=>Qz (w:=w) (a:=⟨rb,k,none⟩) (h.block rb H.rd.lt nr)
 refine⟨⟨Qq H.rd.lt h.size,(keyr _).trans H.rd.c0,(keyr _).trans H.rd.c1,(keyr _).trans H.rd.c2,(keyf _).trans H.rd.f1,(keyf _).trans H.rd.f2⟩,(keyr _).trans H.c3,Qq H.lt h.size,H.ne,H.b0,H.b1,(key _).trans H.cn,(key _).trans H.ct,(key _).trans H.cl,(key _).trans H.cv,λj hj=>(key _).trans (H.c j hj),(key _).trans H.cp,λj hj=>by rw[Qz (w:=w) (a:=⟨sb,j,none⟩) (h.block sb H.lt ns)];exact H.f j hj,λj hj=>(H.o j hj).kept h ?_,H.d,H.k,λi x y hx hy=>⟨⟨(H.i i x y hx hy).1.1.kept h ?_,(H.i i x y hx hy).1.2⟩,⟨(H.i i x y hx hy).2.1.kept h ?_,(H.i i x y hx hy).2.2⟩⟩,Qg H.hB h.size⟩
 ·cases e:(S j).ownBlock with
  | none=>exact .inl rfl
  | some k=>exact .inr λc=>(F k c.symm).o j hj e
 ·cases e:y.1.ownBlock with
  | none=>exact .inl rfl
  | some k=>exact .inr λc=>(F k c.symm).f ⟨y,Qw hy,.inl e⟩
 ·cases e:y.2.ownBlock with
  | none=>exact .inl rfl
  | some k=>exact .inr λc=>(F k c.symm).f ⟨y,Qw hy,.inr e⟩
theorem ZW.grow{w1 w2:World}(T:ZW rb sb S S' w w1)(h:w1.grownBy w2 row)(hr:∀g,row=some g->w.heap.size<=g):ZW rb sb S S' w w2:=
 ⟨h.os.trans T.os,h.tape.trans T.tape,h.output.trans T.output,Qg T.size h.size,λk hk h1 h2 h3=>by
  rw[h.block k (Qq hk T.size) (λe=>by have:=hr k e.symm;omega)]
  exact T.block k hk h1 h2 h3,T.rows⟩
theorem ZaB.grow{l:List Nat}(h:ZaB w B S v l)(hg:w.grownBy w' row)(hn:∀g,row=some g->v.ownBlock≠some g):ZaB w' B S v l:=by
 refine⟨h.1.kept hg ?_,h.2⟩
 cases e:v.ownBlock with
 | none=>exact .inl rfl
 | some k=>exact .inr λc=>hn k c.symm e
theorem ZaV(w:World)(g k:Nat)(x:Value):w.grownBy (w.setCell ⟨g,k,none⟩ x) (some g):=⟨rfl,rfl,rfl,by simp,λi _ h=>QH w ⟨g,k,none⟩ x i (λe=>h (by rw[e]))⟩
theorem Zpx{b:Bool}(h1:b=true->tok s r∈bl set)(h0:tok s r∈bl set->b=true):Zd0 s set r=b:=by
 unfold Zd0
 cases hb:b with
 | true=>
  obtain⟨i,hi,e⟩:=List.mem_iff_getElem.1 (h1 hb)
  refine Qv ?_
  have:=Zf8 (tok s r) (bl set)
  by_cases c:fnd (tok s r) (bl set)<(bl set).length
  ·exact c
  ·exact absurd (by rw[Qn hi,e]) (Zb1 (c:=tok s r) (l:=bl set) (j:=i) (by omega))
 | false=>
  refine(ZeE (ZbF λj hj e=>?_)).2
  have:=h0 (Qw e)
  rw[hb]at this
  cases this
theorem ZfH(s:ZB)(r:Rd):Zd0 s ⟨#[48,49,50,51,52,53,54,55,56,57]⟩ r=decide (48<=tok s r∧tok s r<=57):=by
 have hb:bl ⟨#[48,49,50,51,52,53,54,55,56,57]⟩=[48,49,50,51,52,53,54,55,56,57]:=by decide
 refine Zpx (λh=>?_) (λh=>?_)
 ·rw[hb]
  have:=QB h
  simp
  omega
 ·rw[hb]at h
  simp at h
  exact Qv (by omega)
theorem Zsg:NoZ ⟨#[48,49,50,51,52,53,54,55,56,57]⟩:=λx hx=>by
 have hb:bl ⟨#[48,49,50,51,52,53,54,55,56,57]⟩=[48,49,50,51,52,53,54,55,56,57]:=by decide
 rw[hb]at hx;simp at hx;omega
theorem ZqH(s:ZB)(r:Rd):Zd0 s ⟨#[97,98,99,100,101,102,103,104,62,63,64]⟩ r=isS (tok s r):=by
 have hb:bl ⟨#[97,98,99,100,101,102,103,104,62,63,64]⟩=[97,98,99,100,101,102,103,104,62,63,64]:=by decide
 refine Zpx (λh=>?_) (λh=>?_)
 ·rw[hb]
  unfold isS isL at h
  simp at h
  simp
  omega
 ·rw[hb]at h
  unfold isS isL
  simp at h
  simp
  omega
theorem ZsU:NoZ ⟨#[97,98,99,100,101,102,103,104,62,63,64]⟩:=λx hx=>by
 have hb:bl ⟨#[97,98,99,100,101,102,103,104,62,63,64]⟩=[97,98,99,100,101,102,103,104,62,63,64]:=by decide
 rw[hb]at hx;simp at hx;omega
theorem Zpy:bl ⟨#[43,45,42,60,126]⟩=[43,45,42,60,126]:=by decide
theorem ZsR:NoZ ⟨#[43,45,42,60,126]⟩:=λx hx=>by rw[Zpy]at hx;simp at hx;omega
theorem Zjy(s:ZB)(r:Rd):Zd0 s ⟨#[43,45,42,60,126]⟩ r=(opOf (tok s r) != 0)∧(opOf (tok s r)≠0->((fnI (tok s r) (bl ⟨#[43,45,42,60,126]⟩):Nat):Int)=opOf (tok s r)-3):=by
 unfold Zd0
 rw[Zpy]
 generalize tok s r=t
 by_cases h:t=43∨t=45∨t=42∨t=60∨t=126
 ·rcases h with rfl|rfl|rfl|rfl|rfl<;>decide
 ·have e:opOf t=0:=by
   unfold opOf
   rw[if_neg (by omega),if_neg (by omega),if_neg (by omega),if_neg (by omega),if_neg (by omega)]
  rw[e]
  refine⟨(ZeE (ZbF λj hj e=>?_)).2,λk=>absurd rfl k⟩
  have:=Qw e
  simp at this
  omega
theorem Zjz{c:Int}(hb:bl set=[c]):Zd0 s set r=(tok s r==c)∧fnI (tok s r) (bl set)=0:=by
 unfold Zd0
 rw[hb]
 by_cases h:tok s r=c
 ·have e:fnd (tok s r) [c]=0:=ZjT (by rw[h];rfl) λj hj=>by omega
  have hy:=Zew e (by simp)
  exact⟨by rw[hy.2,h];simp,hy.1⟩
 ·have hn:=ZeE (c:=tok s r) (l:=[c]) (ZbF λj hj e=>by
   have:=Qw e
   simp at this
   exact h this)
  exact⟨by rw[hn.2];exact(Qf.2 h).symm,hn.1⟩
theorem ZsS{c:Int}(hb:bl set=[c])(hc:c≠0):NoZ set:=λx hx=>by
 rw[hb]at hx
 have:=QA.1 hx
 omega
theorem Zbw(b:Nat)(s set:ZB)(c:Int)(r:Rd)(w:World)(H:Zct w b s r)(O:ZbV s r)(hb:bl set=[c])(hc:c≠0) :
  Calls prog 138 #[.pointer (some ⟨b,0,none⟩),.string set] w λe w'=>e=.returned (.bool (tok s r==c))∧Zi w w' b (adv s r):=by
 have h:=Zay b s set r w H O (ZsS hb hc) (by rw[<-Zbx,hb];simp)
 rw[(Zjz hb).1]at h
 exact h
theorem ZH(b:Nat)(s set:ZB)(c:Int)(r:Rd)(w:World)(H:Zct w b s r)(O:ZbV s r)(hb:bl set=[c])(hc:c≠0) :
  Calls prog 137 #[.pointer (some ⟨b,0,none⟩),.string set] w λe w'=>e=.returned (.int .i64 0)∧Zi w w' b (tk s r c):=by
 have h:=Za2 b s set r w H O (ZsS hb hc) (by rw[<-Zbx,hb];simp)
 rw[(Zjz hb).1,(Zjz hb).2]at h
 exact h
theorem ZbR(h:i<s.size):(bl s).getD i 0=bv s i:=by rw[Qs,Zgs h];rfl
def Zo2(l:List Int)(k:Nat)(a b:Int)(j:Nat):Prop:=∃i,i<j∧l.getD (2*i) 0=a∧hopF l k (l.getD (2*i+1) 0) b=true
theorem ZoM{a b:Int}(hne:a≠b):hopF l (k+1) a b=true↔Zo2 l k a b (l.length/2):=by
 rw[hopF,QJ,QL,List.any_eq_true]
 constructor
 ·rintro(h|⟨i,hi,h⟩)
  ·exact absurd h hne
  ·rw[Qr,QL]at h
   exact⟨i,Ut.1 hi,h.1,h.2⟩
 ·rintro⟨i,hi,h1,h2⟩
  exact .inr ⟨i,Ut.2 hi,by rw[Qr,QL];exact⟨h1,h2⟩⟩
theorem Zno(P:ZB)(hP:P.size<=100000):∀(k:Nat) (a b:Int) (w:World),k<=100->
  Calls prog 192 #[.string P,.int .i64 a,.int .i64 b,.int .i64 k] w λe w'=>e=.returned (.bool (hopF (bl P) k a b))∧w'=w
 | 0,a,b,w,hk=>by
  by_cases hab:a=b
  ·subst hab
   rw[ZdP]
   go_enter func192,ntmps192
   go_wp2
   go_ret
   exact⟨rfl,rfl⟩
  ·have e1:hopF (bl P) 0 a b=false:=by simp only[hopF];exact Qf.2 hab
   rw[e1]
   have k1:(a==b)=false:=Qf.2 hab
   clear e1 hab
   go_enter func192,ntmps192
   go_wp2
   go_ret
   exact⟨rfl,rfl⟩
 | k+1,a,b,w,hk=>by
  obtain⟨N,hN⟩:∃N,k+1=N:=⟨_,rfl⟩
  have hNk:(N:Int)-1=k:=by omega
  have hN9:(N:Int)<=100:=by omega
  have hN1:1<=(N:Int):=by omega
  have ih:Kp (∀a1 w1,Calls prog 192 #[.string P,.int .i64 a1,.int .i64 b,.int .i64 ((N:Int)-1)] w1 λe w'=>e=.returned (.bool (hopF (bl P) k a1 b))∧w'=w1):=⟨λa1 w1=>by rw[hNk];exact Zno P hP k a1 b w1 (by omega)⟩
  replace hNk:=Z_ hNk
  by_cases hab:a=b
  ·subst hab
   rw[ZdP]
   clear ih
   go_enter func192,ntmps192
   go_wp2
   go_ret
   exact⟨rfl,rfl⟩
  ·have k1:(a==b)=false:=Qf.2 hab
   have hst:=ZoM (l:=bl P) (k:=k) hab
   rw[Zbx]at hst
   obtain⟨res,hres⟩:∃res,hopF (bl P) (k+1) a b=res:=⟨_,rfl⟩
   rw[hres]at hst ⊢
   rw[hN]
   replace hst:=Z_ hst
   have k2:((N:Int)==0)=false:=Qf.2 (by omega)
   clear hab hres hN hk
   go_enter func192,ntmps192
   go_wp2_with fail
   go_loopw [9] (λiv wr=>∃j:Nat,2*j<=P.size∧iv=.int .i64 (2*j:Nat)∧Kp (¬Zo2 (bl P) k a b j)∧Kp (wr=w)) (λiv _=>P.size+2-(intOf iv).toNat)
   case atStart=>exact⟨0,by omega,rfl,⟨λ⟨i,hi,_⟩=>by omega⟩,⟨rfl⟩⟩
   case round=>
    obtain⟨j,hj,rfl,hb,hwr⟩:=hrel
    obtain⟨m,hm⟩:∃m,2*j=m:=⟨_,rfl⟩
    rw[hm]at hj ⊢
    by_cases h1:m+1<P.size
    ·have h1i:(m:Int)+1<(P.size:Int):=by omega
     have h0i:(m:Int)<(P.size:Int):=by omega
     have u0:=ZS P m (by omega)
     have u1:=ZS P (m+1) h1
     have g0:=ZbR (s:=P) (i:=m) (by omega)
     have g1:=ZbR h1
     obtain⟨x0,x9⟩:=Zag P m
     obtain⟨y0,y9⟩:=Zag P (m+1:Nat)
     obtain⟨x,hx⟩:∃x,bv P m=x:=⟨_,rfl⟩
     obtain⟨y,hy⟩:∃y,bv P (m+1:Nat)=y:=⟨_,rfl⟩
     rw[hx]at u0 g0 x0 x9
     rw[hy]at u1 g1 y0 y9
     by_cases hxa:x=a
     ·subst hxa
      have hi:=ih.out y wr
      obtain⟨q,hq⟩:∃q,hopF (bl P) k y b=q:=⟨_,rfl⟩
      rw[hq]at hi
      replace hi:=Z_ hi
      cases q with
      | true=>
       have e1:Kp (res=true):=⟨hst.out.2 ⟨j,by omega,by rw[hm];exact g0,by rw[hm,g1];exact hq⟩⟩
       clear hb hx hy g0 g1 hq ih
       go_wp2_with fail
       refine hi.out.mono ?_
       rintro e w2 ⟨rfl,hw⟩
       subst hw
       go_wp2
       go_ret
       exact⟨by rw[e1.out];rfl,hwr.out⟩
      | false=>
       have hb2:Kp (¬Zo2 (bl P) k x b (j+1)):=⟨λ⟨i,h2,h3,h4⟩=>by
        by_cases e:i=j
        ·rw[e,hm,g1,hq]at h4;simp at h4
        ·exact hb.out ⟨i,by omega,h3,h4⟩⟩
       clear hb hx hy g0 g1 hq ih
       go_wp2_with fail
       refine hi.out.mono ?_
       rintro e w2 ⟨rfl,hw⟩
       subst hw
       go_wp2_with fail
       go_roundw
       case rel=>exact⟨j+1,by omega,by go_num,hb2,hwr⟩
       case measure=>simp[intOf];omega
     ·have k3:(x==a)=false:=Qf.2 hxa
      have hb2:Kp (¬Zo2 (bl P) k a b (j+1)):=⟨λ⟨i,h2,h3,h4⟩=>by
       by_cases e:i=j
       ·rw[e,hm,g0]at h3;exact hxa h3
       ·exact hb.out ⟨i,by omega,h3,h4⟩⟩
      clear hb hx hy g0 g1 hxa ih
      go_wp2_with fail
      go_roundw
      case rel=>exact⟨j+1,by omega,by go_num,hb2,hwr⟩
      case measure=>simp[intOf];omega
    ·have h1i:¬(m:Int)+1<(P.size:Int):=by omega
     have e1:Kp (res=false):=⟨by
      cases res with
      | false=>rfl
      | true=>
       obtain⟨i,h2,h3⟩:=hst.out.1 rfl
       exact absurd ⟨i,by omega,h3⟩ hb.out⟩
     clear hb ih h1
     go_wp2
     go_ret
     exact⟨by rw[e1.out];rfl,hwr.out⟩
theorem Znp(a b:ZB):bl (a++b)=bl a++bl b:=by
 unfold bl
 rw[QU,Array.toList_append,QK]
theorem ZrV{a b:ZB}(h:bl a=bl b):a=b:=by rw[<-ZqS a,<-ZqS b,h]
theorem ZfI(h:m+1<s.size):(s.extract m (m+2)).size=2:=by
 rw[QX]
 omega
theorem ZjA(h:m+1<s.size):bl (s.extract m (m+2))=[bv s m,bv s (m+1:Nat)]:=by
 have hs:=ZfI h
 have key:∀i,i<2->(bl (s.extract m (m+2)))[i]?=some (bv s (m+i:Nat)):=λi hi=>by
  rw[Zgs (by omega)]
  unfold bv
  rw[ZiN s m (m+2) i (by omega) (by omega)]
 have hl:(bl (s.extract m (m+2))).length=2:=by rw[Zbx,hs]
 match hb:bl (s.extract m (m+2)),hl with
 | [x,y],_=>
  have h0:=key 0 (by omega)
  have h1:=key 1 (by omega)
  rw[hb]at h0 h1
  simp at h0 h1
  rw[h0,h1,show ((m+1:Nat):Int)=(m:Int)+1 from by omega]
theorem ZrW(a b:ZB):(a.toList==b.toList)=true↔bl a=bl b:=by
 rw[QL,Ur,Ur]
 constructor
 ·intro h;unfold bl;rw[h]
 ·intro h;rw[ZrV h]
theorem ZqI{S:ZB}{d:Nat}(h2:d+1<S.size)(h1:m+1<P.size):((S.extract d (d+2)).toList==(P.extract m (m+2)).toList)=true↔(bv S d=bv P m∧bv S (d+1:Nat)=bv P (m+1:Nat)):=by
 rw[ZrW,ZjA h2,ZjA h1]
 constructor
 ·intro h
  exact⟨(List.cons.inj h).1,(List.cons.inj (List.cons.inj h).2).1⟩
 ·rintro⟨a,b⟩
  rw[a,b]
structure OnS(P S:ZB)(j:Nat):Prop where
 ev:S.size%2=0
 le:S.size<=2*j
 pr:∀x y,Pr (bl S) x y↔∃i,i<j∧(bl P).getD (2*i) 0=x∧(bl P).getD (2*i+1) 0=y
theorem OnS.zero(P:ZB):OnS P {data:=#[]} 0:=⟨rfl,Nat.le_refl _,λx y=>⟨λ⟨i,hi,_⟩=>by simp[bl]at hi,λ⟨i,hi,_⟩=>by omega⟩⟩
theorem OnS.old{S:ZB}{j:Nat}(h:OnS P S j)(hj:2*j+1<P.size)(hp:Pr (bl S) (bv P (2*j:Nat)) (bv P (2*j+1:Nat))):OnS P S (j+1):=by
 refine⟨h.ev,by have:=h.le;omega,λx y=>?_⟩
 rw[h.pr]
 constructor
 ·rintro⟨i,hi,a,b⟩;exact⟨i,by omega,a,b⟩
 ·rintro⟨i,hi,a,b⟩
  by_cases e:i=j
  ·subst e
   rw[ZbR (by omega)]at a
   rw[ZbR hj]at b
   rw[<-a,<-b]
   exact(h.pr _ _).1 hp
  ·exact⟨i,by omega,a,b⟩
theorem OnS.new{S:ZB}{j:Nat}(h:OnS P S j)(hj:2*j+1<P.size):OnS P (S++P.extract (2*j) (2*j+2)) (j+1):=by
 have hsz:(S++P.extract (2*j) (2*j+2)).size=S.size+2:=by rw[ByteArray.size_append,ZfI hj]
 have hev:=h.ev
 have hle:=h.le
 refine⟨by omega,by omega,λx y=>?_⟩
 rw[Znp,ZjA hj,Zkk (by rw[Zbx];exact hev),h.pr]
 constructor
 ·rintro(⟨i,hi,a,b⟩|⟨a,b⟩)
  ·exact⟨i,by omega,a,b⟩
  ·exact⟨j,by omega,by rw[ZbR (by omega),a],by rw[ZbR hj,b]⟩
 ·rintro⟨i,hi,a,b⟩
  by_cases e:i=j
  ·subst e
   rw[ZbR (by omega)]at a
   rw[ZbR hj]at b
   exact .inr ⟨a.symm,b.symm⟩
  ·exact .inl ⟨i,by omega,a,b⟩
def Zri(S:ZB)(x y:Int)(k:Nat):Prop:=∃i,i<k∧(bl S).getD (2*i) 0=x∧(bl S).getD (2*i+1) 0=y
theorem ZqJ{S:ZB}{x y:Int}(hk:S.size=2*k):Zri S x y k↔Pr (bl S) x y:=by
 constructor
 ·rintro⟨i,hi,a,b⟩;exact⟨i,by rw[Zbx];omega,a,b⟩
 ·rintro⟨i,hi,a,b⟩;rw[Zbx]at hi;exact⟨i,by omega,a,b⟩
theorem Zil{S:ZB}{x y:Int}:Zri S x y (k+1)↔Zri S x y k∨((bl S).getD (2*k) 0=x∧(bl S).getD (2*k+1) 0=y):=by
 constructor
 ·rintro⟨i,hi,a,b⟩
  by_cases e:i=k
  ·subst e;exact .inr ⟨a,b⟩
  ·exact .inl ⟨i,by omega,a,b⟩
 ·rintro(⟨i,hi,a,b⟩|⟨a,b⟩)
  ·exact⟨i,by omega,a,b⟩
  ·exact⟨k,by omega,a,b⟩
theorem ZoN(P:ZB)(w:World)(hP:P.size<=1000)(hev:P.size%2=0) :
  Calls prog 191 #[.string P] w λe w'=>∃S,e=.returned (.string S)∧Kp (OnS P S (P.size/2))∧Below w.heap.size w w':=by
 obtain⟨K,hK⟩:∃K,P.size=2*K:=⟨P.size/2,by omega⟩
 have hPi:(P.size:Int)<=1000:=by omega
 replace hK:=Z_ hK
 go_enter func191,ntmps191
 go_wp2_with fail
 go_loopw [3,4] (λsv iv wr=>∃(j m:Nat) (S:ZB),sv=.string S∧m=2*j∧j<=K∧iv=.int .i64 m∧S.size<=1000∧Kp (OnS P S j)∧Kp (Below w.heap.size w wr)) (λ_ iv _=>P.size+2-(intOf iv).toNat)
 case atStart=>exact⟨0,0,_,rfl,rfl,by omega,rfl,by show 0<=1000;omega,⟨OnS.zero P⟩,⟨Qh _ _⟩⟩
 case round=>
  obtain⟨j,m,S,rfl,hm,hj,rfl,hS,hO,hB⟩:=hrel
  have hmi:(m:Int)<=1000:=by have:=hK.out;omega
  replace hm:=Z_ hm
  have hSi:(S.size:Int)<=1000:=by omega
  by_cases h1:m+1<P.size
  ·have h1i:(m:Int)+1<(P.size:Int):=by omega
   obtain⟨m2,hm2⟩:∃m2,m+2=m2:=⟨_,rfl⟩
   have hm2i:(m:Int)+2=m2:=by omega
   have kab:=i64w (x:=(m:Int)+2) (by omega) (by omega)
   rw[hm2i]at kab
   replace kab:=Z_ kab
   have hm2s:m2<=P.size:=by omega
   have hmm2:m<=m2:=by omega
   have hm2si:(m2:Int)<=(P.size:Int):=by omega
   have hYs:(P.extract m m2).size=2:=by rw[<-hm2];exact ZfI h1
   replace hm2:=Z_ hm2
   replace hm2i:=Z_ hm2i
   obtain⟨Y,hY⟩:∃Y,P.extract m m2=Y:=⟨_,rfl⟩
   rw[hY]at hYs
   obtain⟨k,hk⟩:∃k,S.size=2*k:=⟨S.size/2,by have:=hO.out.ev;omega⟩
   replace hk:=Z_ hk
   obtain⟨wq,hwq⟩:∃x,x=wr:=⟨_,rfl⟩
   have hB0:Kp (Below w.heap.size w wr):=hB
   go_wp2_with fail
   go_loopw [5,6] (λnv cv wr=>∃(c d:Nat) (q:Bool),nv=.bool q∧d=2*c∧c<=k∧cv=.int .i64 d∧Kp (q=true↔Zri S (bv P m) (bv P (m+1:Nat)) c)∧Kp (Below w.heap.size w wr)) (λ_ cv _=>S.size+2-(intOf cv).toNat)
   case atStart=>exact⟨0,0,false,rfl,rfl,by omega,rfl,⟨⟨λh=>by simp at h,λ⟨i,hi,_⟩=>by omega⟩⟩,hB0⟩
   case round=>
    clear hB hB0 hwq
    obtain⟨c,d,q,rfl,hd,hc,rfl,hq,hB⟩:=hrel
    have hdi:(d:Int)<=1000:=by have:=hk.out;omega
    replace hd:=Z_ hd
    by_cases h2:d+1<S.size
    ·have h2i:(d:Int)+1<(S.size:Int):=by omega
     have hck1:c+1<=k:=by have:=hd.out;have:=hk.out;omega
     have g0:(bl S).getD (2*c) 0=bv S d:=by rw[<-hd.out];exact ZbR (by omega)
     have g1:(bl S).getD (2*c+1) 0=bv S (d+1:Nat):=by rw[<-hd.out];exact ZbR h2
     cases q with
     | true=>
      have hq2:Kp (true=true↔Zri S (bv P m) (bv P (m+1:Nat)) (c+1)):=⟨⟨λ_=>Zil.2 (.inl (hq.out.1 rfl)),λ_=>rfl⟩⟩
      clear hq g0 g1
      go_wp2_with fail
      go_quiet (fail)
      go_wp2_with fail
      go_roundw
      case rel=>exact⟨c+1,d+2,true,rfl,by have:=hd.out;omega,hck1,by go_num,⟨by simpa using hq2.out⟩,⟨below_drewN hB.out _⟩⟩
      case measure=>simp[intOf];omega
     | false=>
      obtain⟨d2,hd2⟩:∃d2,d+2=d2:=⟨_,rfl⟩
      have hd2i:(d:Int)+2=d2:=by omega
      have lab:=i64w (x:=(d:Int)+2) (by omega) (by omega)
      rw[hd2i]at lab
      replace lab:=Z_ lab
      have hd2s:d2<=S.size:=by omega
      have hdd2:d<=d2:=by omega
      have hd2si:(d2:Int)<=(S.size:Int):=by omega
      replace hd2:=Z_ hd2
      replace hd2i:=Z_ hd2i
      have hzq:=ZqI h2 h1
      rw[hd2.out,hm2.out,hY]at hzq
      obtain⟨X,hX⟩:∃X,S.extract d d2=X:=⟨_,rfl⟩
      rw[hX]at hzq
      obtain⟨z,hz⟩:∃z,(X.toList==Y.toList)=z:=⟨_,rfl⟩
      rw[hz]at hzq
      have hq2:Kp (z=true↔Zri S (bv P m) (bv P (m+1:Nat)) (c+1)):=⟨by
       rw[Zil,hzq,g0,g1]
       constructor
       ·exact λh=>.inr h
       ·rintro(h|h)
        ·have:=hq.out.2 h;simp at this
        ·exact h⟩
      clear hq g0 g1 hzq
      obtain⟨ka,kb⟩:=kab.out
      obtain⟨la,lb⟩:=lab.out
      go_wp2_with fail
      go_quiet (fail)
      clear ka kb la lb
      go_wp2_with fail
      go_roundw
      case rel=>exact⟨c+1,d+2,z,by rw[hd2.out,hm2.out,hX,hY,hz],by have:=hd.out;omega,hck1,by go_num,⟨by simpa using hq2.out⟩,⟨below_drewN hB.out _⟩⟩
      case measure=>simp[intOf];omega
    ·have h2i:¬(d:Int)+1<(S.size:Int):=by omega
     have hck:c=k:=by have:=hd.out;have:=hk.out;omega
     rw[hck]at hq
     cases q with
     | true=>
      have hO2:Kp (OnS P S (j+1)):=⟨by
       have h:=(ZqJ hk.out).1 (hq.out.1 rfl)
       rw[hm.out]at h h1
       exact hO.out.old h1 h⟩
      clear hq h2
      go_wp2_with fail
      go_roundw
      case rel=>exact⟨j+1,m+2,S,rfl,by have:=hm.out;omega,by have:=hm.out;have:=hK.out;omega,by go_num,hS,hO2,hB⟩
      case measure=>simp[intOf];omega
     | false=>
      have hO2:Kp (OnS P (S++Y) (j+1)):=⟨by
       rw[<-hY,<-hm2.out]
       have hm3:=hm.out
       subst hm3
       exact hO.out.new h1⟩
      have hS2:(S++Y).size<=1000:=by rw[ByteArray.size_append,hYs];have:=hO.out.le;have:=hm.out;omega
      have s1:¬(9223372036854775807:Int)<(S.size:Int)+(Y.size:Int):=by omega
      have s2:¬(9223372036854775807:Int)<((S.size+Y.size:Nat):Int):=by omega
      clear hq h2
      obtain⟨ka,kb⟩:=kab.out
      go_wp2_with fail
      clear ka kb
      go_roundw
      case rel=>exact⟨j+1,m+2,S++Y,by rw[hm2.out,hY],by have:=hm.out;omega,by have:=hm.out;have:=hK.out;omega,by go_num,hS2,hO2,hB⟩
      case measure=>simp[intOf];omega
  ·have h1i:¬(m:Int)+1<(P.size:Int):=by omega
   have hjK:Kp (OnS P S (P.size/2)):=⟨by rw[show P.size/2=j from by have:=hm.out;have:=hK.out;omega];exact hO.out⟩
   clear h1 hO
   go_wp2_with fail
   refine bodyPost_ret (v:=.string S) (by simp[results,Tryz.results191,go_sem]) rfl ⟨S,rfl,hjK,hB.out⟩
theorem Zhl{l':List Int}(h:∀x y,Pr l x y↔Pr l' x y):∀(k:Nat) (a b:Int),hopF l k a b=hopF l' k a b
 | 0,a,b=>rfl
 | k+1,a,b=>by
  rw[QM,Zc1,Zc1]
  constructor
  ·rintro(e|⟨c,hc,h1⟩)
   ·exact .inl e
   ·exact .inr ⟨c,(h _ _).1 hc,by rw[<-Zhl h k];exact h1⟩
  ·rintro(e|⟨c,hc,h1⟩)
   ·exact .inl e
   ·exact .inr ⟨c,(h _ _).2 hc,by rw[Zhl h k];exact h1⟩
theorem OnS.all{S:ZB}(h:OnS P S (P.size/2))(x y:Int):Pr (bl S) x y↔Pr (bl P) x y:=by
 rw[h.pr]
 constructor
 ·rintro⟨i,hi,a,b⟩;exact⟨i,by rw[Zbx];omega,a,b⟩
 ·rintro⟨i,hi,a,b⟩;rw[Zbx]at hi;exact⟨i,by omega,a,b⟩
theorem Zlv(P:ZB)(n:Nat)(w:World)(hP:P.size<=1000)(hev:P.size%2=0)(h1:1<=n)(h6:n<=6) :
  Calls prog 140 #[.string P,.int .i64 n] w λe w'=>e=.returned (.string (bs (cells (λi j=>hopF (bl P) (n-1) i j) n)))∧Below w.heap.size w w':=by
 have hO:=ZoN P w hP hev
 obtain⟨f,hf⟩:∃f:Nat->Nat->Bool,(λi j:Nat=>hopF (bl P) (n-1) i j)=f:=⟨_,rfl⟩
 rw[hf]
 replace hO:=Z_ hO
 replace hf:=Z_ hf
 have hni:(n:Int)<=6:=by omega
 have hn1:1<=(n:Int):=by omega
 go_enter func140,ntmps140
 go_wp2_with fail
 refine hO.out.mono ?_
 rintro e w1 ⟨S,rfl,hS,b1⟩
 have hh:Kp (∀(a b:Nat) W,Calls prog 192 #[.string S,.int .i64 a,.int .i64 b,.int .i64 ((n:Int)-1)] W λe w'=>e=.returned (.bool (f a b))∧w'=W):=⟨λa b W=>by
  have:=Zno S (by have:=hS.out.le;omega) (n-1) a b W (by omega)
  rw[Zhl hS.out.all,show ((n-1:Nat):Int)=(n:Int)-1 from by omega]at this
  rw[<-hf.out]
  exact this⟩
 replace b1:=Z_ b1
 clear hS hO hf
 go_wp2_with fail
 go_loopw [6,7] (λtv av wr=>∃a:Nat,a<=n∧tv=.string (bs (Z6 f n (a*n)))∧av=.int .i64 a∧Kp (wr=w1)) (λ_ av _=>n-(intOf av).toNat)
 case atStart=>exact⟨0,by omega,by rw[Nat.zero_mul];rfl,rfl,⟨rfl⟩⟩
 case round=>
  obtain⟨a,ha,rfl,rfl,hwr⟩:=hrel
  by_cases han:a<n
  ·have hai:(a:Int)<(n:Int):=by omega
   obtain⟨V0,hV0⟩:∃V,bs (Z6 f n (a*n))=V:=⟨_,rfl⟩
   rw[hV0]
   replace hV0:=Z_ hV0
   obtain⟨wq,hwq⟩:∃x,x=wr:=⟨_,rfl⟩
   go_wp2_with fail
   go_loopw [6,8] (λtv cv wr=>∃c:Nat,c<=n∧tv=.string (bs (Z6 f n (a*n+c)))∧cv=.int .i64 c∧Kp (wr=w1)) (λ_ cv _=>n-(intOf cv).toNat)
   case atStart=>exact⟨0,by omega,by rw[Nat.add_zero,hV0.out],rfl,hwr⟩
   case round=>
    clear hwq hwr
    obtain⟨c,hc,rfl,rfl,hwr⟩:=hrel
    obtain⟨V,hV⟩:∃V,bs (Z6 f n (a*n+c))=V:=⟨_,rfl⟩
    rw[hV]
    by_cases hcn:c<n
    ·have hci:(c:Int)<(n:Int):=by omega
     have hnx:=Zet f (a:=a) hcn
     have hsz:=Zry h6 ha hc
     have hVs:(V.size:Int)<=42:=by rw[<-hV,Zc,Zfa];omega
     have s1:¬(9223372036854775807:Int)<(V.size:Int)+1:=by omega
     have s2:¬(9223372036854775807:Int)<((V.size+1:Nat):Int):=by omega
     cases hfc:f a c with
     | false=>
      have hN:Kp (V++⟨#[48]⟩=bs (Z6 f n (a*n+(c+1)))):=⟨by
       rw[<-Uv,hnx,Zg,hV,hfc]
       rfl⟩
      have hc1:=λW=>hh.out a c W
      rw[hfc]at hc1
      replace hc1:=Z_ hc1
      replace hfc:=Z_ hfc
      replace hnx:=Z_ hnx
      replace hV:=Z_ hV
      clear hsz
      go_wp2_with fail
      refine(hc1.out _).mono ?_
      rintro e w2 ⟨rfl,hw⟩
      subst hw
      go_wp2_with fail
      go_roundw
      case rel=>exact⟨c+1,by omega,by rw[<-hN.out],by go_num,hwr⟩
      case measure=>simp[intOf];omega
     | true=>
      have hN:Kp (V++⟨#[49]⟩=bs (Z6 f n (a*n+(c+1)))):=⟨by
       rw[<-Uv,hnx,Zg,hV,hfc]
       rfl⟩
      have hc1:=λW=>hh.out a c W
      rw[hfc]at hc1
      replace hc1:=Z_ hc1
      replace hfc:=Z_ hfc
      replace hnx:=Z_ hnx
      replace hV:=Z_ hV
      clear hsz
      go_wp2_with fail
      refine(hc1.out _).mono ?_
      rintro e w2 ⟨rfl,hw⟩
      subst hw
      go_wp2_with fail
      go_roundw
      case rel=>exact⟨c+1,by omega,by rw[<-hN.out],by go_num,hwr⟩
      case measure=>simp[intOf];omega
    ·have hci:¬(c:Int)<(n:Int):=by omega
     have hcn2:c=n:=by omega
     have hN:Kp (V=bs (Z6 f n ((a+1)*n))):=⟨by rw[<-hV,hcn2,Nat.add_mul,Nat.one_mul]⟩
     replace hV:=Z_ hV
     replace hcn2:=Z_ hcn2
     go_wp2_with fail
     go_roundw
     case rel=>exact⟨a+1,by omega,by rw[<-hN.out],by go_num,hwr⟩
     case measure=>simp[intOf];omega
  ·have hai:¬(a:Int)<(n:Int):=by omega
   have e:a=n:=by omega
   have hN:bs (Z6 f n (a*n))=bs (cells f n):=by rw[e,Zfb]
   rw[hN]
   obtain⟨V,hV⟩:∃V,bs (cells f n)=V:=⟨_,rfl⟩
   rw[hV]
   replace hV:=Z_ hV
   clear hN
   replace e:=Z_ e
   go_wp2
   go_ret
   exact⟨by rw[hV.out];rfl,by rw[hwr.out];exact b1.out⟩
theorem Zlw(W:World)(g:Nat)(x:Int)(h0:0<=x)(h1:x<=255)(hc:W.cell? ⟨g,0,none⟩=some (.int .u8 x)):(convert 56 9 (.slice (some ⟨g,0,none⟩) 1 1)).run prog W=.ok (.string (bs [x])) W:=by
 have h:=run_convert_bytes_back (P:=prog) W 56 9 5 ⟨g,0,none⟩ 1 [UInt8.ofNat x.toNat] Tryz.underlying56 Tryz.underlying5 Tryz.underlying9 (λj hj=>by
  have e:j=0:=by simp at hj;omega
  subst e
  have hadd:(⟨g,0,none⟩:Addr).add 0=⟨g,0,none⟩:=by unfold Addr.add;split<;>simp_all
  rw[hadd,hc]
  simp
  omega)
 exact h
theorem Zj(x:Int)(w:World):Calls prog 51 #[.int .i64 x] w λe w'=>e=.returned (.string (bs [x%256]))∧Below w.heap.size w w':=by
 have hw8:IntKind.u8.wrap x=x%256:=wrap8 x
 have h0:0<=x%256:=by omega
 have h1:x%256<=255:=by omega
 generalize x%256=y at *
 go_enter func51,ntmps51
 go_wp2_with fail
 rw[Zlw _ _ y h0 h1 (by simp[go_sem])]
 go_wp2
 go_ret
 exact⟨rfl,(Qh _ _).alloc (Qb _) _⟩
theorem Zpz:bl ⟨#[49,50,51,52,53,54]⟩=[49,50,51,52,53,54]:=by decide
theorem ZsI:NoZ ⟨#[49,50,51,52,53,54]⟩:=λx hx=>by rw[Zpz]at hx;simp at hx;omega
theorem Znq(s:ZB)(r:Rd):Zd0 s ⟨#[49,50,51,52,53,54]⟩ r=isD s r 1 6∧(1:Int)+(fnI (tok s r) (bl ⟨#[49,50,51,52,53,54]⟩):Nat)=(if isD s r 1 6=true then dig s r 1 6 else 1):=by
 unfold Zd0 dig isD
 rw[Zpz]
 generalize tok s r=t
 by_cases h:49<=t∧t<=54
 ·have hc:t=49∨t=50∨t=51∨t=52∨t=53∨t=54:=by omega
  rcases hc with rfl|rfl|rfl|rfl|rfl|rfl<;>decide
 ·have hn:=ZeE (c:=t) (l:=[49,50,51,52,53,54]) (ZbF λj hj e=>by
   have:=Qw e
   simp at this
   omega)
  have hd:decide (1<=t-48∧t-48<=6)=false:=Qx (by omega)
  rw[hn.1,hn.2,hd]
  exact⟨rfl,rfl⟩
theorem ZpA(s:ZB)(n:Int)(h1:1<=n)(h6:n<=6):∀(k:Nat) (r:Rd) (l:List Int),(∀x∈l,0<=x∧x<=5)->∀x∈(ZiB s n k r l).2,0<=x∧x<=5
 | 0,r,l,hl=>hl
 | k+1,r,l,hl=>by
  simp only[ZiB]
  split
  ·refine ZpA s n h1 h6 k _ _ λx hx=>?_
   rcases QI.1 hx with c|c
   ·exact hl x c
   ·have d1:=ZcB (s:=s) (r:=adv s r) h1
    have d2:=ZcB (s:=s) (r:=digR s (adv s r) 0 (n-1)) h1
    simp at c
    rcases c with rfl|rfl<;>omega
  ·exact hl
theorem ZoO{n:Int}(he:r.er=0):muR s (digR s r 0 (n-1))<muR s r:=by
 have hm:muR s r=rem s r+1:=by unfold muR;rw[if_pos he]
 by_cases h:isD s r 0 (n-1)=true
 ·have h1:=Zdd (s:=s) (r:=r) (e:=11) h (ZiU (by omega) h)
  have h2:rem s (digR s r 0 (n-1))<rem s r:=h1
  unfold muR at hm ⊢
  rw[if_pos he]
  split<;>omega
 ·have h1:digR s r 0 (n-1)=rfs (adv s r) 11:=by unfold digR Zbn;rw[if_neg h]
  have h2:(digR s r 0 (n-1)).er≠0:=by rw[h1];exact Zan (by omega)
  unfold muR at hm ⊢
  rw[Zdc h2,if_neg h2]
  omega
theorem ZrX{r':Rd}(h:rem s r'<=rem s r)(he:r'.er=0->r.er=0):muR s r'<=muR s r:=by
 unfold muR
 by_cases h1:r'.er=0
 ·rw[if_pos h1,if_pos (he h1)];omega
 ·rw[if_neg h1];split<;>omega
theorem Zgt(s:ZB)(r:Rd)(a b:Int):muR s (digR s r a b)<=muR s r:=ZrX (Zci s r a b) Zea
theorem ZqK(s:ZB)(r:Rd):muR s (adv s r)<=muR s r:=ZrX (Zt s r) (λh=>by rw[Zk]at h;exact h)
theorem Zx.setN(H:Zx w rb sb B s p tb tp S sv)(n:Int):Zx (w.setCell ⟨sb,0,none⟩ (.int .i64 n)) rb sb B s {p with n:=n} tb tp S sv∧ZW rb sb S S w (w.setCell ⟨sb,0,none⟩ (.int .i64 n)):=
 H.setC (p':={p with n:=n}) (by omega) rfl rfl rfl (Qk _ _ _ H.cn) ((coff _ _ _ _ _ (by omega)).trans H.ct) ((coff _ _ _ _ _ (by omega)).trans H.cl) ((coff _ _ _ _ _ (by omega)).trans H.cv) ((coff _ _ _ _ _ (by omega)).trans H.cp)
theorem Zx.setT(H:Zx w rb sb B s p tb tp S sv)(t:ZB):Zx (w.setCell ⟨sb,1,none⟩ (.string t)) rb sb B s p t tp S sv∧ZW rb sb S S w (w.setCell ⟨sb,1,none⟩ (.string t)):=
 H.setC (p':=p) (by omega) rfl rfl rfl ((coff _ _ _ _ _ (by omega)).trans H.cn) (Qk _ _ _ H.ct) ((coff _ _ _ _ _ (by omega)).trans H.cl) ((coff _ _ _ _ _ (by omega)).trans H.cv) ((coff _ _ _ _ _ (by omega)).trans H.cp)
theorem Zx.setL(H:Zx w rb sb B s p tb tp S sv)(l:List Int):Zx (w.setCell ⟨sb,2,none⟩ (.string (bs l))) rb sb B s {p with ls:=l} tb tp S sv∧ZW rb sb S S w (w.setCell ⟨sb,2,none⟩ (.string (bs l))):=
 H.setC (p':={p with ls:=l}) (by omega) rfl rfl rfl ((coff _ _ _ _ _ (by omega)).trans H.cn) ((coff _ _ _ _ _ (by omega)).trans H.ct) (Qk _ _ _ H.cl) ((coff _ _ _ _ _ (by omega)).trans H.cv) ((coff _ _ _ _ _ (by omega)).trans H.cp)
theorem Zx.setV(H:Zx w rb sb B s p tb tp S sv)(l:List Int):Zx (w.setCell ⟨sb,3,none⟩ (.string (bs l))) rb sb B s {p with vs:=l} tb tp S sv∧ZW rb sb S S w (w.setCell ⟨sb,3,none⟩ (.string (bs l))):=
 H.setC (p':={p with vs:=l}) (by omega) rfl rfl rfl ((coff _ _ _ _ _ (by omega)).trans H.cn) ((coff _ _ _ _ _ (by omega)).trans H.ct) ((coff _ _ _ _ _ (by omega)).trans H.cl) (Qk _ _ _ H.cv) ((coff _ _ _ _ _ (by omega)).trans H.cp)
theorem Zx.setP(H:Zx w rb sb B s p tb tp S sv)(t:Value):Zx (w.setCell ⟨sb,6,none⟩ t) rb sb B s p tb t S sv∧ZW rb sb S S w (w.setCell ⟨sb,6,none⟩ t):=
 H.setC (p':=p) (by omega) rfl rfl rfl ((coff _ _ _ _ _ (by omega)).trans H.cn) ((coff _ _ _ _ _ (by omega)).trans H.ct) ((coff _ _ _ _ _ (by omega)).trans H.cl) ((coff _ _ _ _ _ (by omega)).trans H.cv) (Qk _ _ _ H.cp)
def dgB(t:Int):Bool:=decide (48<=t∧t<=57)
theorem ZqL{v:Nat}(h:v<8):(ByteArray.mk #[97,98,99,100,101,102,103,104]).extract v (v+1)=bs [((97+v:Nat):Int)]:=by
 match v,h with
 | 0,_=>decide
 | 1,_=>decide
 | 2,_=>decide
 | 3,_=>decide
 | 4,_=>decide
 | 5,_=>decide
 | 6,_=>decide
 | 7,_=>decide
theorem ZqM(h0:97<=t)(h1:t<=104):fnI t (bl ⟨#[97,98,99,100,101,102,103,104]⟩)=(t-97).toNat:=by
 rw[Zhk]
 have hc:t=97∨t=98∨t=99∨t=100∨t=101∨t=102∨t=103∨t=104:=by omega
 rcases hc with rfl|rfl|rfl|rfl|rfl|rfl|rfl|rfl<;>decide
theorem tkS{P:Program}{ops:Array Oper}{Q:Exit->Act->World->Prop}{md:Region.Mode}{S:World->Prop}{oi:Oper}{fuel:Nat}{listed:Array Bool}{a:Act}(hi:ops[i]?=some oi)(hy:YieldsIf P ops S oi v a)(hS:S w)(h:wpAnyH P md ops Q S fuel (listed.setIfInBounds i true) (a.put oi.dst v) w)
  (hs:Region.noSelect ops=true:=by kernel_rfl) (hf:Region.free md ops listed i=true:=by kernel_rfl) (hr:(Region.ready md ops listed).contains i=true:=by kernel_rfl) (hQ:∀c a w,Q (.panic c) (a.put oi.dst v) w->Q (.panic c) a w:=by exact λ_ _ _ h=>h):wpAnyH P md ops Q S (fuel+1) listed a w:=
 wpAnyH_take hi hs hf hr hQ hy hS h
end Go.Proofs.YtcnbifdlkalimabGreat
