import Derived.Test.YtcnbifdlkalimabGreatPlnA
import Derived.Test.YtcnbifdlkalimabGreatLatM
import Derived.Deep.QuietTactic
import Derived.BigQuiet
import Derived.RegionTactic
/- Lemmas for the statement Means; their conditions stand in each. -/
namespace Go.Proofs.YtcnbifdlkalimabGreat
open Go.RowKit Go.Proofs.Tryz
set_option linter.unusedVariables false
set_option maxHeartbeats 6400000
theorem Zdm(s:ZB)(n:Int)(w:World)(hs:s.size<=maxLen)(h0:0<=n)(h:n<=s.size) :
  Calls prog 173 #[.string s,.int .i64 n] w λe w'=>e=.returned (.tuple #[.string (hd s n),.string (tl s n),.bool true])∧Below w.heap.size w w':=by
 unfold maxLen at hs
 go_enter func173,ntmps173
 go_wp2
 go_quiet (fail)
 go_wp2
 go_ret3
 exact⟨rfl,below_drewN (Qh _ _) _⟩
theorem ZiC(s:ZB)(n:Int)(w:World)(hs:s.size<=maxLen)(h0:0<=n)(h:s.size<n) :
  Calls prog 173 #[.string s,.int .i64 n] w λe w'=>e=.returned (.tuple #[.string {data:=#[]},.string {data:=#[]},.bool false])∧Below w.heap.size w w':=by
 unfold maxLen at hs
 go_enter func173,ntmps173
 go_wp2
 go_ret3
 exact⟨rfl,Qh _ _⟩
theorem ZaR(s:ZB)(m:Int)(w:World)(hs:s.size<=maxLen)(h0:1<=s.size)(h:bv s 0<=m) :
  Calls prog 174 #[.string s,.int .i64 m] w λe w'=>e=.returned (.tuple #[.int .i64 (bv s 0),.string (tl s 1),.bool true])∧Below w.heap.size w w':=by
 unfold maxLen at hs
 have e0:((s[0]'(by omega)).toNat:Int)=bv s 0:=ZS s 0 (by omega)
 obtain⟨b0,b1⟩:=Zag s 0
 have hz:((s.size:Int)==0)=false:=Qf.2 (by omega)
 generalize bv s 0=v at *
 go_enter func174,ntmps174
 go_wp2
 go_quiet (fail)
 go_wp2
 go_ret3
 exact⟨rfl,below_drewN (Qh _ _) _⟩
theorem Zeo(s:ZB)(m:Int)(w:World)(hs:s.size<=maxLen)(h:s.size=0∨(1<=s.size∧m<bv s 0)) :
  Calls prog 174 #[.string s,.int .i64 m] w λe w'=>e=.returned (.tuple #[.int .i64 0,.string {data:=#[]},.bool false])∧Below w.heap.size w w':=by
 unfold maxLen at hs
 rcases h with h|⟨h,h2⟩
 ·have hz:((s.size:Int)==0)=true:=QL.2 (by omega)
  clear h
  go_enter func174,ntmps174
  go_wp2
  go_ret3
  exact⟨rfl,Qh _ _⟩
 ·have e0:((s[0]'(by omega)).toNat:Int)=bv s 0:=ZS s 0 (by omega)
  obtain⟨b0,b1⟩:=Zag s 0
  have hz:((s.size:Int)==0)=false:=Qf.2 (by omega)
  generalize bv s 0=v at *
  go_enter func174,ntmps174
  go_wp2
  go_ret3
  exact⟨rfl,Qh _ _⟩
theorem Zep(s:ZB)(w:World)(hs:s.size<=maxLen)(h:cOk s 2 200=true) :
  Calls prog 111 #[.string s] w λe w'=>e=.returned (.tuple #[.string (Zc3 s 2),.string (Zem s 2),.bool true])∧Below w.heap.size w w':=by
 obtain⟨h1,h2,h3⟩:=Zn0 h
 obtain⟨b0,b1⟩:=Zag s 0
 have ht:=ZbO s 1
 go_enter func111,ntmps111
 go_wp2_with fail
 refine(ZaR s 200 _ hs (by omega) (by omega)).mono ?_
 rintro e w1 ⟨rfl,hb1⟩
 have HP:Hid (Zc3 s 2=hd (tl s 1) (2*bv s 0)∧Zem s 2=tl (tl s 1) (2*bv s 0)):=⟨rfl,rfl⟩
 generalize bv s 0=v at *
 go_wp2_with fail
 refine(Zdm (tl s 1) (2*v) _ (by omega) (by omega) (by omega)).mono ?_
 rintro e w2 ⟨rfl,hb2⟩
 go_wp2
 go_ret3
 rw[HP.out.1,HP.out.2]
 exact⟨rfl,hb1.trans (hb2.mono hb1.size)⟩
theorem ZiD(s:ZB)(w:World)(hs:s.size<=maxLen)(h:cOk s 2 200=false) :
  Calls prog 111 #[.string s] w λe w'=>e=.returned (.tuple #[.string {data:=#[]},.string {data:=#[]},.bool false])∧Below w.heap.size w w':=by
 obtain⟨b0,b1⟩:=Zag s 0
 have ht:=ZbO s 1
 by_cases h0:s.size=0∨(1<=s.size∧200<bv s 0)
 ·go_enter func111,ntmps111
  go_wp2_with fail
  refine(Zeo s 200 _ hs h0).mono ?_
  rintro e w1 ⟨rfl,hb1⟩
  go_wp2
  go_ret3
  exact⟨rfl,hb1⟩
 ·have h3:=Zsm h
  go_enter func111,ntmps111
  go_wp2_with fail
  refine(ZaR s 200 _ hs (by omega) (by omega)).mono ?_
  rintro e w1 ⟨rfl,hb1⟩
  have h4:(tl s 1).size<2*bv s 0:=by omega
  clear h0 h3
  generalize bv s 0=v at *
  go_wp2_with fail
  refine(ZiC (tl s 1) (2*v) _ (by omega) (by omega) (by omega)).mono ?_
  rintro e w2 ⟨rfl,hb2⟩
  go_wp2
  go_ret3
  exact⟨rfl,hb1.trans (hb2.mono hb1.size)⟩
theorem Zeq(s:ZB)(n:Int)(w:World)(hs:s.size<=maxLen)(h:vOk s n=true) :
  Calls prog 110 #[.string s,.int .i64 n] w λe w'=>e=.returned (.tuple #[.string (Zc3 s 1),.string (Zem s 1),.bool true])∧Below w.heap.size w w':=by
 unfold vOk at h
 rw[Qr]at h
 obtain⟨h,hv⟩:=h
 obtain⟨h1,h2,h3⟩:=Zn0 h
 obtain⟨b0,b1⟩:=Zag s 0
 have ht:=ZbO s 1
 have HP:Hid (Zc3 s 1=hd (tl s 1) (bv s 0)∧Zem s 1=tl (tl s 1) (bv s 0)):=by unfold Hid Zc3 Zem;rw[Int.one_mul];exact⟨rfl,rfl⟩
 have hsz:=ZiQ (tl s 1) (bv s 0)
 have hv:Hid (∀i:Nat,i<(hd (tl s 1) (bv s 0)).size->bv (hd (tl s 1) (bv s 0)) i<n):=by
  intro i hi
  unfold Zny at hv
  rw[HP.out.1,Za]at hv
  exact QB (hv i hi)
 have hmx:s.size<=maxLen:=hs
 unfold maxLen at hmx
 go_enter func110,ntmps110
 go_wp2_with fail
 refine(ZaR s 8 _ hs (by omega) (by omega)).mono ?_
 rintro e w1 ⟨rfl,hb1⟩
 generalize bv s 0=v at *
 go_wp2_with fail
 refine(Zdm (tl s 1) v _ (by omega) (by omega) (by omega)).mono ?_
 rintro e w2 ⟨rfl,hb2⟩
 replace hb1:=hb1.trans (hb2.mono hb1.size)
 clear hb2
 generalize hd (tl s 1) v=vs at *
 generalize tl (tl s 1) v=rs at *
 go_wp2_with fail
 go_loop [12] (λc=>∃k:Nat,k<=vs.size∧c=.int .i64 k) (λc=>vs.size-(intOf c).toNat)
 case atStart=>exact⟨0,by omega,rfl⟩
 case round=>
  obtain⟨k,hk,rfl⟩:=hrel
  by_cases hlt:k<vs.size
  ·have hg:=hv.out k hlt
   have e0:=ZS vs k hlt
   obtain⟨c0,c1⟩:=Zag vs k
   generalize bv vs k=x at *
   go_wp2
   go_round
   case rel=>exact⟨k+1,by omega,by go_num⟩
   case measure=>simp[intOf];omega
  ·go_wp2
   go_ret3
   rw[HP.out.1,HP.out.2]
   exact⟨rfl,hb1⟩
theorem ZiE(s:ZB)(n:Int)(w:World)(hs:s.size<=maxLen)(h:vOk s n=false) :
  Calls prog 110 #[.string s,.int .i64 n] w λe w'=>e=.returned (.tuple #[.string {data:=#[]},.string {data:=#[]},.bool false])∧Below w.heap.size w w':=by
 obtain⟨b0,b1⟩:=Zag s 0
 have ht:=ZbO s 1
 have hsz:=ZiQ (tl s 1) (bv s 0)
 have hmx:s.size<=maxLen:=hs
 unfold maxLen at hmx
 by_cases h0:s.size=0∨(1<=s.size∧8<bv s 0)
 ·go_enter func110,ntmps110
  go_wp2_with fail
  refine(Zeo s 8 _ hs h0).mono ?_
  rintro e w1 ⟨rfl,hb1⟩
  go_wp2
  go_ret3
  exact⟨rfl,hb1⟩
 ·by_cases h3:(bv s 0)<=(tl s 1).size
  ·have hv:Hid (¬∀i:Nat,i<(hd (tl s 1) (bv s 0)).size->bv (hd (tl s 1) (bv s 0)) i<n):=by
    intro hall
    have hc:cOk s 1 8=true:=Qv (by omega)
    unfold vOk at h
    rw[hc,Un]at h
    unfold Zny Zc3 at h
    rw[Int.one_mul,Za.2 (λi hi=>Qv (hall i hi))]at h
    exact absurd h (by simp)
   go_enter func110,ntmps110
   go_wp2_with fail
   refine(ZaR s 8 _ hs (by omega) (by omega)).mono ?_
   rintro e w1 ⟨rfl,hb1⟩
   clear h0 h
   generalize bv s 0=v at *
   go_wp2_with fail
   refine(Zdm (tl s 1) v _ (by omega) (by omega) (by omega)).mono ?_
   rintro e w2 ⟨rfl,hb2⟩
   replace hb1:=hb1.trans (hb2.mono hb1.size)
   clear hb2
   generalize hd (tl s 1) v=vs at *
   generalize tl (tl s 1) v=rs at *
   go_wp2_with fail
   go_loop [12] (λc=>∃k:Nat,k<=vs.size∧c=.int .i64 k∧Hid (∀i:Nat,i<k->bv vs i<n)) (λc=>vs.size-(intOf c).toNat)
   case atStart=>exact⟨0,by omega,rfl,λi hi=>absurd hi (by omega)⟩
   case round=>
    obtain⟨k,hk,rfl,hall⟩:=hrel
    by_cases hlt:k<vs.size
    ·have e0:=ZS vs k hlt
     obtain⟨c0,c1⟩:=Zag vs k
     by_cases hg:bv vs k<n
     ·have hmore:Hid (∀i:Nat,i<k+1->bv vs i<n):=by
       intro i hi
       by_cases e:i=k
       ·rw[e];exact hg
       ·exact hall.out i (by omega)
      generalize bv vs k=x at *
      go_wp2
      go_round
      case rel=>exact⟨k+1,by omega,by go_num,hmore⟩
      case measure=>simp[intOf];omega
     ·generalize bv vs k=x at *
      go_wp2
      go_ret3
      exact⟨rfl,hb1⟩
    ·exact absurd (λi hi=>hall.out i (by omega)) hv.out
  ·go_enter func110,ntmps110
   go_wp2_with fail
   refine(ZaR s 8 _ hs (by omega) (by omega)).mono ?_
   rintro e w1 ⟨rfl,hb1⟩
   clear h0 h
   generalize bv s 0=v at *
   go_wp2_with fail
   refine(ZiC (tl s 1) v _ (by omega) (by omega) (by omega)).mono ?_
   rintro e w2 ⟨rfl,hb2⟩
   go_wp2
   go_ret3
   exact⟨rfl,hb1.trans (hb2.mono hb1.size)⟩
theorem Zdn(s:ZB)(w:World)(hs:s.size<=maxLen)(h:Zby s=true) :
  Calls prog 109 #[.string s] w λe w'=>e=.returned (.tuple #[.agg #[.int .i64 (bv s 1),.string (fTab s)],.string (fR1 s),.bool true])∧Below w.heap.size w w':=by
 unfold Zby at h
 rw[Qr,Qr]at h
 obtain⟨h1,h2,h3⟩:=h
 replace h2:=QB h2
 have hN:=ZlZ h1 h2
 rw[h3,if_pos rfl]at hN
 obtain⟨k1,k2,k3,k4⟩:=ZeY h1
 have hS:Kp (ZjE (fTab s)=fTab s):=⟨by unfold ZjE;rw[if_neg (by omega)]⟩
 replace hN:=Z_ hN
 replace h2:=Z_ h2
 have e0:((s[0]'(by omega)).toNat:Int)=bv s 0:=ZS s 0 (by omega)
 have e1:((s[1]'(by omega)).toNat:Int)=bv s 1:=ZS s 1 (by omega)
 have hv0:(bv s 0 != 83)=false:=by rw[k2];rfl
 have hR:Kp ((tl s 2).size<=maxLen):=⟨Qg (ZbO s 2) hs⟩
 have hB:Kp ((fTab s).size<=maxLen):=⟨Qg (ZiQ _ _) hR.out⟩
 have o0:=Own.new2 w (.int .i64 0) (.string {data:=#[]}) 54
 have b0:Below w.heap.size w (w.alloc (.cells #[.int .i64 0,.string {data:=#[]}] 54)):=(Qh _ _).alloc (Qb _) _
 have hT:Kp (s.extract 2 s.size=tl s 2):=⟨rfl⟩
 have hF:Kp (hd (tl s 2) (bv s 1*bv s 1)=fTab s∧tl (tl s 2) (bv s 1*bv s 1)=fR1 s):=⟨⟨rfl,rfl⟩⟩
 clear k2 h1 h3
 have m0:=ZiM _ k3 k4
 have m1:0<=bv s 1*bv s 1:=QY (by omega) (by omega)
 generalize bv s 1=n at *
 generalize bv s 0=v0 at *
 have hmx:s.size<=maxLen:=hs
 unfold maxLen at hmx
 go_enter func109,ntmps109
 go_wp2_with fail
 rw[hT.out]
 refine(Zdm (tl s 2) (n*n) _ hR.out m1 h2.out).mono ?_
 rintro e w1 ⟨rfl,hb1⟩
 rw[hF.out.1,hF.out.2]
 replace b0:=b0.trans (hb1.mono (by simp))
 replace o0:=o0.step hb1
 clear hb1
 go_wp2_with fail
 refine(ZgO (fTab s) _ hB.out).mono ?_
 rintro e w2 ⟨rfl,hb1⟩
 have o1:=o0.lt
 replace b0:=b0.trans (hb1.mono (by omega))
 replace o0:=o0.step hb1
 clear hb1 o1
 rw[hN.out,hS.out]
 have hn0:(n==0)=false:=Qf.2 (by omega)
 have o1:=o0.lt
 have q0:=o0.c 0 _ rfl
 have q1:=o0.c 1 _ rfl
 have q2:=o0.f 0 _ rfl
 have q3:=o0.f 1 _ rfl
 go_wp2
 exact bodyPost_ret (v:=.tuple #[.agg #[.int .i64 n,.string (fTab s)],.string (fR1 s),.bool true]) (by simp[results,Tryz.results109,go_sem,o1,q0,q1]) rfl ⟨rfl,((b0.setCell (Nat.le_refl _) _).setCell (Nat.le_refl _) _).alloc (by simp;omega) _⟩
theorem Zhy(s:ZB)(w:World)(hs:s.size<=maxLen)(h:Zby s=false) :
  Calls prog 109 #[.string s] w λe w'=>e=.returned (.tuple #[.agg #[.int .i64 0,.string {data:=#[]}],.string {data:=#[]},.bool false])∧Below w.heap.size w w':=by
 have hmx:s.size<=maxLen:=hs
 unfold maxLen at hmx
 have o0:=Own.new2 w (.int .i64 0) (.string {data:=#[]}) 54
 have b0:Below w.heap.size w (w.alloc (.cells #[.int .i64 0,.string {data:=#[]}] 54)):=(Qh _ _).alloc (Qb _) _
 cases h1:Znz s with
 | false=>
  rcases ZpU h1 with k|⟨k1,k2⟩|⟨k1,k2,k3⟩|⟨k1,k2,k3,k4⟩
  ·clear h h1
   go_enter func109,ntmps109
   go_wp2
   exact bodyPost_ret (v:=.tuple #[.agg #[.int .i64 0,.string {data:=#[]}],.string {data:=#[]},.bool false]) (by simp[results,Tryz.results109,go_sem]) rfl ⟨rfl,b0⟩
  ·have e0:((s[0]'(by omega)).toNat:Int)=bv s 0:=ZS s 0 (by omega)
   have hv0:(bv s 0 != 83)=true:=QO.2 k2
   clear h h1 k2
   generalize bv s 0=v0 at *
   go_enter func109,ntmps109
   go_wp2
   exact bodyPost_ret (v:=.tuple #[.agg #[.int .i64 0,.string {data:=#[]}],.string {data:=#[]},.bool false]) (by simp[results,Tryz.results109,go_sem]) rfl ⟨rfl,b0⟩
  ·have e0:((s[0]'(by omega)).toNat:Int)=bv s 0:=ZS s 0 (by omega)
   have e1:((s[1]'(by omega)).toNat:Int)=bv s 1:=ZS s 1 (by omega)
   have hv0:(bv s 0 != 83)=false:=by rw[k2];rfl
   obtain⟨c0,c1⟩:=Zag s 1
   clear h h1 k2
   generalize bv s 1=n at *
   generalize bv s 0=v0 at *
   go_enter func109,ntmps109
   go_wp2
   exact bodyPost_ret (v:=.tuple #[.agg #[.int .i64 0,.string {data:=#[]}],.string {data:=#[]},.bool false]) (by simp[results,Tryz.results109,go_sem]) rfl ⟨rfl,b0⟩
  ·have e0:((s[0]'(by omega)).toNat:Int)=bv s 0:=ZS s 0 (by omega)
   have e1:((s[1]'(by omega)).toNat:Int)=bv s 1:=ZS s 1 (by omega)
   have hv0:(bv s 0 != 83)=false:=by rw[k2];rfl
   obtain⟨c0,c1⟩:=Zag s 1
   clear h h1 k2
   generalize bv s 1=n at *
   generalize bv s 0=v0 at *
   go_enter func109,ntmps109
   go_wp2
   exact bodyPost_ret (v:=.tuple #[.agg #[.int .i64 0,.string {data:=#[]}],.string {data:=#[]},.bool false]) (by simp[results,Tryz.results109,go_sem]) rfl ⟨rfl,b0⟩
 | true=>
  obtain⟨k1,k2,k3,k4⟩:=ZeY h1
  unfold Zby at h
  rw[h1,Un]at h
  have e0:((s[0]'(by omega)).toNat:Int)=bv s 0:=ZS s 0 (by omega)
  have e1:((s[1]'(by omega)).toNat:Int)=bv s 1:=ZS s 1 (by omega)
  have hv0:(bv s 0 != 83)=false:=by rw[k2];rfl
  have hR:Kp ((tl s 2).size<=maxLen):=⟨Qg (ZbO s 2) hs⟩
  have hB:Kp ((fTab s).size<=maxLen):=⟨Qg (ZiQ _ _) hR.out⟩
  have hT:Kp (s.extract 2 s.size=tl s 2):=⟨rfl⟩
  have hF:Kp (hd (tl s 2) (bv s 1*bv s 1)=fTab s∧tl (tl s 2) (bv s 1*bv s 1)=fR1 s):=⟨⟨rfl,rfl⟩⟩
  have m0:=ZiM _ k3 k4
  have m1:0<=bv s 1*bv s 1:=QY (by omega) (by omega)
  clear k2
  by_cases h2:bv s 1*bv s 1<=(tl s 2).size
  ·have hN:=ZlZ h1 h2
   rw[Qv h2,Un]at h
   rw[h]at hN
   replace hN:Kp (tabN (fTab s)=0):=⟨hN⟩
   have hS:Kp (ZjE (fTab s)={data:=#[]}):=⟨by unfold ZjE;rw[if_pos hN.out]⟩
   clear h h1
   replace h2:=Z_ h2
   generalize bv s 1=n at *
   generalize bv s 0=v0 at *
   go_enter func109,ntmps109
   go_wp2_with fail
   rw[hT.out]
   refine(Zdm (tl s 2) (n*n) _ hR.out m1 h2.out).mono ?_
   rintro e w1 ⟨rfl,hb1⟩
   rw[hF.out.1,hF.out.2]
   replace b0:=b0.trans (hb1.mono (by simp))
   replace o0:=o0.step hb1
   clear hb1
   go_wp2_with fail
   refine(ZgO (fTab s) _ hB.out).mono ?_
   rintro e w2 ⟨rfl,hb1⟩
   have o1:=o0.lt
   replace b0:=b0.trans (hb1.mono (by omega))
   replace o0:=o0.step hb1
   clear hb1 o1
   rw[hN.out,hS.out]
   have o1:=o0.lt
   have q0:=o0.c 0 _ rfl
   have q1:=o0.c 1 _ rfl
   have q2:=o0.f 0 _ rfl
   have q3:=o0.f 1 _ rfl
   generalize fTab s=tb at *
   generalize fR1 s=r1 at *
   go_wp2
   exact bodyPost_ret (v:=.tuple #[.agg #[.int .i64 0,.string {data:=#[]}],.string {data:=#[]},.bool false]) (by simp[results,Tryz.results109,go_sem,o1,q0,q1]) rfl ⟨rfl,((b0.setCell (Nat.le_refl _) _).setCell (Nat.le_refl _) _).alloc (by simp;omega) _⟩
  ·clear h h1
   have h3:Kp ((tl s 2).size<bv s 1*bv s 1):=⟨by omega⟩
   clear h2
   generalize bv s 1=n at *
   generalize bv s 0=v0 at *
   go_enter func109,ntmps109
   go_wp2_with fail
   rw[hT.out]
   refine(ZiC (tl s 2) (n*n) _ hR.out m1 h3.out).mono ?_
   rintro e w1 ⟨rfl,hb1⟩
   replace b0:=b0.trans (hb1.mono (by simp))
   replace o0:=o0.step hb1
   clear hb1
   have o1:=o0.lt
   have q0:=o0.c 0 _ rfl
   have q1:=o0.c 1 _ rfl
   have q2:=o0.f 0 _ rfl
   have q3:=o0.f 1 _ rfl
   go_wp2
   exact bodyPost_ret (v:=.tuple #[.agg #[.int .i64 0,.string {data:=#[]}],.string {data:=#[]},.bool false]) (by simp[results,Tryz.results109,go_sem,q0,q1]) rfl ⟨rfl,(b0.setCell (Nat.le_refl _) _).setCell (Nat.le_refl _) _⟩
theorem ZeU(s:ZB)(w:World)(hs:s.size<=maxLen)(h:fOk s=true) :
  Calls prog 57 #[.string s] w λe w'=>e=.returned (.tuple #[.agg #[.int .i64 (bv s 1),.string (fTab s),.string (ZZ s),.string (ZQ s)],.bool true])∧Below w.heap.size w w':=by
 unfold fOk at h
 rw[Qr,Qr,Qr]at h
 obtain⟨h1,h2,h3,h4⟩:=h
 replace h1:=Z_ h1
 replace h2:=Z_ h2
 replace h3:=Z_ h3
 have hR1:Kp ((fR1 s).size<=maxLen):=⟨Qg (ZbO _ _) (Qg (ZbO _ _) hs)⟩
 have hR2:Kp ((fR2 s).size<=maxLen):=⟨Qg (ZbO _ _) (Qg (ZbO _ _) hR1.out)⟩
 have h4':Kp (fR3 s={data:=#[]}):=⟨by
  have h5:=QB h4
  exact ByteArray.ext (Array.eq_empty_of_size_eq_zero h5)⟩
 clear h4
 have o0:=Own.new4 w (.int .i64 0) (.string {data:=#[]}) (.string {data:=#[]}) (.string {data:=#[]}) 76
 have b0:Below w.heap.size w (w.alloc (.cells #[.int .i64 0,.string {data:=#[]},.string {data:=#[]},.string {data:=#[]}] 76)):=(Qh _ _).alloc (Qb _) _
 go_enter func57,ntmps57
 go_wp2_with fail
 refine(Zdn s _ hs h1.out).mono ?_
 rintro e w1 ⟨rfl,hb1⟩
 replace b0:=b0.trans (hb1.mono (by simp))
 replace o0:=o0.step hb1
 clear hb1
 have p0:=Own.new2 w1 (.int .i64 (bv s 1)) (.string (fTab s)) 54
 have o1:=o0.lt
 replace b0:=b0.alloc (Uf o0.lt) (.cells #[.int .i64 (bv s 1),.string (fTab s)] 54)
 replace o0:=o0.alloc (.cells #[.int .i64 (bv s 1),.string (fTab s)] 54)
 go_wp2_with fail
 refine(Zeq (fR1 s) (bv s 1) _ hR1.out h2.out).mono ?_
 rintro e w2 ⟨rfl,hb1⟩
 replace b0:=b0.trans (hb1.mono (by simp;omega))
 replace o0:=o0.step hb1
 replace p0:=p0.step hb1
 clear hb1 o1
 have hv:Zc3 (fR1 s) 1=ZZ s:=rfl
 have hr:Zem (fR1 s) 1=fR2 s:=rfl
 rw[hv,hr]
 clear hv hr
 go_wp2_with fail
 refine(Zep (fR2 s) _ hR2.out h3.out).mono ?_
 rintro e w3 ⟨rfl,hb1⟩
 have o1:=o0.lt
 have p1:=p0.lt
 replace b0:=b0.trans (hb1.mono (by omega))
 replace o0:=o0.step hb1
 replace p0:=p0.step hb1
 clear hb1 o1 p1
 have hv:Zc3 (fR2 s) 2=ZQ s:=rfl
 have hr:Zem (fR2 s) 2=fR3 s:=rfl
 rw[hv,hr,h4'.out]
 clear hv hr
 have o1:=o0.lt
 have q0:=o0.c 0 _ rfl
 have q1:=o0.c 1 _ rfl
 have q2:=o0.c 2 _ rfl
 have q3:=o0.c 3 _ rfl
 have q4:=o0.f 0 _ rfl
 have q5:=o0.f 1 _ rfl
 have q6:=o0.f 2 _ rfl
 have q7:=o0.f 3 _ rfl
 have p1:=p0.lt
 have r0:=p0.c 0 _ rfl
 have r1:=p0.c 1 _ rfl
 go_wp2
 exact bodyPost_ret (v:=.tuple #[.agg #[.int .i64 (bv s 1),.string (fTab s),.string (ZZ s),.string (ZQ s)],.bool true]) (by simp[results,Tryz.results57,go_sem,q0,q1,q2,q3]) rfl ⟨rfl,(((b0.setCell (Nat.le_refl _) _).setCell (Nat.le_refl _) _).setCell (Nat.le_refl _) _).setCell (Nat.le_refl _) _⟩
theorem ZoU(r:ZB)(h:r.size≠0):r.toList.isEmpty=false:=by
 rw[Ur]
 cases e:r.data.toList with
 | nil=>exact absurd (show r.size=0 from by show r.data.size=0;rw[<-Array.length_toList,e];rfl) h
 | cons a b=>rfl
theorem Zsk{s:ZB}(h:fOk s=false):Zby s=false∨(Zby s=true∧vOk (fR1 s) (bv s 1)=false)∨(Zby s=true∧vOk (fR1 s) (bv s 1)=true∧cOk (fR2 s) 2 200=false)∨(Zby s=true∧vOk (fR1 s) (bv s 1)=true∧cOk (fR2 s) 2 200=true∧(fR3 s).size≠0):=by
 unfold fOk at h
 cases h1:Zby s with
 | false=>exact .inl rfl
 | true=>
  cases h2:vOk (fR1 s) (bv s 1) with
  | false=>exact .inr (.inl ⟨rfl,rfl⟩)
  | true=>
   cases h3:cOk (fR2 s) 2 200 with
   | false=>exact .inr (.inr (.inl ⟨rfl,rfl,rfl⟩))
   | true=>
    rw[h1,h2,h3]at h
    exact .inr (.inr (.inr ⟨rfl,rfl,rfl,of_decide_eq_false (by simpa using h)⟩))
theorem ZnK(s:ZB)(w:World)(hs:s.size<=maxLen)(h:fOk s=false) :
  Calls prog 57 #[.string s] w λe w'=>e=.returned (.tuple #[.agg #[.int .i64 0,.string {data:=#[]},.string {data:=#[]},.string {data:=#[]}],.bool false])∧Below w.heap.size w w':=by
 have hR1:Kp ((fR1 s).size<=maxLen):=⟨Qg (ZbO _ _) (Qg (ZbO _ _) hs)⟩
 have hR2:Kp ((fR2 s).size<=maxLen):=⟨Qg (ZbO _ _) (Qg (ZbO _ _) hR1.out)⟩
 have o0:=Own.new4 w (.int .i64 0) (.string {data:=#[]}) (.string {data:=#[]}) (.string {data:=#[]}) 76
 have b0:Below w.heap.size w (w.alloc (.cells #[.int .i64 0,.string {data:=#[]},.string {data:=#[]},.string {data:=#[]}] 76)):=(Qh _ _).alloc (Qb _) _
 rcases Zsk h with h1|hh
 ·clear h
  replace h1:=Z_ h1
  go_enter func57,ntmps57
  go_wp2_with fail
  refine(Zhy s _ hs h1.out).mono ?_
  rintro e w1 ⟨rfl,hb1⟩
  replace b0:=b0.trans (hb1.mono (by simp))
  replace o0:=o0.step hb1
  clear hb1
  have o1:=o0.lt
  have q0:=o0.c 0 _ rfl
  have q1:=o0.c 1 _ rfl
  have q2:=o0.c 2 _ rfl
  have q3:=o0.c 3 _ rfl
  have q4:=o0.f 0 _ rfl
  have q5:=o0.f 1 _ rfl
  have q6:=o0.f 2 _ rfl
  have q7:=o0.f 3 _ rfl
  go_wp2
  exact bodyPost_ret (v:=.tuple #[.agg #[.int .i64 0,.string {data:=#[]},.string {data:=#[]},.string {data:=#[]}],.bool false]) (by simp[results,Tryz.results57,go_sem,o1,q0,q1,q2,q3]) rfl ⟨rfl,((((b0.setCell (Nat.le_refl _) _).setCell (Nat.le_refl _) _).setCell (Nat.le_refl _) _).setCell (Nat.le_refl _) _).alloc (by simp;omega) _⟩
 ·clear h
  have h1:Kp (Zby s=true):=⟨by rcases hh with hh|hh|hh<;>exact hh.1⟩
  replace hh:=Z_ hh
  go_enter func57,ntmps57
  go_wp2_with fail
  refine(Zdn s _ hs h1.out).mono ?_
  rintro e w1 ⟨rfl,hb1⟩
  replace b0:=b0.trans (hb1.mono (by simp))
  replace o0:=o0.step hb1
  clear hb1
  have p0:=Own.new2 w1 (.int .i64 (bv s 1)) (.string (fTab s)) 54
  have o1:=o0.lt
  replace b0:=b0.alloc (Uf o0.lt) (.cells #[.int .i64 (bv s 1),.string (fTab s)] 54)
  replace o0:=o0.alloc (.cells #[.int .i64 (bv s 1),.string (fTab s)] 54)
  go_wp2_with fail
  rcases hh.out with h2|hh2
  ·refine(ZiE (fR1 s) (bv s 1) _ hR1.out h2.2).mono ?_
   replace h2:=Z_ h2
   rintro e w2 ⟨rfl,hb1⟩
   replace b0:=b0.trans (hb1.mono (by simp;omega))
   replace o0:=o0.step hb1
   clear hb1 o1
   have o1:=o0.lt
   have q0:=o0.c 0 _ rfl
   have q1:=o0.c 1 _ rfl
   have q2:=o0.c 2 _ rfl
   have q3:=o0.c 3 _ rfl
   have q4:=o0.f 0 _ rfl
   have q5:=o0.f 1 _ rfl
   have q6:=o0.f 2 _ rfl
   have q7:=o0.f 3 _ rfl
   go_wp2
   exact bodyPost_ret (v:=.tuple #[.agg #[.int .i64 0,.string {data:=#[]},.string {data:=#[]},.string {data:=#[]}],.bool false]) (by simp[results,Tryz.results57,go_sem,q0,q1,q2,q3]) rfl ⟨rfl,(((b0.setCell (Nat.le_refl _) _).setCell (Nat.le_refl _) _).setCell (Nat.le_refl _) _).setCell (Nat.le_refl _) _⟩
  ·have h2:Kp (vOk (fR1 s) (bv s 1)=true):=⟨by rcases hh2 with hh2|hh2<;>exact hh2.2.1⟩
   replace hh2:=Z_ hh2
   refine(Zeq (fR1 s) (bv s 1) _ hR1.out h2.out).mono ?_
   rintro e w2 ⟨rfl,hb1⟩
   replace b0:=b0.trans (hb1.mono (by simp;omega))
   replace o0:=o0.step hb1
   clear hb1 o1
   have hv:Zc3 (fR1 s) 1=ZZ s:=rfl
   have hr:Zem (fR1 s) 1=fR2 s:=rfl
   rw[hv,hr]
   clear hv hr
   go_wp2_with fail
   rcases hh2.out with h3|h3
   ·refine(ZiD (fR2 s) _ hR2.out h3.2.2).mono ?_
    replace h3:=Z_ h3
    rintro e w3 ⟨rfl,hb1⟩
    have o1:=o0.lt
    replace b0:=b0.trans (hb1.mono (by omega))
    replace o0:=o0.step hb1
    clear hb1 o1
    have o1:=o0.lt
    have q0:=o0.c 0 _ rfl
    have q1:=o0.c 1 _ rfl
    have q2:=o0.c 2 _ rfl
    have q3:=o0.c 3 _ rfl
    have q4:=o0.f 0 _ rfl
    have q5:=o0.f 1 _ rfl
    have q6:=o0.f 2 _ rfl
    have q7:=o0.f 3 _ rfl
    go_wp2
    exact bodyPost_ret (v:=.tuple #[.agg #[.int .i64 0,.string {data:=#[]},.string {data:=#[]},.string {data:=#[]}],.bool false]) (by simp[results,Tryz.results57,go_sem,q0,q1,q2,q3]) rfl ⟨rfl,(((b0.setCell (Nat.le_refl _) _).setCell (Nat.le_refl _) _).setCell (Nat.le_refl _) _).setCell (Nat.le_refl _) _⟩
   ·refine(Zep (fR2 s) _ hR2.out h3.2.2.1).mono ?_
    have h5:=ZoU (fR3 s) h3.2.2.2
    replace h3:=Z_ h3
    rintro e w3 ⟨rfl,hb1⟩
    have o1:=o0.lt
    replace b0:=b0.trans (hb1.mono (by omega))
    replace o0:=o0.step hb1
    clear hb1 o1
    have hv:Zc3 (fR2 s) 2=ZQ s:=rfl
    have hr:Zem (fR2 s) 2=fR3 s:=rfl
    rw[hv,hr]
    clear hv hr
    generalize fR3 s=r3 at *
    have o1:=o0.lt
    have q0:=o0.c 0 _ rfl
    have q1:=o0.c 1 _ rfl
    have q2:=o0.c 2 _ rfl
    have q3:=o0.c 3 _ rfl
    have q4:=o0.f 0 _ rfl
    have q5:=o0.f 1 _ rfl
    have q6:=o0.f 2 _ rfl
    have q7:=o0.f 3 _ rfl
    go_wp2
    exact bodyPost_ret (v:=.tuple #[.agg #[.int .i64 0,.string {data:=#[]},.string {data:=#[]},.string {data:=#[]}],.bool false]) (by simp[results,Tryz.results57,go_sem,q0,q1,q2,q3]) rfl ⟨rfl,(((b0.setCell (Nat.le_refl _) _).setCell (Nat.le_refl _) _).setCell (Nat.le_refl _) _).setCell (Nat.le_refl _) _⟩
theorem ZT(n:Int)(t v c:ZB)(w:World)(hc:c.size<=maxLen) :
  Calls prog 68 #[.agg #[.int .i64 n,.string t,.string v,.string c]] w λe w'=>e=.returned (.int .i64 (half c))∧Below w.heap.size w w':=by
 unfold maxLen at hc
 go_enter func68,ntmps68
 go_wp2
 go_ret
 exact⟨rfl,(Qh _ _).alloc (Qb _) _⟩
theorem Za7(n k:Int)(t v c:ZB)(w:World)(hc:c.size<=maxLen)(h0:0<=k)(hk:k<half c) :
  Calls prog 114 #[.agg #[.int .i64 n,.string t,.string v,.string c],.int .i64 k] w λe w'=>e=.returned (.tuple #[.int .i64 (bv c (2*k)),.int .i64 (bv c (2*k+1))])∧Below w.heap.size w w':=by
 unfold maxLen at hc
 have hh:=Z4 c
 have hd:(half c:Int)=(c.size:Int)/2:=rfl
 rw[hd]at hk hh
 clear hd
 have e0:((c[(2*k).toNat]'(by omega)).toNat:Int)=bv c (2*k):=ZjR c (2*k) (by omega)
 have e1:((c[(2*k+1).toNat]'(by omega)).toNat:Int)=bv c (2*k+1):=ZjR c (2*k+1) (by omega)
 have c0:=Zag c (2*k)
 have c1:=Zag c (2*k+1)
 obtain⟨d0,d1⟩:=c0
 obtain⟨d2,d3⟩:=c1
 generalize bv c (2*k)=x at *
 generalize bv c (2*k+1)=y at *
 have g1:2*k<c.size:=by omega
 have g2:2*k+1<c.size:=by omega
 have g3:0<=2*k:=by omega
 go_enter func114,ntmps114
 go_wp2
 go_quiet (fail)
 go_wp2
 go_ret2
 exact⟨rfl,below_drewN ((Qh _ _).alloc (Qb _) _) _⟩
theorem ZkI(n op arg:Int)(t v c:ZB)(w:World)(hc:c.size<=maxLen)(hv:v.size<=maxLen)(h0:0<=op)(ha:0<=arg) :
  Calls prog 115 #[.agg #[.int .i64 n,.string t,.string v,.string c],.int .i64 op,.int .i64 arg] w λe w'=>e=.returned (.bool (ZaH v.size (half c) n op arg))∧Below w.heap.size w w':=by
 have hmx:v.size<=maxLen:=hv
 unfold maxLen at hmx
 have o0:=Own.new4 w (.int .i64 n) (.string t) (.string v) (.string c) 76
 have b0:Below w.heap.size w (w.alloc (.cells #[.int .i64 n,.string t,.string v,.string c] 76)):=(Qh _ _).alloc (Qb _) _
 by_cases hop:op<=11
 ·have hcs:op=0∨op=1∨op=2∨op=3∨op=4∨op=5∨op=6∨op=7∨op=8∨op=9∨op=10∨op=11:=by omega
  rcases hcs with rfl|rfl|rfl|rfl|rfl|rfl|rfl|rfl|rfl|rfl|rfl|rfl
  ·have hd:Kp (ZaH v.size (half c) n 0 arg=true):=⟨Qv (by omega)⟩
   go_enter func115,ntmps115
   go_wp2
   go_ret
   exact⟨Zd hd.out.symm,b0⟩
  ·have hd:Kp (ZaH v.size (half c) n 1 arg=decide (arg<v.size)):=⟨by rw[Bool.eq_iff_iff];simp[ZaH]⟩
   go_enter func115,ntmps115
   go_wp2
   go_ret
   exact⟨Zd hd.out.symm,b0⟩
  ·have hd:Kp (ZaH v.size (half c) n 2 arg=decide (arg<v.size)):=⟨by rw[Bool.eq_iff_iff];simp[ZaH]⟩
   go_enter func115,ntmps115
   go_wp2
   go_ret
   exact⟨Zd hd.out.symm,b0⟩
  ·have hd:Kp (ZaH v.size (half c) n 3 arg=(arg==0)):=⟨by rw[Bool.eq_iff_iff];simp[ZaH]⟩
   go_enter func115,ntmps115
   go_wp2
   go_ret
   exact⟨Zd hd.out.symm,b0⟩
  ·have hd:Kp (ZaH v.size (half c) n 4 arg=(arg==0)):=⟨by rw[Bool.eq_iff_iff];simp[ZaH]⟩
   go_enter func115,ntmps115
   go_wp2
   go_ret
   exact⟨Zd hd.out.symm,b0⟩
  ·have hd:Kp (ZaH v.size (half c) n 5 arg=(arg==0)):=⟨by rw[Bool.eq_iff_iff];simp[ZaH]⟩
   go_enter func115,ntmps115
   go_wp2
   go_ret
   exact⟨Zd hd.out.symm,b0⟩
  ·have hd:Kp (ZaH v.size (half c) n 6 arg=(arg==0)):=⟨by rw[Bool.eq_iff_iff];simp[ZaH]⟩
   go_enter func115,ntmps115
   go_wp2
   go_ret
   exact⟨Zd hd.out.symm,b0⟩
  ·have hd:Kp (ZaH v.size (half c) n 7 arg=(arg==0)):=⟨by rw[Bool.eq_iff_iff];simp[ZaH]⟩
   go_enter func115,ntmps115
   go_wp2
   go_ret
   exact⟨Zd hd.out.symm,b0⟩
  ·have hd:Kp (ZaH v.size (half c) n 8 arg=decide (arg<=half c)):=⟨by rw[Bool.eq_iff_iff];simp[ZaH]⟩
   go_enter func115,ntmps115
   go_wp2_with fail
   refine(ZT n t v c _ hc).mono ?_
   rintro e w1 ⟨rfl,hb1⟩
   replace b0:=b0.trans (hb1.mono (by simp))
   go_wp2
   go_ret
   exact⟨Zd hd.out.symm,b0⟩
  ·have hd:Kp (ZaH v.size (half c) n 9 arg=decide (arg<=half c)):=⟨by rw[Bool.eq_iff_iff];simp[ZaH]⟩
   go_enter func115,ntmps115
   go_wp2_with fail
   refine(ZT n t v c _ hc).mono ?_
   rintro e w1 ⟨rfl,hb1⟩
   replace b0:=b0.trans (hb1.mono (by simp))
   go_wp2
   go_ret
   exact⟨Zd hd.out.symm,b0⟩
  ·have hd:Kp (ZaH v.size (half c) n 10 arg=decide (arg<n)):=⟨by rw[Bool.eq_iff_iff];simp[ZaH]⟩
   go_enter func115,ntmps115
   go_wp2
   go_ret
   exact⟨Zd hd.out.symm,b0⟩
  ·have hd:Kp (ZaH v.size (half c) n 11 arg=decide (arg<n)):=⟨by rw[Bool.eq_iff_iff];simp[ZaH]⟩
   go_enter func115,ntmps115
   go_wp2
   go_ret
   exact⟨Zd hd.out.symm,b0⟩
 ·have hd:Kp (ZaH v.size (half c) n op arg=false):=⟨Qx (by omega)⟩
  have x0:(op==0)=false:=Qf.2 (by omega)
  have x1:(op==1)=false:=Qf.2 (by omega)
  have x2:(op==2)=false:=Qf.2 (by omega)
  have x3:(op==3)=false:=Qf.2 (by omega)
  have x4:(op==4)=false:=Qf.2 (by omega)
  have x5:(op==5)=false:=Qf.2 (by omega)
  have x6:(op==6)=false:=Qf.2 (by omega)
  have x7:(op==7)=false:=Qf.2 (by omega)
  have x8:(op==8)=false:=Qf.2 (by omega)
  have x9:(op==9)=false:=Qf.2 (by omega)
  have x10:(op==10)=false:=Qf.2 (by omega)
  have x11:(op==11)=false:=Qf.2 (by omega)
  go_enter func115,ntmps115
  go_wp2
  go_ret
  exact⟨Zd hd.out.symm,b0⟩
theorem Zhz(n:Int)(t v c:ZB)(w:World)(hc:c.size<=maxLen)(hv:v.size<=maxLen) :
  Calls prog 59 #[.agg #[.int .i64 n,.string t,.string v,.string c]] w λe w'=>e=.returned (.bool (Zc8 c v n))∧Below w.heap.size w w':=by
 have hh:=Z4 c
 have hmx:c.size<=maxLen:=hc
 unfold maxLen at hmx
 have o0:=Own.new4 w (.int .i64 n) (.string t) (.string v) (.string c) 76
 have b0:Below w.heap.size w (w.alloc (.cells #[.int .i64 n,.string t,.string v,.string c] 76)):=(Qh _ _).alloc (Qb _) _
 go_enter func59,ntmps59
 go_wp2_with fail
 refine(ZT n t v c _ hc).mono ?_
 rintro e w1 ⟨rfl,hb1⟩
 replace b0:=b0.trans (hb1.mono (by simp))
 replace o0:=o0.step hb1
 clear hb1
 have hK:Kp (half c=half c):=⟨rfl⟩
 go_wp2_with fail
 go_loopw [4] (λi wr=>∃k:Nat,(k:Int)<=half c∧i=.int .i64 k∧Kp (∀i:Nat,i<k->ZnA c v n i=true)∧Below w.heap.size w wr∧Own wr w.heap.size [.int .i64 n,.string t,.string v,.string c]) (λi _=>(half c).toNat-(intOf i).toNat)
 case atStart=>exact⟨0,by omega,rfl,⟨λi hi=>absurd hi (by omega)⟩,b0,o0⟩
 case round=>
  clear b0 o0
  obtain⟨k,hk,rfl,hall,b0,o0⟩:=hrel
  have o1:=o0.lt
  have q0:=o0.c 0 _ rfl
  have q1:=o0.c 1 _ rfl
  have q2:=o0.c 2 _ rfl
  have q3:=o0.c 3 _ rfl
  by_cases hlt:(k:Int)<half c
  ·go_wp2_with fail
   refine(Za7 n k t v c _ hc (by omega) hlt).mono ?_
   rintro e w2 ⟨rfl,hb1⟩
   replace b0:=b0.trans (hb1.mono (by omega))
   replace o0:=o0.step hb1
   clear hb1 o1 q0 q1 q2 q3
   have o1:=o0.lt
   have q0:=o0.c 0 _ rfl
   have q1:=o0.c 1 _ rfl
   have q2:=o0.c 2 _ rfl
   have q3:=o0.c 3 _ rfl
   obtain⟨d0,d1⟩:=Zag c (2*k)
   obtain⟨d2,d3⟩:=Zag c (2*k+1)
   go_wp2_with fail
   refine(ZkI n (bv c (2*k)) (bv c (2*k+1)) t v c _ hc hv d0 d2).mono ?_
   rintro e w3 ⟨rfl,hb1⟩
   replace b0:=b0.trans (hb1.mono (by omega))
   replace o0:=o0.step hb1
   clear hb1 o1 q0 q1 q2 q3
   have hI:ZnA c v n k=ZaH v.size (half c) n (bv c (2*k)) (bv c (2*k+1)):=rfl
   rw[<-hI]
   clear hI
   generalize hx:ZnA c v n k=x
   replace hx:=Z_ hx
   cases x<;>go_wp2
   ·go_ret
    exact⟨Zd (Zl (i:=k) (by omega) hx.out).symm,b0⟩
   ·go_roundw
    case rel=>exact⟨k+1,by omega,by go_num,⟨ZC hall.out hx.out⟩,b0,o0⟩
    case measure=>simp[intOf];omega
  ·go_wp2
   go_ret
   exact⟨Zd (Za.2 (λi hi=>hall.out i (by omega))).symm,b0⟩
theorem Zc9{s:ZB}(hs:s.size<=maxLen):(fTab s).size<=maxLen∧(ZZ s).size<=maxLen∧(ZQ s).size<=maxLen:=by
 have h1:(fR1 s).size<=maxLen:=Qg (ZbO _ _) (Qg (ZbO _ _) hs)
 have h2:(fR2 s).size<=maxLen:=Qg (ZbO _ _) (Qg (ZbO _ _) h1)
 exact⟨Qg (ZiQ _ _) (Qg (ZbO _ _) hs),Qg (ZiQ _ _) (Qg (ZbO _ _) h1),Qg (ZiQ _ _) (Qg (ZbO _ _) h2)⟩
theorem ZnL(s:ZB)(w:World)(hs:s.size<=maxLen)(h:scanE s≠0) :
  Calls prog 24 #[.string s] w λe w'=>e=.returned (.tuple #[.agg #[.int .i64 0,.string {data:=#[]},.string {data:=#[]},.string {data:=#[]}],.int .i64 (scanE s)])∧Below w.heap.size w w':=by
 have hps:=Zc9 hs
 have hps:Kp _:=⟨hps⟩
 have o0:=Own.new4 w (.int .i64 0) (.string {data:=#[]}) (.string {data:=#[]}) (.string {data:=#[]}) 76
 have b0:Below w.heap.size w (w.alloc (.cells #[.int .i64 0,.string {data:=#[]},.string {data:=#[]},.string {data:=#[]}] 76)):=(Qh _ _).alloc (Qb _) _
 have hmx:s.size<=maxLen:=hs
 unfold maxLen at hmx
 rcases ZcP s with ⟨k1,k2⟩|⟨k1,k2,k3⟩|⟨k1,k2,k3,k4⟩|⟨k1,k2,k3,k4,k5⟩|⟨k1,k2,k3,k4,k5⟩
 ·rw[k2]
  clear k2 h
  go_enter func24,ntmps24
  go_wp2
  exact bodyPost_ret (v:=.tuple #[.agg #[.int .i64 0,.string {data:=#[]},.string {data:=#[]},.string {data:=#[]}],.int .i64 1]) (by simp[results,Tryz.results24,go_sem]) rfl ⟨rfl,b0⟩
 ·rw[k3]
  clear k3 h
  replace k2:=Z_ k2
  go_enter func24,ntmps24
  go_wp2_with fail
  refine(ZnK s _ hs k2.out).mono ?_
  rintro e w1 ⟨rfl,hb1⟩
  replace b0:=b0.trans (hb1.mono (by simp))
  replace o0:=o0.step hb1
  clear hb1
  have o0l:=o0.lt
  have q0:=o0.c 0 _ rfl
  have q1:=o0.c 1 _ rfl
  have q2:=o0.c 2 _ rfl
  have q3:=o0.c 3 _ rfl
  have q4:=o0.f 0 _ rfl
  have q5:=o0.f 1 _ rfl
  have q6:=o0.f 2 _ rfl
  have q7:=o0.f 3 _ rfl
  go_wp2
  exact bodyPost_ret (v:=.tuple #[.agg #[.int .i64 0,.string {data:=#[]},.string {data:=#[]},.string {data:=#[]}],.int .i64 2]) (by simp[results,Tryz.results24,go_sem,o0l,q0,q1,q2,q3]) rfl ⟨rfl,((((b0.setCell (Nat.le_refl _) _).setCell (Nat.le_refl _) _).setCell (Nat.le_refl _) _).setCell (Nat.le_refl _) _).alloc (by simp;omega) _⟩
 ·rw[k4]
  clear k4 h
  have k5:(levE (fTab s) != 0)=true:=QO.2 k3
  clear k3
  have ht:=ZeJ (s:=s) (by unfold fOk at k2;rw[Qr]at k2;exact k2.1)
  replace k2:=Z_ k2
  replace ht:=Z_ ht
  generalize levE (fTab s)=le1 at *
  go_enter func24,ntmps24
  go_wp2_with fail
  refine(ZeU s _ hs k2.out).mono ?_
  rintro e w1 ⟨rfl,hb1⟩
  replace b0:=b0.trans (hb1.mono (by simp))
  replace o0:=o0.step hb1
  clear hb1
  have p0:=Own.new4 w1 (.int .i64 (bv s 1)) (.string (fTab s)) (.string (ZZ s)) (.string (ZQ s)) 76
  have o1:=o0.lt
  replace b0:=b0.alloc (Uf o0.lt) (.cells #[.int .i64 (bv s 1),.string (fTab s),.string (ZZ s),.string (ZQ s)] 76)
  replace o0:=o0.alloc (.cells #[.int .i64 (bv s 1),.string (fTab s),.string (ZZ s),.string (ZQ s)] 76)
  go_wp2_with fail
  refine(Zdy ht.out.1 _).mono ?_
  rintro e w2 ⟨rfl,hb1⟩
  replace b0:=b0.trans (hb1.mono (by simp;omega))
  replace o0:=o0.step hb1
  replace p0:=p0.step hb1
  clear hb1 o1
  rw[ht.out.2.2]
  have o0l:=o0.lt
  have q0:=o0.c 0 _ rfl
  have q1:=o0.c 1 _ rfl
  have q2:=o0.c 2 _ rfl
  have q3:=o0.c 3 _ rfl
  have q4:=o0.f 0 _ rfl
  have q5:=o0.f 1 _ rfl
  have q6:=o0.f 2 _ rfl
  have q7:=o0.f 3 _ rfl
  go_wp2
  exact bodyPost_ret (v:=.tuple #[.agg #[.int .i64 0,.string {data:=#[]},.string {data:=#[]},.string {data:=#[]}],.int .i64 le1]) (by simp[results,Tryz.results24,go_sem,q0,q1,q2,q3]) rfl ⟨rfl,(((b0.setCell (Nat.le_refl _) _).setCell (Nat.le_refl _) _).setCell (Nat.le_refl _) _).setCell (Nat.le_refl _) _⟩
 ·rw[k5]
  clear k5 h
  have ht:=ZeJ (s:=s) (by unfold fOk at k2;rw[Qr]at k2;exact k2.1)
  replace k2:=Z_ k2
  replace ht:=Z_ ht
  go_enter func24,ntmps24
  go_wp2_with fail
  refine(ZeU s _ hs k2.out).mono ?_
  rintro e w1 ⟨rfl,hb1⟩
  replace b0:=b0.trans (hb1.mono (by simp))
  replace o0:=o0.step hb1
  clear hb1
  have p0:=Own.new4 w1 (.int .i64 (bv s 1)) (.string (fTab s)) (.string (ZZ s)) (.string (ZQ s)) 76
  have o1:=o0.lt
  replace b0:=b0.alloc (Uf o0.lt) (.cells #[.int .i64 (bv s 1),.string (fTab s),.string (ZZ s),.string (ZQ s)] 76)
  replace o0:=o0.alloc (.cells #[.int .i64 (bv s 1),.string (fTab s),.string (ZZ s),.string (ZQ s)] 76)
  go_wp2_with fail
  refine(Zdy ht.out.1 _).mono ?_
  rintro e w2 ⟨rfl,hb1⟩
  replace b0:=b0.trans (hb1.mono (by simp;omega))
  replace o0:=o0.step hb1
  replace p0:=p0.step hb1
  clear hb1 o1
  rw[ht.out.2.2]
  rw[k3]
  clear k3
  have p1:=p0.lt
  have r0:=p0.c 0 _ rfl
  have r1:=p0.c 1 _ rfl
  have r2:=p0.c 2 _ rfl
  have r3:=p0.c 3 _ rfl
  go_wp2_with fail
  refine(Zhz (bv s 1) (fTab s) (ZZ s) (ZQ s) _ hps.out.2.2 hps.out.2.1).mono ?_
  rintro e w3 ⟨rfl,hb1⟩
  have o1:=o0.lt
  replace b0:=b0.trans (hb1.mono (by omega))
  replace o0:=o0.step hb1
  replace p0:=p0.step hb1
  clear hb1 o1 p1 r0 r1 r2 r3
  have p1:=p0.lt
  have r0:=p0.c 0 _ rfl
  have r1:=p0.c 1 _ rfl
  have r2:=p0.c 2 _ rfl
  have r3:=p0.c 3 _ rfl
  rw[k4]
  clear k4
  have o0l:=o0.lt
  have q0:=o0.c 0 _ rfl
  have q1:=o0.c 1 _ rfl
  have q2:=o0.c 2 _ rfl
  have q3:=o0.c 3 _ rfl
  have q4:=o0.f 0 _ rfl
  have q5:=o0.f 1 _ rfl
  have q6:=o0.f 2 _ rfl
  have q7:=o0.f 3 _ rfl
  go_wp2
  exact bodyPost_ret (v:=.tuple #[.agg #[.int .i64 0,.string {data:=#[]},.string {data:=#[]},.string {data:=#[]}],.int .i64 6]) (by simp[results,Tryz.results24,go_sem,q0,q1,q2,q3]) rfl ⟨rfl,(((b0.setCell (Nat.le_refl _) _).setCell (Nat.le_refl _) _).setCell (Nat.le_refl _) _).setCell (Nat.le_refl _) _⟩
 ·exact absurd k5 h
theorem ZlL(s:ZB)(w:World)(hs:s.size<=maxLen)(h:scanE s=0) :
  Calls prog 24 #[.string s] w λe w'=>e=.returned (.tuple #[.agg #[.int .i64 (bv s 1),.string (fTab s),.string (ZZ s),.string (ZQ s)],.int .i64 0])∧Below w.heap.size w w':=by
 have hps:=Zc9 hs
 have hps:Kp _:=⟨hps⟩
 have o0:=Own.new4 w (.int .i64 0) (.string {data:=#[]}) (.string {data:=#[]}) (.string {data:=#[]}) 76
 have b0:Below w.heap.size w (w.alloc (.cells #[.int .i64 0,.string {data:=#[]},.string {data:=#[]},.string {data:=#[]}] 76)):=(Qh _ _).alloc (Qb _) _
 have hmx:s.size<=maxLen:=hs
 unfold maxLen at hmx
 rcases ZcP s with ⟨k1,k2⟩|⟨k1,k2,k3⟩|⟨k1,k2,k3,k4⟩|⟨k1,k2,k3,k4,k5⟩|⟨k1,k2,k3,k4,k5⟩
 ·omega
 ·omega
 ·omega
 ·omega
 ·clear k5 h
  have ht:=ZeJ (s:=s) (by unfold fOk at k2;rw[Qr]at k2;exact k2.1)
  replace k2:=Z_ k2
  replace ht:=Z_ ht
  go_enter func24,ntmps24
  go_wp2_with fail
  refine(ZeU s _ hs k2.out).mono ?_
  rintro e w1 ⟨rfl,hb1⟩
  replace b0:=b0.trans (hb1.mono (by simp))
  replace o0:=o0.step hb1
  clear hb1
  have p0:=Own.new4 w1 (.int .i64 (bv s 1)) (.string (fTab s)) (.string (ZZ s)) (.string (ZQ s)) 76
  have o1:=o0.lt
  replace b0:=b0.alloc (Uf o0.lt) (.cells #[.int .i64 (bv s 1),.string (fTab s),.string (ZZ s),.string (ZQ s)] 76)
  replace o0:=o0.alloc (.cells #[.int .i64 (bv s 1),.string (fTab s),.string (ZZ s),.string (ZQ s)] 76)
  go_wp2_with fail
  refine(Zdy ht.out.1 _).mono ?_
  rintro e w2 ⟨rfl,hb1⟩
  replace b0:=b0.trans (hb1.mono (by simp;omega))
  replace o0:=o0.step hb1
  replace p0:=p0.step hb1
  clear hb1 o1
  rw[ht.out.2.2]
  rw[k3]
  clear k3
  have p1:=p0.lt
  have r0:=p0.c 0 _ rfl
  have r1:=p0.c 1 _ rfl
  have r2:=p0.c 2 _ rfl
  have r3:=p0.c 3 _ rfl
  go_wp2_with fail
  refine(Zhz (bv s 1) (fTab s) (ZZ s) (ZQ s) _ hps.out.2.2 hps.out.2.1).mono ?_
  rintro e w3 ⟨rfl,hb1⟩
  have o1:=o0.lt
  replace b0:=b0.trans (hb1.mono (by omega))
  replace o0:=o0.step hb1
  replace p0:=p0.step hb1
  clear hb1 o1 p1 r0 r1 r2 r3
  have p1:=p0.lt
  have r0:=p0.c 0 _ rfl
  have r1:=p0.c 1 _ rfl
  have r2:=p0.c 2 _ rfl
  have r3:=p0.c 3 _ rfl
  rw[k4]
  clear k4
  have o0l:=o0.lt
  have q0:=o0.c 0 _ rfl
  have q1:=o0.c 1 _ rfl
  have q2:=o0.c 2 _ rfl
  have q3:=o0.c 3 _ rfl
  have q4:=o0.f 0 _ rfl
  have q5:=o0.f 1 _ rfl
  have q6:=o0.f 2 _ rfl
  have q7:=o0.f 3 _ rfl
  go_wp2
  exact bodyPost_ret (v:=.tuple #[.agg #[.int .i64 (bv s 1),.string (fTab s),.string (ZZ s),.string (ZQ s)],.int .i64 0]) (by simp[results,Tryz.results24,go_sem,q0,q1,q2,q3]) rfl ⟨rfl,(((b0.setCell (Nat.le_refl _) _).setCell (Nat.le_refl _) _).setCell (Nat.le_refl _) _).setCell (Nat.le_refl _) _⟩
end Go.Proofs.YtcnbifdlkalimabGreat
