import Derived.Test.YtcnbifdlkalimabGreatSrcC
import Derived.Test.YtcnbifdlkalimabGreatLatM
import Derived.Test.YtcnbifdlkalimabGreatTrnE
/- Lemmas for the statement Means; their conditions stand in each. -/
namespace Go.Proofs.YtcnbifdlkalimabGreat
open Go.RowKit Go.Proofs.Tryz
set_option linter.unusedVariables false
set_option maxRecDepth 100000
set_option maxHeartbeats 6400000
variable{n:Int}{inn:List Int}{B:Nat}{v:Value}{w w1 wr:World}{T:ZB}
theorem ZhO{s:ZB}(ht:Tab s n)(a:Int)(w:World)(ha:0<=a)(ha':a<n) :
  Calls prog 169 #[.agg #[.int .i64 n,.string s],.int .i64 a] w λe w'=>e=.returned (.bool (pBot s n a))∧Below w.heap.size w w':=by
 obtain⟨t1,t2,-⟩:=id ht
 go_enter func169,ntmps169
 go_wp2
 go_loopw [5] (λc wr=>∃k:Nat,(k:Int)<=n∧c=.int .i64 k∧Kp (∀i:Nat,i<k->le s n a i=true)∧Box2 w wr (.int .i64 n) (.string s)) (λc _=>n.toNat-(intOf c).toNat)
 case atStart=>exact⟨0,by omega,rfl,⟨λi hi=>absurd hi (by omega)⟩,Box2.mk' w _ _ _⟩
 case round=>
  obtain⟨k,hk,rfl,hall,hbox⟩:=hrel
  obtain⟨q0,q1,q2,q3⟩:=id hbox
  by_cases hlt:(k:Int)<n
  ·go_wp2_with fail
   refine(ZF ht a k wr ha ha' (by omega) hlt).mono ?_
   rintro e w1 ⟨rfl,hb1⟩
   replace hbox:=hbox.step hb1
   clear q0 q1 q2 q3 hb1
   obtain⟨q0,q1,q2,q3⟩:=id hbox
   obtain⟨x,hx⟩:∃x,le s n a k=x:=⟨_,rfl⟩
   rw[hx]
   replace hx:=Z_ hx
   cases x
   ·go_wp2
    go_ret
    exact⟨Zd (Zl (i:=k) (by omega) hx.out).symm,q0⟩
   ·go_wp2
    go_roundw
    case rel=>exact⟨k+1,by omega,by go_num,⟨ZC (p:=λb=>le s n a b) hall.out hx.out⟩,hbox⟩
    case measure=>simp[intOf];omega
  ·go_wp2
   go_ret
   exact⟨Zd (Za.2 (λi hi=>hall.out i (by omega))).symm,q0⟩
theorem Zd7{s:ZB}(ht:Tab s n)(w:World) :
  Calls prog 98 #[.agg #[.int .i64 n,.string s]] w λe w'=>e=.returned (.int .i64 (botI s n))∧Below w.heap.size w w':=by
 obtain⟨t1,t2,-⟩:=id ht
 go_enter func98,ntmps98
 go_wp2
 go_loopw [3] (λc wr=>∃k:Nat,(k:Int)<=n∧c=.int .i64 k∧Kp (∀i:Nat,i<k->pBot s n i=false)∧Box2 w wr (.int .i64 n) (.string s)) (λc _=>n.toNat-(intOf c).toNat)
 case atStart=>exact⟨0,by omega,rfl,⟨λi hi=>absurd hi (by omega)⟩,Box2.mk' w _ _ _⟩
 case round=>
  obtain⟨k,hk,rfl,hall,hbox⟩:=hrel
  obtain⟨q0,q1,q2,q3⟩:=id hbox
  by_cases hlt:(k:Int)<n
  ·go_wp2_with fail
   refine(ZhO ht k wr (by omega) hlt).mono ?_
   rintro e w1 ⟨rfl,hb1⟩
   replace hbox:=hbox.step hb1
   clear q0 q1 q2 q3 hb1
   obtain⟨q0,q1,q2,q3⟩:=id hbox
   obtain⟨x,hx⟩:∃x,pBot s n k=x:=⟨_,rfl⟩
   rw[hx]
   replace hx:=Z_ hx
   cases x
   ·go_wp2
    go_roundw
    case rel=>exact⟨k+1,by omega,by go_num,⟨ZbZ (p:=pBot s n) hall.out hx.out⟩,hbox⟩
    case measure=>simp[intOf];omega
   ·go_wp2
    go_ret
    exact⟨ZR (by unfold botI;rw[Zaq (i:=k) (by omega) hall.out hx.out];rfl),q0⟩
  ·go_wp2
   go_ret
   exact⟨ZR (by unfold botI;rw[ZaN (λi hi=>hall.out i (by omega))];rfl),q0⟩
def setV(m:Nat->Bool):List Value:=[.bool (m 0),.bool (m 1),.bool (m 2),.bool (m 3),.bool (m 4),.bool (m 5)]
def setA(m:Nat->Bool):Value:=.agg #[.bool (m 0),.bool (m 1),.bool (m 2),.bool (m 3),.bool (m 4),.bool (m 5)]
theorem own6s(w:World)(v0 v1 v2 v3 v4 v5:Value)(t:TypeId):Own (w.alloc (.cells #[v0,v1,v2,v3,v4,v5] t)) w.heap.size [v0,v1,v2,v3,v4,v5]:=by
 refine⟨by simp,?_,?_⟩
 ·intro i v hv
  have hi:i<6:=by have:=(List.getElem?_eq_some_iff.1 hv).1;simpa using this
  have e:(w.alloc (.cells #[v0,v1,v2,v3,v4,v5] t)).cell? ⟨w.heap.size,i,none⟩=([v0,v1,v2,v3,v4,v5]:List Value)[i]?:=by
   match i,hi with
   | 0,_=>simp[go_sem]
   | 1,_=>simp[go_sem]
   | 2,_=>simp[go_sem]
   | 3,_=>simp[go_sem]
   | 4,_=>simp[go_sem]
   | 5,_=>simp[go_sem]
  rw[e]
  exact hv
 ·intro i v hv
  have hi:i<6:=by have:=(List.getElem?_eq_some_iff.1 hv).1;simpa using this
  match i,hi with
  | 0,_=>simp[go_sem]
  | 1,_=>simp[go_sem]
  | 2,_=>simp[go_sem]
  | 3,_=>simp[go_sem]
  | 4,_=>simp[go_sem]
  | 5,_=>simp[go_sem]
theorem Zp1(m:Nat->Bool){l:Nat}(h:l<6):(setV m)[l]?=some (.bool (m l)):=by
 match l,h with
 | 0,_=>rfl
 | 1,_=>rfl
 | 2,_=>rfl
 | 3,_=>rfl
 | 4,_=>rfl
 | 5,_=>rfl
theorem Ze6(g l:Nat)(m:Nat->Bool)(w:World)(W:Own w g (setV m))(hl:l<6) :
  Calls prog 99 #[.pointer (some ⟨g,0,none⟩),.int .i64 l] w λe w'=>e=.returned (.bool (m l))∧w'=w:=by
 have hc:=W.c l _ (Zp1 m hl)
 have hl2:(l:Int)<6:=by omega
 clear W
 generalize m l=x at *
 go_enter func99,ntmps99
 go_wp2
 go_ret
 exact⟨by simp,rfl⟩
structure ZqZ(w wr:World)(tb sb:Nat)(n:Int)(T:ZB)(m:Nat->Bool):Prop where
 b:Below w.heap.size w wr
 t:Own wr tb [.int .i64 n,.string T]
 s:Own wr sb (setV m)
theorem ZqZ.step{tb sb:Nat}{m:Nat->Bool}(h:ZqZ w wr tb sb n T m)(hb:Below wr.heap.size wr w1):ZqZ w w1 tb sb n T m:=
 ⟨h.b.trans (hb.mono h.b.size),h.t.step hb,h.s.step hb⟩
theorem ZiY(ht:Tab T n)(hp:ZaY T n=true)(H:Zam T n)(m:Nat->Bool)(w:World) :
  Calls prog 44 #[.agg #[.int .i64 n,.string T],setA m] w λe w'=>e=.returned (.int .i64 (jset T n m n.toNat))∧Below w.heap.size w w':=by
 have n6:n<=6:=ht.2
 have n1:1<=n:=ht.1
 have hJ:∀k:Nat,(k:Int)<=n->Lv n (jset T n m k):=λk hk=>(ZgS H m k hk).1
 have hbot:jset T n m 0=botI T n:=rfl
 replace hp:=Z_ hp
 replace hJ:=Z_ hJ
 unfold setA
 go_enter func44,ntmps44
 go_wp2_with fail
 obtain⟨w0,hw0⟩:∃w0,(w.alloc (.cells #[.int .i64 n,.string T] 54)).alloc (.cells #[.bool (m 0),.bool (m 1),.bool (m 2),.bool (m 3),.bool (m 4),.bool (m 5)] 107)=w0:=⟨_,rfl⟩
 have A0:ZqZ w w0 w.heap.size (w.heap.size+1) n T m:=by
  rw[<-hw0]
  have b0:Below w.heap.size w (w.alloc (.cells #[.int .i64 n,.string T] 54)):=(Qh _ _).alloc (Qb _) _
  refine⟨b0.alloc (by simp) _,(Own.new2 w _ _ _).alloc _,?_⟩
  have:=own6s (w.alloc (.cells #[.int .i64 n,.string T] 54)) (.bool (m 0)) (.bool (m 1)) (.bool (m 2)) (.bool (m 3)) (.bool (m 4)) (.bool (m 5)) 107
  rw[show (w.alloc (.cells #[.int .i64 n,.string T] 54)).heap.size=w.heap.size+1 from by simp]at this
  exact this
 have hB:=λW=>Zd7 ht W
 replace hB:=Z_ hB
 replace A0:=Z_ A0
 rw[hw0]
 refine(hB.out w0).mono ?_
 rintro e w1 ⟨rfl,b1⟩
 have A1:=A0.out.step b1
 clear b1 A0 hw0 hB
 go_wp2_with fail
 go_loopw [5,6] (λc d wr=>∃k:Nat,(k:Int)<=n∧c=.int .i64 (jset T n m k)∧d=.int .i64 k∧ZqZ w wr w.heap.size (w.heap.size+1) n T m) (λ_ d _=>n.toNat-(intOf d).toNat)
 case atStart=>exact⟨0,by omega,rfl,rfl,A1⟩
 case round=>
  obtain⟨k,hk,rfl,rfl,A⟩:=hrel
  have q0:=A.t.c 0 _ rfl
  have q1:=A.t.c 1 _ rfl
  by_cases hlt:(k:Int)<n
  ·have hH:=Ze6 (w.heap.size+1) k m wr A.s (by omega)
   have hJn:=λW=>ZeM ht (jset T n m k) k W (hJ.out k hk).1 (hJ.out k hk).2 (by omega) hlt
   have e1:(Zcm T n (jset T n m k) k).getD 0=jn T n (jset T n m k) k:=by unfold jn;rw[Zdr hp.out]
   rw[e1]at hJn
   obtain⟨x,hx⟩:∃x,m k=x:=⟨_,rfl⟩
   rw[hx]at hH
   have hnext:jset T n m (k+1)=if x=true then jn T n (jset T n m k) k else jset T n m k:=by rw[<-hx];rfl
   generalize jn T n (jset T n m k) k=y at *
   generalize jset T n m k=z at *
   generalize (Zcm T n z k).isSome=u at *
   replace hH:=Z_ hH
   replace hJn:=Z_ hJn
   replace hnext:=Z_ hnext
   replace A:=Z_ A
   clear A1 hJ e1 hx
   go_wp2_with fail
   refine hH.out.mono ?_
   rintro e w2 ⟨rfl,hw2⟩
   have hw3:=hw2.symm
   clear hw2
   subst hw3
   cases x
   ·go_wp2_with fail
    go_roundw
    case rel=>exact⟨k+1,by omega,by rw[hnext.out];rfl,by go_num,A.out⟩
    case measure=>simp[intOf];omega
   ·go_wp2_with fail
    refine(hJn.out _).mono ?_
    rintro e w3 ⟨rfl,b3⟩
    have A3:=A.out.step b3
    clear b3 A q0 q1
    go_wp2_with fail
    go_roundw
    case rel=>exact⟨k+1,by omega,by rw[hnext.out];rfl,by go_num,A3⟩
    case measure=>simp[intOf];omega
  ·have hkn:Kp (k=n.toNat):=⟨by omega⟩
   have A':Kp _:=⟨A⟩
   clear A A1
   go_wp2
   go_ret
   exact⟨ZR (by rw[hkn.out]),A'.out.b⟩
theorem Zgd(ht:Tab T n)(m:Nat->Bool)(c:Int)(hc:Lv n c)(w:World) :
  Calls prog 102 #[setA m,.agg #[.int .i64 n,.string T],.int .i64 c] w λe w'=>e=.returned (.bool (lowF T n m c))∧Below w.heap.size w w':=by
 have n6:n<=6:=ht.2
 have n1:1<=n:=ht.1
 have hB:=λ(k:Nat) (hk:(k:Int)<n) W=>ZF ht c k W hc.1 hc.2 (by omega) hk
 replace hB:=Z_ hB
 unfold setA
 have A1:ZqZ w ((w.alloc (.cells #[.bool (m 0),.bool (m 1),.bool (m 2),.bool (m 3),.bool (m 4),.bool (m 5)] 107)).alloc (.cells #[.int .i64 n,.string T] 54)) (w.heap.size+1) w.heap.size n T m:=by
  have b0:Below w.heap.size w (w.alloc (.cells #[.bool (m 0),.bool (m 1),.bool (m 2),.bool (m 3),.bool (m 4),.bool (m 5)] 107)):=(Qh _ _).alloc (Qb _) _
  refine⟨b0.alloc (by simp) _,?_,(own6s w _ _ _ _ _ _ _).alloc _⟩
  have:=Own.new2 (w.alloc (.cells #[.bool (m 0),.bool (m 1),.bool (m 2),.bool (m 3),.bool (m 4),.bool (m 5)] 107)) (.int .i64 n) (.string T) 54
  rw[show (w.alloc (.cells #[.bool (m 0),.bool (m 1),.bool (m 2),.bool (m 3),.bool (m 4),.bool (m 5)] 107)).heap.size=w.heap.size+1 from by simp]at this
  exact this
 replace A1:=Z_ A1
 go_enter func102,ntmps102
 go_wp2_with fail
 go_loopw [7] (λd wr=>∃k:Nat,(k:Int)<=n∧d=.int .i64 k∧Kp (∀j:Nat,j<k->(!(m (j:Int).toNat)||le T n c j)=true)∧ZqZ w wr (w.heap.size+1) w.heap.size n T m) (λd _=>n.toNat-(intOf d).toNat)
 case atStart=>exact⟨0,by omega,rfl,⟨λi hi=>absurd hi (by omega)⟩,A1.out⟩
 case round=>
  obtain⟨k,hk,rfl,hall,A⟩:=hrel
  have q0:=A.t.c 0 _ rfl
  have q1:=A.t.c 1 _ rfl
  by_cases hlt:(k:Int)<n
  ·have hH:=Ze6 w.heap.size k m wr A.s (by omega)
   have hBk:=hB.out k hlt
   obtain⟨x,hx⟩:∃x,m k=x:=⟨_,rfl⟩
   obtain⟨y,hy⟩:∃y,le T n c k=y:=⟨_,rfl⟩
   rw[hx]at hH
   rw[hy]at hBk
   replace hH:=Z_ hH
   replace hBk:=Z_ hBk
   replace hx:=Z_ hx
   replace hy:=Z_ hy
   replace A:=Z_ A
   clear A1 hB
   go_wp2_with fail
   refine hH.out.mono ?_
   rintro e w2 ⟨rfl,hw2⟩
   have hw3:=hw2.symm
   clear hw2
   subst hw3
   cases x
   ·go_wp2_with fail
    go_roundw
    case rel=>exact⟨k+1,by omega,by go_num,⟨ZC (p:=λj=>!(m j.toNat)||le T n c j) hall.out (by rw[QC,hx.out];rfl)⟩,A.out⟩
    case measure=>simp[intOf];omega
   ·go_wp2_with fail
    refine(hBk.out _).mono ?_
    rintro e w3 ⟨rfl,b3⟩
    have A3:Kp _:=⟨A.out.step b3⟩
    clear b3 A q0 q1
    cases y
    ·go_wp2
     go_ret
     refine⟨Zd ?_,A3.out.b⟩
     unfold lowF
     rw[Zl (i:=k) (by omega) (by rw[QC,hx.out,hy.out];rfl)]
     rfl
    ·go_wp2_with fail
     go_roundw
     case rel=>exact⟨k+1,by omega,by go_num,⟨ZC (p:=λj=>!(m j.toNat)||le T n c j) hall.out (by rw[hy.out,Bool.or_true])⟩,A3.out⟩
     case measure=>simp[intOf];omega
  ·replace A:=Z_ A
   clear A1 hB
   go_wp2
   go_ret
   refine⟨Zd ?_,A.out.b⟩
   unfold lowF
   rw[Za.2 (λi hi=>hall.out i (by omega))]
   rfl
theorem Zn6{e:TypeId}{l:List Int}(h:w.ownsRow B e 1 v l.length (l.map (Value.int .i64))){i:Nat}{x:Int}(hx:l[i]?=some x):∃g c,v=.slice (some ⟨g,0,none⟩) l.length c∧g<w.heap.size∧w.cell? ⟨g,i,none⟩=some (.int .i64 x):=by
 have hi:i<l.length:=(Ql.1 hx).1
 obtain⟨g,c,hS⟩:∃g c,v=.slice (some ⟨g,0,none⟩) l.length c:=by
  rcases h.2 with h|⟨g,cap,cur,h,_⟩
  ·omega
  ·exact⟨g,cap,h⟩
 rw[hS]at h
 refine⟨g,c,hS,(h.lt g rfl).2,?_⟩
 rw[h.cellAt i (by omega),Ui,hx]
 rfl
structure Zq0(w wr:World)(n:Int)(T:ZB)(x:Sq):Prop where
 b:Below w.heap.size w wr
 s:Own wr w.heap.size (stV x)
 t:Own wr (w.heap.size+1) [.int .i64 n,.string T]
theorem Zq0.step{x:Sq}(h:Zq0 w wr n T x)(hb:Below wr.heap.size wr w1):Zq0 w w1 n T x:=
 ⟨h.b.trans (hb.mono h.b.size),h.s.step hb,h.t.step hb⟩
theorem Zq0.new(w:World)(n:Int)(T:ZB)(x:Sq)(t1 t2:TypeId) :
  Zq0 w ((w.alloc (.cells #[.int .i64 x.k,.int .i64 x.pl,.int .i64 x.ou,.int .i64 x.ta,.bool (x.rd 0),.bool (x.rd 1),.bool (x.rd 2),.bool (x.rd 3),.bool (x.rd 4),.bool (x.rd 5),.bool (x.tp 0),.bool (x.tp 1),.bool (x.tp 2),.bool (x.tp 3),.bool (x.tp 4),.bool (x.tp 5)] t1)).alloc (.cells #[.int .i64 n,.string T] t2)) n T x:=by
 have o:=own16 w x t1
 have b0:Below w.heap.size w (w.alloc (.cells #[.int .i64 x.k,.int .i64 x.pl,.int .i64 x.ou,.int .i64 x.ta,.bool (x.rd 0),.bool (x.rd 1),.bool (x.rd 2),.bool (x.rd 3),.bool (x.rd 4),.bool (x.rd 5),.bool (x.tp 0),.bool (x.tp 1),.bool (x.tp 2),.bool (x.tp 3),.bool (x.tp 4),.bool (x.tp 5)] t1)):=(Qh _ _).alloc (Qb _) _
 have hs:(w.alloc (.cells #[.int .i64 x.k,.int .i64 x.pl,.int .i64 x.ou,.int .i64 x.ta,.bool (x.rd 0),.bool (x.rd 1),.bool (x.rd 2),.bool (x.rd 3),.bool (x.rd 4),.bool (x.rd 5),.bool (x.tp 0),.bool (x.tp 1),.bool (x.tp 2),.bool (x.tp 3),.bool (x.tp 4),.bool (x.tp 5)] t1)).heap.size=w.heap.size+1:=by simp
 generalize w.alloc (.cells #[.int .i64 x.k,.int .i64 x.pl,.int .i64 x.ou,.int .i64 x.ta,.bool (x.rd 0),.bool (x.rd 1),.bool (x.rd 2),.bool (x.rd 3),.bool (x.rd 4),.bool (x.rd 5),.bool (x.tp 0),.bool (x.tp 1),.bool (x.tp 2),.bool (x.tp 3),.bool (x.tp 4),.bool (x.tp 5)] t1)=w1 at *
 refine⟨b0.alloc (by omega) _,o.alloc _,?_⟩
 have:=Own.new2 w1 (.int .i64 n) (.string T) t2
 rw[hs]at this
 exact this
theorem Zp2(ht:Tab T n)(x:Sq)(inn:List Int)(v:Value)(B:Nat)(w:World)(hI:w.ownsRow B 3 1 v inn.length (inn.map (Value.int .i64)))(hl:inn.length<=100000) :
  Calls prog 43 #[stA x,v,.agg #[.int .i64 n,.string T]] w λe w'=>e=.returned (.int .i64 (ctxF T n inn x.ou))∧Below w.heap.size w w':=by
 have A:=Zq0.new w n T x 109 54
 have hB:=λW=>Zd7 ht W
 replace hB:=Z_ hB
 obtain⟨p1,c1,hv⟩:=Zb hI
 unfold stA
 by_cases h0:x.ou<0
 ·have hc:ctxF T n inn x.ou=botI T n:=if_pos (.inl h0)
  rw[hc]
  subst hv
  have h0b:(x.ou<0)=True:=by simp[h0]
  clear hI hc
  generalize inn.length=m at *
  replace A:=Z_ A
  go_enter func43,ntmps43
  go_wp2_with fail
  refine(hB.out _).mono ?_
  rintro e w1 ⟨rfl,b1⟩
  have A1:Kp _:=⟨A.out.step b1⟩
  clear b1 A hB
  go_wp2
  go_ret
  exact⟨rfl,A1.out.b⟩
 ·by_cases h1:(inn.length:Int)<=x.ou
  ·have hc:ctxF T n inn x.ou=botI T n:=if_pos (.inr h1)
   rw[hc]
   subst hv
   clear hI hc
   generalize inn.length=m at *
   replace A:=Z_ A
   go_enter func43,ntmps43
   go_wp2_with fail
   refine(hB.out _).mono ?_
   rintro e w1 ⟨rfl,b1⟩
   have A1:Kp _:=⟨A.out.step b1⟩
   clear b1 A hB
   go_wp2
   go_ret
   exact⟨rfl,A1.out.b⟩
  ·obtain⟨i,hi⟩:∃i:Nat,x.ou=i:=⟨x.ou.toNat,by omega⟩
   have hil:i<inn.length:=by omega
   have hc:ctxF T n inn x.ou=inn[i]:=by
    unfold ctxF
    rw[if_neg (by omega),hi,QC,Qs,Qn hil]
    rfl
   rw[hc]
   obtain⟨g,cap,hv2,hg,hcell⟩:=Zn6 hI (Qn hil)
   subst hv2
   clear hI hc hv
   have hi0:(0:Int)<=x.ou:=by omega
   have him:(i:Int)<(inn.length:Int):=by omega
   generalize inn[i]=y at *
   generalize inn.length=m at *
   replace A:=Z_ A
   rw[hi]
   rw[hi]at A
   clear h0 h1 hi hi0
   go_enter func43,ntmps43
   go_wp2
   go_ret
   exact⟨rfl,A.out.b⟩
theorem ZkZ(ht:Tab T n)(x:Sq)(c v:Int)(hc:Lv n c)(hv:Lv n v)(hta:x.k=1∨x.k=2->Lv n x.ta)(w:World) :
  Calls prog 46 #[stA x,.agg #[.int .i64 n,.string T],.int .i64 c,.int .i64 v] w λe w'=>e=.returned (.bool (Zf1 T n x c v))∧Below w.heap.size w w':=by
 have A:=Zq0.new w n T x 109 54
 have hLc:=λW=>Zgd ht x.tp c hc W
 have hLv:=λW=>Zgd ht x.tp v hv W
 unfold setA at hLc hLv
 unfold stA
 have a4:=A.t.c 0 _ rfl
 have a5:=A.t.c 1 _ rfl
 replace A:=Z_ A
 replace hLc:=Z_ hLc
 replace hLv:=Z_ hLv
 by_cases h12:x.k=1∨x.k=2
 ·have ha:=hta h12
  have hB:=λW=>ZF ht v x.ta W hv.1 hv.2 ha.1 ha.2
  have hk:Zf1 T n x c v=(!(le T n v x.ta)||lowF T n x.tp c):=if_pos h12
  rw[hk]
  obtain⟨y,hy⟩:∃y,le T n v x.ta=y:=⟨_,rfl⟩
  rw[hy]at hB ⊢
  generalize lowF T n x.tp c=z at *
  replace hB:=Z_ hB
  clear hta hk hy hLv a4 a5
  have hkk:x.k=1∨x.k=2:=h12
  rcases hkk with h1|h2
  ·rw[h1]at A ⊢
   clear h12 h1
   go_enter func46,ntmps46
   go_wp2_with fail
   refine(hB.out _).mono ?_
   rintro e w1 ⟨rfl,b1⟩
   have A1:Kp _:=⟨A.out.step b1⟩
   have c0:=A1.out.s.c 10 _ rfl
   have c1:=A1.out.s.c 11 _ rfl
   have c2:=A1.out.s.c 12 _ rfl
   have c3:=A1.out.s.c 13 _ rfl
   have c4:=A1.out.s.c 14 _ rfl
   have c5:=A1.out.s.c 15 _ rfl
   have e0:=A1.out.t.c 0 _ rfl
   have e1:=A1.out.t.c 1 _ rfl
   clear b1 A hB
   cases y
   ·go_wp2
    go_ret
    exact⟨by simp,A1.out.b⟩
   ·go_wp2_with fail
    refine(hLc.out _).mono ?_
    rintro e w2 ⟨rfl,b2⟩
    have A2:Kp _:=⟨A1.out.step b2⟩
    clear b2 A1 c0 c1 c2 c3 c4 c5 e0 e1
    go_wp2
    go_ret
    exact⟨by simp,A2.out.b⟩
  ·rw[h2]at A ⊢
   clear h12 h2
   go_enter func46,ntmps46
   go_wp2_with fail
   refine(hB.out _).mono ?_
   rintro e w1 ⟨rfl,b1⟩
   have A1:Kp _:=⟨A.out.step b1⟩
   have c0:=A1.out.s.c 10 _ rfl
   have c1:=A1.out.s.c 11 _ rfl
   have c2:=A1.out.s.c 12 _ rfl
   have c3:=A1.out.s.c 13 _ rfl
   have c4:=A1.out.s.c 14 _ rfl
   have c5:=A1.out.s.c 15 _ rfl
   have e0:=A1.out.t.c 0 _ rfl
   have e1:=A1.out.t.c 1 _ rfl
   clear b1 A hB
   cases y
   ·go_wp2
    go_ret
    exact⟨by simp,A1.out.b⟩
   ·go_wp2_with fail
    refine(hLc.out _).mono ?_
    rintro e w2 ⟨rfl,b2⟩
    have A2:Kp _:=⟨A1.out.step b2⟩
    clear b2 A1 c0 c1 c2 c3 c4 c5 e0 e1
    go_wp2
    go_ret
    exact⟨by simp,A2.out.b⟩
 ·have k1:(x.k==1)=false:=Qf.2 λe=>h12 (.inl e)
  have k2:(x.k==2)=false:=Qf.2 λe=>h12 (.inr e)
  have n1:¬x.k=1:=λe=>h12 (.inl e)
  have n2:¬x.k=2:=λe=>h12 (.inr e)
  by_cases h4:x.k=4
  ·have hk:Zf1 T n x c v=lowF T n x.tp v:=by unfold Zf1;rw[if_neg h12,if_pos h4]
   rw[hk]
   generalize lowF T n x.tp v=z at *
   rw[h4]at A ⊢
   clear hta hk hLc h12 k1 k2 n1 n2 h4 a4 a5
   go_enter func46,ntmps46
   go_wp2_with fail
   refine(hLv.out _).mono ?_
   rintro e w2 ⟨rfl,b2⟩
   have A2:Kp _:=⟨A.out.step b2⟩
   clear b2 A hLv
   go_wp2
   go_ret
   exact⟨rfl,A2.out.b⟩
  ·have hk:Zf1 T n x c v=lowF T n x.tp c:=by unfold Zf1;rw[if_neg h12,if_neg h4]
   rw[hk]
   generalize lowF T n x.tp c=z at *
   have k4:(x.k==4)=false:=Qf.2 h4
   clear hta hk hLv h12 a4 a5
   go_enter func46,ntmps46
   go_wp2_with fail
   refine(hLc.out _).mono ?_
   rintro e w2 ⟨rfl,b2⟩
   have A2:Kp _:=⟨A.out.step b2⟩
   clear b2 A hLc
   go_wp2
   go_ret
   exact⟨rfl,A2.out.b⟩
theorem flat16:∀(l:List Sq) (e i:Nat) (x:Sq),l[e]?=some x->i<16->(l.flatMap stV)[e*16+i]?=(stV x)[i]?
 | [],e,i,x,h,hi=>by simp at h
 | y::l,0,i,x,h,hi=>by
  have e1:y=x:=by simpa using h
  subst e1
  rw[Uu,QD (by show 0*16+i<16;omega)]
  simp
 | y::l,e+1,i,x,h,hi=>by
  rw[Uu,QF (by show 16<=(e+1)*16+i;omega)]
  rw[show (e+1)*16+i-(stV y).length=e*16+i from by show (e+1)*16+i-16=_;omega]
  exact flat16 l e i x (by simpa using h) hi
theorem Zp3{l:List Sq}(h:w.ownsRow B 109 16 v l.length (l.flatMap stV)){k:Nat}{x:Sq}(hx:l[k]?=some x):∃g c,v=.slice (some ⟨g,0,none⟩) l.length c∧g<w.heap.size∧∀i u,(stV x)[i]?=some u->w.cell? ⟨g,k*16+i,none⟩=some u:=by
 have hi:k<l.length:=(Ql.1 hx).1
 obtain⟨g,c,hS⟩:∃g c,v=.slice (some ⟨g,0,none⟩) l.length c:=by
  rcases h.2 with h|⟨g,cap,cur,h,_⟩
  ·omega
  ·exact⟨g,cap,h⟩
 rw[hS]at h
 refine⟨g,c,hS,(h.lt g rfl).2,λi u hu=>?_⟩
 have h16:i<16:=by have:=(List.getElem?_eq_some_iff.1 hu).1;simpa [stV] using this
 rw[h.cellAt (k*16+i) (by omega),flat16 l k i x hx h16]
 exact hu
structure ZpD(w wr:World)(n:Int)(T:ZB)(B:Nat)(v:Value)(ss:List Sq)(iv:Value)(inn:List Int):Prop where
 b:Below w.heap.size w wr
 t:Own wr w.heap.size [.int .i64 n,.string T]
 r:wr.ownsRow B 109 16 v ss.length (ss.flatMap stV)
 i:wr.ownsRow (w.heap.size+1) 3 1 iv inn.length (inn.map (Value.int .i64))
 v:∀g,v.ownBlock=some g->g<w.heap.size
theorem ZpD.step{ss:List Sq}{iv:Value}(h:ZpD w wr n T B v ss iv inn)(hb:Below wr.heap.size wr w1):ZpD w w1 n T B v ss iv inn:=
 ⟨h.b.trans (hb.mono h.b.size),h.t.step hb,Zq h.r hb,Zq h.i hb,h.v⟩
theorem Zp4:(prog.info? 3).map (λi=>(i.zero,i.size,i.bytes))=some (some (.int .i64 0),1,8):=by kernel_rfl
theorem ZpD.add{w5 w3:World}{ss:List Sq}{iv v':Value}{y:Int}{o:Obj}(A:ZpD w w5 n T B v ss iv inn)(hg:(w5.alloc o).grownBy w3 iv.ownBlock)(hown:w3.ownsRow (w.heap.size+1) 3 1 v' (inn.length+1) (inn.map (Value.int .i64)++[.int .i64 y])):ZpD w w3 n T B v ss v' (inn++[y]):=by
 have A1:=A.step ((Qh _ _).alloc (Qb _) o)
 generalize w5.alloc o=w6 at *
 have hi:∀k,iv.ownBlock=some k->w.heap.size+1<=k:=λk hk=>(A.i.lt k hk).1
 have hb:∀k,k<w6.heap.size->k<=w.heap.size->w3.heap[k]?=w6.heap[k]?:=λk h1 h2=>hg.block k h1 (λe=>by have:=hi k e.symm;omega)
 have hlt:=A1.t.lt
 refine⟨A1.b.grown hg (A1.b.size) (λk hk=>by have:=hi k hk;omega),?_,?_,?_,A.v⟩
 ·refine⟨Qq hlt hg.size,λi u hu=>?_,λi u hu=>?_⟩
  ·rw[Qo (w:=w6) (hb _ hlt (Qb _))]
   exact A1.t.c i u hu
  ·rw[Qz (w:=w6) (hb _ hlt (Qb _))]
   exact A1.t.f i u hu
 ·exact ZJ A1.r (λg hgg=>hb g (by have:=(A1.r.lt g hgg).2;omega) (by have:=A.v g hgg;omega))
 ·rw[Qe,QK]
  exact hown
theorem Zrv(H:Zam T n)(hi:∀y,y∈inn->Lv n y)(ou:Int):Lv n (ctxF T n inn ou):=by
 unfold ctxF
 split
 ·exact(Zd8 H).1
 ·rename_i h
  have hl:ou.toNat<inn.length:=by omega
  rw[Qs,Qn hl]
  exact hi _ (Ua hl)
theorem Zma(ht:Tab T n)(hp:ZaY T n=true)(H:Zam T n)(ss:List Sq)(v:Value)(B:Nat)(w:World)(hR:w.ownsRow B 109 16 v ss.length (ss.flatMap stV))(hl:ss.length<=10000)
  (hta:∀x,x∈ss->(x.k=1∨x.k=2->Lv n x.ta)) (hpl:∀x,x∈ss->0<=x.pl) :
  Calls prog 18 #[.agg #[.int .i64 n,.string T],v] w λe w'=>e=.returned (.tuple #[.int .i64 (if firstF T n ss []=-1 then 0 else firstF T n ss []),.bool (firstF T n ss [] != -1)])∧Below w.heap.size w w':=by
 obtain⟨p1,c1,hv⟩:=Zb hR
 obtain⟨i0,hi0,hz0,hz1,hz2⟩:=infoParts Zp4
 obtain⟨res,hres⟩:∃r,firstF T n ss []=r:=⟨_,rfl⟩
 rw[hres]
 obtain⟨r1,hr1⟩:∃r,(if res=-1 then 0 else res)=r:=⟨_,rfl⟩
 obtain⟨r2,hr2⟩:∃r,(res != -1)=r:=⟨_,rfl⟩
 rw[hr1,hr2]
 replace hr1:=Z_ hr1
 replace hr2:=Z_ hr2
 have b0:Below w.heap.size w (w.alloc (.cells #[.int .i64 n,.string T] 54)):=(Qh _ _).alloc (Qb _) _
 have b1:=b0.alloc (b0.size) (.cells #[] 3)
 have A0:ZpD w ((w.alloc (.cells #[.int .i64 n,.string T] 54)).alloc (.cells #[] 3)) n T B v ss (.slice (some ⟨w.heap.size+1,0,none⟩) 0 0) []:=by
  refine⟨b1,(Own.new2 w _ _ _).alloc _,Zq hR b1,?_,λg hg=>(hR.lt g hg).2⟩
  refine⟨rfl,.inr ⟨w.heap.size+1,0,#[],rfl,Qb _,?_,Qb _,by unfold maxLen;omega,rfl,rfl⟩⟩
  have e0:(w.alloc (.cells #[.int .i64 n,.string T] 54)).heap.size=w.heap.size+1:=by simp
  rw[<-e0]
  exact Array.getElem?_push_size ..
 replace A0:=Z_ A0
 have hSl:(ss.length:Int)<=10000:=by omega
 subst hv
 replace hp:=Z_ hp
 replace H:=Z_ H
 replace hta:=Z_ hta
 replace hpl:=Z_ hpl
 replace hres:=Z_ hres
 clear hR b0 b1
 go_enter func18,ntmps18
 go_wp2_with fail
 go_loopw [6,7] (λiv d wr=>∃(k:Nat) (inn:List Int) (v0:Value),v0=iv∧d=.int .i64 k∧k<=ss.length∧inn.length=k∧Kp (ZpD w wr n T B (.slice p1 ss.length c1) ss v0 inn)∧Kp (∀y,y∈inn->Lv n y)∧Kp (firstF T n (ss.drop k) inn=res)) (λ_ d _=>ss.length-(intOf d).toNat)
 case atStart=>exact⟨0,[],_,rfl,rfl,Q8 _,rfl,A0,⟨λy hy=>by simp at hy⟩,⟨hres.out⟩⟩
 case round=>
  obtain⟨k,inn,v0,hv0,rfl,hk,hkl,A,hLv,hF⟩:=hrel
  subst hv0
  subst hkl
  clear A0
  have q0:=A.out.t.c 0 _ rfl
  have q1:=A.out.t.c 1 _ rfl
  have q2:=A.out.t.lt
  by_cases hlt:inn.length<ss.length
  ·have hx:ss[inn.length]?=some ss[inn.length]:=Qn hlt
   have hmem:ss[inn.length]∈ss:=Ua hlt
   have hdrop:ss.drop inn.length=ss[inn.length]::ss.drop (inn.length+1):=List.drop_eq_getElem_cons hlt
   generalize ss[inn.length]=x at *
   have hc:=Zrv H.out hLv.out x.ou
   have hj:=(ZgS H.out x.rd n.toNat (by have:=ht.1;omega)).1
   have hvv:=H.out.jin _ _ hc hj
   have hCt:=λ(W:World) (hI:W.ownsRow (w.heap.size+1) 3 1 v0 inn.length (inn.map (Value.int .i64)))=>Zp2 ht x inn v0 (w.heap.size+1) W hI (by omega)
   have hJs:=λW=>ZiY ht hp.out H.out x.rd W
   have hJn:=λW=>ZeM ht (ctxF T n inn x.ou) (jset T n x.rd n.toNat) W hc.1 hc.2 hj.1 hj.2
   have e1:(Zcm T n (ctxF T n inn x.ou) (jset T n x.rd n.toNat)).getD 0=jn T n (ctxF T n inn x.ou) (jset T n x.rd n.toNat):=by unfold jn;rw[Zdr hp.out]
   rw[e1]at hJn
   have hLk:=λW=>ZkZ ht x (ctxF T n inn x.ou) (jn T n (ctxF T n inn x.ou) (jset T n x.rd n.toNat)) hc hvv (hta.out x hmem) W
   rw[hdrop]at hF
   have hF2:=hF.out
   simp only[firstF]at hF2
   replace hF2:=Z_ hF2
   obtain⟨g,cp,hsl,hg,hcell⟩:=Zp3 A.out.r hx
   obtain⟨rfl,rfl⟩:p1=some ⟨g,0,none⟩∧c1=cp:=by
    have:=hsl
    injection this with a b c
    exact⟨a,c⟩
   have d0:wr.cell? ⟨g,inn.length*16,none⟩=some (.int .i64 x.k):=hcell 0 _ rfl
   have d1:=hcell 1 _ rfl
   have d2:=hcell 2 _ rfl
   have d3:=hcell 3 _ rfl
   have d4:=hcell 4 _ rfl
   have d5:=hcell 5 _ rfl
   have d6:=hcell 6 _ rfl
   have d7:=hcell 7 _ rfl
   have d8:=hcell 8 _ rfl
   have d9:=hcell 9 _ rfl
   have d10:=hcell 10 _ rfl
   have d11:=hcell 11 _ rfl
   have d12:=hcell 12 _ rfl
   have d13:=hcell 13 _ rfl
   have d14:=hcell 14 _ rfl
   have d15:=hcell 15 _ rfl
   have hki:(inn.length:Int)<(ss.length:Int):=by omega
   generalize jn T n (ctxF T n inn x.ou) (jset T n x.rd n.toNat)=lv at *
   generalize (Zcm T n (ctxF T n inn x.ou) (jset T n x.rd n.toNat)).isSome=ok at *
   generalize jset T n x.rd n.toNat=jr at *
   generalize ctxF T n inn x.ou=cx at *
   generalize hlk:Zf1 T n x cx lv=lk at *
   unfold stA at hCt hLk
   unfold setA at hJs
   replace hCt:=Z_ hCt
   replace hJs:=Z_ hJs
   replace hJn:=Z_ hJn
   replace hLk:=Z_ hLk
   replace hmem:=Z_ hmem
   replace hvv:=Z_ hvv
   clear hcell hsl hx hdrop hF hc hj e1 hlk
   obtain⟨pi,ci,hv0⟩:=Zb A.out.i
   subst hv0
   obtain⟨k,hkk⟩:∃k,Kp (inn.length=k):=⟨_,⟨rfl⟩⟩
   rw[hkk.out]at A hCt d0 d1 d2 d3 d4 d5 d6 d7 d8 d9 d10 d11 d12 d13 d14 d15 hki hF2
   simp only[hkk.out]
   go_wp2_with fail
   have S1:=own16 wr x 109
   have bA:Below wr.heap.size wr (wr.alloc (.cells #[.int .i64 x.k,.int .i64 x.pl,.int .i64 x.ou,.int .i64 x.ta,.bool (x.rd 0),.bool (x.rd 1),.bool (x.rd 2),.bool (x.rd 3),.bool (x.rd 4),.bool (x.rd 5),.bool (x.tp 0),.bool (x.tp 1),.bool (x.tp 2),.bool (x.tp 3),.bool (x.tp 4),.bool (x.tp 5)] 109)):=(Qh _ _).alloc (Qb _) _
   have A1:=A.out.step bA
   obtain⟨sb,hsb⟩:∃sb,Kp (wr.heap.size=sb):=⟨_,⟨rfl⟩⟩
   replace S1:=Z_ S1
   replace A1:=Z_ A1
   clear bA
   refine(hCt.out _ (by have:=A1.out.i;rw[hkk.out]at this;exact this)).mono ?_
   rintro e w2 ⟨rfl,b2⟩
   have A2:Kp _:=⟨A1.out.step b2⟩
   have S2:Kp _:=⟨S1.out.step b2⟩
   rw[hsb.out]at S2
   simp only[hsb.out]
   clear b2 A1 S1 A hsb q0 q1 q2 d0 d1 d2 d3 d4 d5 d6 d7 d8 d9 d10 d11 d12 d13 d14 d15 hg hCt
   have s0:=S2.out.c 0 _ rfl
   have s1:=S2.out.c 1 _ rfl
   have s2:=S2.out.c 2 _ rfl
   have s3:=S2.out.c 3 _ rfl
   have s4:=S2.out.c 4 _ rfl
   have s5:=S2.out.c 5 _ rfl
   have s6:=S2.out.c 6 _ rfl
   have s7:=S2.out.c 7 _ rfl
   have s8:=S2.out.c 8 _ rfl
   have s9:=S2.out.c 9 _ rfl
   have s10:=S2.out.c 10 _ rfl
   have s11:=S2.out.c 11 _ rfl
   have s12:=S2.out.c 12 _ rfl
   have s13:=S2.out.c 13 _ rfl
   have s14:=S2.out.c 14 _ rfl
   have s15:=S2.out.c 15 _ rfl
   have q0:=A2.out.t.c 0 _ rfl
   have q1:=A2.out.t.c 1 _ rfl
   have q2:=A2.out.t.lt
   have q3:=S2.out.lt
   go_wp2_with fail
   refine(hJs.out _).mono ?_
   rintro e w3 ⟨rfl,b3⟩
   have A3:Kp _:=⟨A2.out.step b3⟩
   have S3:Kp _:=⟨S2.out.step b3⟩
   clear b3 A2 S2 hJs s0 s1 s2 s3 s4 s5 s6 s7 s8 s9 s10 s11 s12 s13 s14 s15 q0 q1 q2 q3
   have s0:=S3.out.c 0 _ rfl
   have s1:=S3.out.c 1 _ rfl
   have s2:=S3.out.c 2 _ rfl
   have s3:=S3.out.c 3 _ rfl
   have s4:=S3.out.c 4 _ rfl
   have s5:=S3.out.c 5 _ rfl
   have s6:=S3.out.c 6 _ rfl
   have s7:=S3.out.c 7 _ rfl
   have s8:=S3.out.c 8 _ rfl
   have s9:=S3.out.c 9 _ rfl
   have s10:=S3.out.c 10 _ rfl
   have s11:=S3.out.c 11 _ rfl
   have s12:=S3.out.c 12 _ rfl
   have s13:=S3.out.c 13 _ rfl
   have s14:=S3.out.c 14 _ rfl
   have s15:=S3.out.c 15 _ rfl
   have q0:=A3.out.t.c 0 _ rfl
   have q1:=A3.out.t.c 1 _ rfl
   have q2:=A3.out.t.lt
   have q3:=S3.out.lt
   go_wp2_with fail
   refine(hJn.out _).mono ?_
   rintro e w4 ⟨rfl,b4⟩
   have A4:Kp _:=⟨A3.out.step b4⟩
   have S4:Kp _:=⟨S3.out.step b4⟩
   clear b4 A3 S3 hJn s0 s1 s2 s3 s4 s5 s6 s7 s8 s9 s10 s11 s12 s13 s14 s15 q0 q1 q2 q3
   have s0:=S4.out.c 0 _ rfl
   have s1:=S4.out.c 1 _ rfl
   have s2:=S4.out.c 2 _ rfl
   have s3:=S4.out.c 3 _ rfl
   have s4:=S4.out.c 4 _ rfl
   have s5:=S4.out.c 5 _ rfl
   have s6:=S4.out.c 6 _ rfl
   have s7:=S4.out.c 7 _ rfl
   have s8:=S4.out.c 8 _ rfl
   have s9:=S4.out.c 9 _ rfl
   have s10:=S4.out.c 10 _ rfl
   have s11:=S4.out.c 11 _ rfl
   have s12:=S4.out.c 12 _ rfl
   have s13:=S4.out.c 13 _ rfl
   have s14:=S4.out.c 14 _ rfl
   have s15:=S4.out.c 15 _ rfl
   have q0:=A4.out.t.c 0 _ rfl
   have q1:=A4.out.t.c 1 _ rfl
   have q2:=A4.out.t.lt
   have q3:=S4.out.lt
   go_wp2_with fail
   refine(hLk.out _).mono ?_
   rintro e w5 ⟨rfl,b5⟩
   have A5:Kp _:=⟨A4.out.step b5⟩
   have S5:Kp _:=⟨S4.out.step b5⟩
   clear b5 A4 S4 hLk s0 s1 s2 s3 s4 s5 s6 s7 s8 s9 s10 s11 s12 s13 s14 s15 q0 q1 q2 q3
   have s1:=S5.out.c 1 _ rfl
   have hF3:=hF2.out
   cases lk
   ·rw[if_neg (by simp)]at hF3
    replace hF3:=Z_ hF3
    clear hF2
    have hIr:=A5.out.i
    rw[hkk.out]at hIr
    have hB1:=A5.out.t.lt
    have hLn:Kp (∀y,y∈inn++[lv]->Lv n y):=⟨λy hy=>by
     rw[QI,QA]at hy
     rcases hy with c|c
     ·exact hLv.out y c
     ·rw[c];exact hvv.out⟩
    have hk3:k<=10000:=by omega
    replace hIr:=Z_ hIr
    clear s1 S5
    go_wp2_with (at_builtin;refine wpList_append_own_at _ rfl _ _ 69 rfl (w.heap.size+1) 3 i0 (.int .i64 0) 1 8 Tryz.underlying69 hi0 hz0 hz1 hz2 rfl (by decide) _ k (inn.map (Value.int .i64)) rfl (hIr.out.alloc _) ⟨w5.heap.size,0,none⟩ 1 1 [.int .i64 lv] rfl rfl ?a1 ?a2 ?a3 ?a4 ?a5 ?_)
    case a1=>
     intro j u hj
     match j,hj with
     | 0,hj=>simp at hj;subst hj;simp[Addr.add]
    case a2=>intro u hu;simp at hu;subst hu;rfl
    case a3=>unfold maxLen;omega
    case a4=>omega
    case a5=>simp;omega
    intro v' w6 hown hgrow _ hat
    have A6:Kp _:=⟨A5.out.add hgrow (by rw[hkk.out];exact hown)⟩
    clear hown hgrow hat A5 hIr
    go_wp2_with fail
    go_roundw
    case rel=>exact⟨k+1,inn++[lv],v',rfl,by go_num,by omega,by rw[Qe,hkk.out];rfl,A6,hLn,hF3⟩
    case measure=>simp[intOf];omega
   ·rw[if_pos rfl]at hF3
    have hpx:=hpl.out x hmem.out
    have hr:Kp ((if res=-1 then 0 else res)=x.pl∧(res != -1)=true):=⟨by
     rw[<-hF3]
     exact⟨if_neg (by omega),by rw[QO];omega⟩⟩
    clear hF3 hF2 hpx
    go_wp2
    go_ret2
    exact⟨by rw[<-hr1.out,<-hr2.out,hr.out.1,hr.out.2];rfl,A5.out.b⟩
  ·have e0:Kp (res=-1):=⟨by
    have:=hF.out
    rw[List.drop_of_length_le (by omega)]at this
    exact this.symm⟩
   have A':Kp _:=⟨A.out.b⟩
   obtain⟨pi,ci,hv0⟩:=Zb A.out.i
   subst hv0
   have hle:inn.length=ss.length:=by omega
   replace hle:=Z_ hle
   have hni:¬(inn.length:Int)<(ss.length:Int):=by omega
   clear A hF
   generalize inn.length=k at *
   go_wp2
   go_ret2
   exact⟨by rw[<-hr1.out,<-hr2.out,e0.out];rfl,A'.out⟩
end Go.Proofs.YtcnbifdlkalimabGreat
