import Derived.Test.YtcnbifdlkalimabGreatTrnF
import Derived.Test.YtcnbifdlkalimabGreatSrcB
import Derived.Test.YtcnbifdlkalimabGreatWayB
import Derived.Laws.OwnMore
/- Lemmas for the statement Means; their conditions stand in each. -/
namespace Go.Proofs.YtcnbifdlkalimabGreat
open Go.RowKit Go.Proofs.Tryz
set_option linter.unusedVariables false
set_option maxRecDepth 100000
variable{n:Int}{b o:Nat}{f:Nat->Nat->Bool}{w:World}
structure Zc4(w:World)(b o:Nat)(n:Int)(f:Nat->Nat->Bool):Prop where
 lt:b<w.heap.size
 c0:w.cell? ⟨b,o,none⟩=some (.int .i64 n)
 c:∀i j:Nat,i<6->j<6->w.cell? ⟨b,o+1+6*i+j,none⟩=some (.bool (f i j))
 f:∀k:Nat,k<37->w.frozen? ⟨b,o+k,none⟩=false
structure ZnB(w w':World)(b o:Nat):Prop where
 os:w'.os=w.os
 tape:w'.tape=w.tape
 output:w'.output=w.output
 size:w'.heap.size=w.heap.size
 block:∀k,k≠b->w'.heap[k]?=w.heap[k]?
 cell:∀k,(k<=o∨o+37<=k)->w'.cell? ⟨b,k,none⟩=w.cell? ⟨b,k,none⟩
 frozen:∀k,w'.frozen? ⟨b,k,none⟩=w.frozen? ⟨b,k,none⟩
theorem ZnB.refl(w:World)(b o:Nat):ZnB w w b o:=⟨rfl,rfl,rfl,rfl,λ_ _=>rfl,λ_ _=>rfl,λ_=>rfl⟩
theorem ZnB.set{x:World}{k:Nat}(h:ZnB x w b o)(hk:o<k∧k<o+37)(v:Value):ZnB x (w.setCell ⟨b,k,none⟩ v) b o:=
 ⟨h.os,h.tape,h.output,by simpa using h.size,λi hi=>(Below.heap_setCell w ⟨b,k,none⟩ _ i hi).trans (h.block i hi),λi hi=>(coff _ _ _ _ _ (by omega)).trans (h.cell i hi),λi=>(World.frozen?_setCell ..).trans (h.frozen i)⟩
theorem Zc4.set{i j:Nat}(H:Zc4 w b o n f)(hi:i<6)(hj:j<6)(v:Bool):Zc4 (w.setCell ⟨b,o+1+6*i+j,none⟩ (.bool v)) b o n (λx y=>if x=i∧y=j then v else f x y):=by
 refine⟨by simpa using H.lt,(coff _ _ _ _ _ (by omega)).trans H.c0,λx y hx hy=>?_,λk hk=>by rw[World.frozen?_setCell];exact H.f k hk⟩
 by_cases e:x=i∧y=j
 ·obtain⟨rfl,rfl⟩:=e
  rw[Qk _ _ _ (H.c x y hx hy),if_pos ⟨rfl,rfl⟩]
 ·rw[coff _ _ _ _ _ (by omega),if_neg e]
  exact H.c x y hx hy
theorem Zc4.congr{g:Nat->Nat->Bool}(H:Zc4 w b o n f)(h:∀i j,i<6->j<6->f i j=g i j):Zc4 w b o n g:=
 ⟨H.lt,H.c0,λi j hi hj=>by rw[<-h i j hi hj];exact H.c i j hi hj,H.f⟩
theorem Zc4.step{w':World}(H:Zc4 w b o n f)(hb:Below w.heap.size w w'):Zc4 w' b o n f:=
 ⟨Qq H.lt hb.size,by rw[hb.cell (p:=⟨b,o,none⟩) H.lt];exact H.c0,λi j hi hj=>by rw[hb.cell (p:=⟨b,o+1+6*i+j,none⟩) H.lt];exact H.c i j hi hj,λk hk=>by rw[hb.frozen (p:=⟨b,o+k,none⟩) H.lt];exact H.f k hk⟩
set_option maxHeartbeats 6400000
theorem ZgN(b o i j:Nat)(n:Int)(f:Nat->Nat->Bool)(w:World)(H:Zc4 w b o n f)(hi:i<6)(hj:j<6) :
  Calls prog 96 #[.pointer (some ⟨b,o,none⟩),.int .i64 i,.int .i64 j] w λe w'=>e=.returned (.bool (f i j))∧w'=w:=by
 have hc:=H.c i j hi hj
 have hi2:(i:Int)<6:=by omega
 have hj2:(j:Int)<6:=by omega
 generalize f i j=v at *
 rw[show o+1+6*i+j=o+1+i*6+j from by omega]at hc
 clear H
 go_enter func96,ntmps96
 go_wp2
 go_ret
 exact⟨rfl,rfl⟩
def ZfO(f:Nat->Nat->Bool)(a c i j:Nat):Nat->Nat->Bool:=λx y=>if x<i∨(x=i∧y<j) then f x y||(f x a&&f c y) else f x y
theorem Zrw(f:Nat->Nat->Bool)(a c i j x:Nat):ZfO f a c i j x a=f x a:=by
 unfold ZfO
 split
 ·cases f x a<;>simp
 ·rfl
theorem Zrx(f:Nat->Nat->Bool)(a c i j y:Nat):ZfO f a c i j c y=f c y:=by
 unfold ZfO
 split
 ·cases f c y<;>simp
 ·rfl
theorem ZhT(f:Nat->Nat->Bool)(a c i j:Nat):(λx y=>if x=i∧y=j then f i j||(f i a&&f c j) else ZfO f a c i j x y)=ZfO f a c i (j+1):=by
 funext x y
 unfold ZfO
 by_cases e:x=i∧y=j
 ·obtain⟨rfl,rfl⟩:=e
  rw[if_pos ⟨rfl,rfl⟩,if_pos (by omega)]
 ·rw[if_neg e]
  by_cases e2:x<i∨(x=i∧y<j)
  ·rw[if_pos e2,if_pos (by omega)]
  ·rw[if_neg e2,if_neg (by omega)]
theorem Zp6(f:Nat->Nat->Bool)(a c i j:Nat):ZfO f a c i j i j=f i j:=by
 unfold ZfO
 rw[if_neg (by omega)]
theorem Zn8(f:Nat->Nat->Bool)(a c i:Nat):∀x y,x<6->y<6->ZfO f a c i 6 x y=ZfO f a c (i+1) 0 x y:=by
 intro x y _ hy
 unfold ZfO
 by_cases e:x<i∨(x=i∧y<6)
 ·rw[if_pos e,if_pos (by omega)]
 ·rw[if_neg e,if_neg (by omega)]
theorem Zmk(f:Nat->Nat->Bool)(a c:Nat):ZfO f a c 0 0=f:=by
 funext x y
 unfold ZfO
 rw[if_neg (by omega)]
theorem Zn9(f:Nat->Nat->Bool)(a c:Nat):∀x y,x<6->y<6->ZfO f a c 6 0 x y=(f x y||(f x a&&f c y)):=by
 intro x y hx _
 unfold ZfO
 rw[if_pos (by omega)]
theorem Zoa(b o a c:Nat)(n:Int)(f:Nat->Nat->Bool)(w:World)(H:Zc4 w b o n f)(ha:(a:Int)<n)(hc:(c:Int)<n)(hn:n<=6) :
  Calls prog 91 #[.pointer (some ⟨b,o,none⟩),.int .i64 a,.int .i64 c] w λe w'=>e=.returned (.tuple #[])∧Zc4 w' b o n (λx y=>f x y||(f x a&&f c y))∧ZnB w w' b o:=by
 have c0:=H.c0
 have H0:Kp (Zc4 w b o n (ZfO f a c 0 0)):=⟨by rw[Zmk];exact H⟩
 have ha6:a<6:=by omega
 have hc6:c<6:=by omega
 clear H
 go_enter func91,ntmps91
 go_wp2_with fail
 go_loopw [30] (λiv wr=>∃i:Nat,i<=6∧iv=.int .i64 i∧Kp (Zc4 wr b o n (ZfO f a c i 0))∧Kp (ZnB w wr b o)) (λiv _=>6-(intOf iv).toNat)
 case atStart=>exact⟨0,by omega,rfl,H0,⟨ZnB.refl _ _ _⟩⟩
 case round=>
  clear H0 c0
  obtain⟨i,hi,rfl,hA,hT⟩:=hrel
  by_cases hi6:i<6
  ·have hii:(i:Int)<6:=by omega
   obtain⟨wq,hwq⟩:∃x,x=wr:=⟨_,rfl⟩
   go_wp2_with fail
   go_loopw [33] (λjv wr=>∃j:Nat,j<=6∧jv=.int .i64 j∧Kp (Zc4 wr b o n (ZfO f a c i j))∧Kp (ZnB w wr b o)) (λjv _=>6-(intOf jv).toNat)
   case atStart=>exact⟨0,by omega,rfl,hA,hT⟩
   case round=>
    clear hA hT hwq
    obtain⟨j,hj,rfl,hA,hT⟩:=hrel
    by_cases hj6:j<6
    ·have hjj:(j:Int)<6:=by omega
     have h1:=ZgN b o i a n _ wr hA.out hi6 ha6
     rw[Zrw]at h1
     have h2:=ZgN b o c j n _ wr hA.out hc6 hj6
     rw[Zrx]at h2
     have cij:=hA.out.c i j hi6 hj6
     have fij:=hA.out.f (1+6*i+j) (by omega)
     rw[show o+(1+6*i+j)=o+1+i*6+j from by omega]at fij
     rw[show o+1+6*i+j=o+1+i*6+j from by omega]at cij
     replace h1:=Z_ h1
     replace h2:=Z_ h2
     by_cases hq:(f i a&&f c j)=true
     ·have A2:Kp (Zc4 (wr.setCell ⟨b,o+1+i*6+j,none⟩ (.bool true)) b o n (ZfO f a c i (j+1))):=⟨by
       have:=hA.out.set hi6 hj6 true
       rw[show o+1+6*i+j=o+1+i*6+j from by omega]at this
       rw[<-ZhT,hq,Bool.or_true]
       exact this⟩
      have T2:Kp (ZnB w (wr.setCell ⟨b,o+1+i*6+j,none⟩ (.bool true)) b o):=⟨hT.out.set (by omega) _⟩
      rw[Qr]at hq
      rw[hq.1]at h1
      rw[hq.2]at h2
      clear hA hT hq
      go_wp2_with fail
      refine h1.out.mono ?_
      rintro e w2 ⟨rfl,hw⟩
      subst hw
      go_wp2_with fail
      refine h2.out.mono ?_
      rintro e w2 ⟨rfl,hw⟩
      subst hw
      go_wp2_with fail
      go_roundw
      case rel=>exact⟨j+1,by omega,by go_num,A2,T2⟩
      case measure=>simp[intOf];omega
     ·have hq2:(f i a&&f c j)=false:=by simpa using hq
      have A2:Kp (Zc4 wr b o n (ZfO f a c i (j+1))):=⟨by
       rw[<-ZhT,hq2,Bool.or_false]
       refine hA.out.congr λx y _ _=>?_
       by_cases e:x=i∧y=j
       ·obtain⟨rfl,rfl⟩:=e
        rw[if_pos ⟨rfl,rfl⟩,Zp6]
       ·rw[if_neg e]⟩
      clear hA
      cases h3:f i a with
      | false=>
       rw[h3]at h1
       clear hq hq2
       go_wp2_with fail
       refine h1.out.mono ?_
       rintro e w2 ⟨rfl,hw⟩
       subst hw
       go_wp2_with fail
       go_roundw
       case rel=>exact⟨j+1,by omega,by go_num,A2,hT⟩
       case measure=>simp[intOf];omega
      | true=>
       rw[h3]at h1 hq2
       rw[show f c j=false from by simpa using hq2]at h2
       clear hq hq2
       go_wp2_with fail
       refine h1.out.mono ?_
       rintro e w2 ⟨rfl,hw⟩
       subst hw
       go_wp2_with fail
       refine h2.out.mono ?_
       rintro e w2 ⟨rfl,hw⟩
       subst hw
       go_wp2_with fail
       go_roundw
       case rel=>exact⟨j+1,by omega,by go_num,A2,hT⟩
       case measure=>simp[intOf];omega
    ·have hje:j=6:=by omega
     subst hje
     have A2:Kp (Zc4 wr b o n (ZfO f a c (i+1) 0)):=⟨hA.out.congr (Zn8 f a c i)⟩
     clear hA hj6
     go_wp2_with fail
     go_roundw
     case rel=>exact⟨i+1,by omega,by go_num,A2,hT⟩
     case measure=>simp[intOf];omega
  ·have hie:i=6:=by omega
   subst hie
   have A2:Kp (Zc4 wr b o n (λx y=>f x y||(f x a&&f c y))):=⟨hA.out.congr (Zn9 f a c)⟩
   clear hA hi6
   go_wp2_with fail
   first|go_end0|refine Qi (Qp rfl _ _ _) rfl ?_
   exact⟨rfl,A2.out,hT.out⟩
def ZN(n:Int)(f:Nat->Nat->Bool)(k:Nat):Value:=if k=0 then .int .i64 n else .bool (f ((k-1)/6) ((k-1)%6))
theorem Zml(n:Int)(f:Nat->Nat->Bool)(k:Nat):(ZN n f k).oneCell'=true:=by unfold ZN;split<;>rfl
theorem ZsT(w:World)(o1 o2:Obj):((w.alloc o1).alloc o2).heap[w.heap.size]?=some o1:=by
 rw[Below.heap_alloc (w.alloc o1) o2 w.heap.size (by simp)]
 exact heap_alloc_new w o1
theorem ZsM(w:World)(o1 o2:Obj):((w.alloc o1).alloc o2).heap[w.heap.size+1]?=some o2:=by
 have:=heap_alloc_new (w.alloc o1) o2
 simpa using this
theorem Zc4.of_cells(hl:b<w.heap.size)(h:∀j,j<37->w.cell? ⟨b,o+j,none⟩=some (ZN n f j))(hf:∀j,j<37->w.frozen? ⟨b,o+j,none⟩=false):Zc4 w b o n f:=by
 refine⟨hl,by have:=h 0 (by omega);simpa [ZN] using this,λi j hi hj=>?_,hf⟩
 have:=h (1+6*i+j) (by omega)
 rw[show o+(1+6*i+j)=o+1+6*i+j from by omega]at this
 rw[this]
 unfold ZN
 rw[if_neg (by omega),show (1+6*i+j-1)/6=i from by omega,show (1+6*i+j-1)%6=j from by omega]
theorem Zc4.cells(H:Zc4 w b o n f)(k:Nat)(hk:k<37):w.cell? ⟨b,o+k,none⟩=some (ZN n f k):=by
 unfold ZN
 by_cases e:k=0
 ·subst e
  rw[if_pos rfl]
  exact H.c0
 ·rw[if_neg e]
  have:=H.c ((k-1)/6) ((k-1)%6) (by omega) (by omega)
  rw[show o+1+6*((k-1)/6)+(k-1)%6=o+k from by omega]at this
  exact this
theorem ZhU(n:Int)(w:World)(h0:0<=n)(h6:n<=6) :
  Calls prog 88 #[.int .i64 n] w λe w'=>e=.returned (.agg (big 37 (ZN n (λi j=>decide (i=j∧i<6)))))∧Below w.heap.size w w':=by
 obtain⟨w0,hw0⟩:∃w0,w0=((w.alloc (.cells #[.int .i64 0,.bool false,.bool false,.bool false,.bool false,.bool false,.bool false,.bool false,.bool false,.bool false,.bool false,.bool false,.bool false,.bool false,.bool false,.bool false,.bool false,.bool false,.bool false,.bool false,.bool false,.bool false,.bool false,.bool false,.bool false,.bool false,.bool false,.bool false,.bool false,.bool false,.bool false,.bool false,.bool false,.bool false,.bool false,.bool false,.bool false] 100)).alloc (.cells #[.int .i64 0,.bool false,.bool false,.bool false,.bool false,.bool false,.bool false,.bool false,.bool false,.bool false,.bool false,.bool false,.bool false,.bool false,.bool false,.bool false,.bool false,.bool false,.bool false,.bool false,.bool false,.bool false,.bool false,.bool false,.bool false,.bool false,.bool false,.bool false,.bool false,.bool false,.bool false,.bool false,.bool false,.bool false,.bool false,.bool false,.bool false] 100)):=⟨_,rfl⟩
 have hsz:w0.heap.size=w.heap.size+2:=by rw[hw0];simp
 have hR0:Room w0 (w.heap.size+1) 37:=by rw[hw0];exact Room.of_row (ZsM _ _ _) (by kernel_rfl)
 have hR1:Room w0 w.heap.size 37:=by rw[hw0];exact Room.of_row (ZsT _ _ _) (by kernel_rfl)
 have hB0:Below w.heap.size w w0:=by rw[hw0];exact((Qh _ _).alloc (Qb _) _).alloc (by simp) _
 obtain⟨w1,hw1⟩:∃w1,w1=w0.setCells (w.heap.size+1) 0 (big 37 (ZN 0 (λ_ _=>false))).toList:=⟨_,rfl⟩
 have hB:But (w.heap.size+1) w0.heap.size w0 w1:=by rw[hw1];exact Z2 (But.refl _ _ _) _ _
 have H1:Zc4 w1 (w.heap.size+1) 0 0 (λ_ _=>false):=Zc4.of_cells (by have:=hB.size;omega) (by rw[hw1];exact ZA w0 _ 0 37 _ hR0.c) (λj hj=>by rw[hw1,QQ];exact hR0.f j hj)
 have hR2:=hR1.but hB (by omega)
 have hB1:Below w.heap.size w w1:=hB0.trans ((hB.mono hB0.size).below (by omega))
 obtain⟨g,hg⟩:∃g,g=w.heap.size+1:=⟨_,rfl⟩
 have hgw:w.heap.size<g:=by omega
 rw[<-hg]at hR0 hw1 H1
 have d0:w1.cell? ⟨w.heap.size+1,0,none⟩=some (.int .i64 0):=by rw[<-hg];exact H1.c0
 have e0:w1.frozen? ⟨w.heap.size+1,0,none⟩=false:=by rw[<-hg];exact H1.f 0 (by omega)
 obtain⟨w2,hw2⟩:∃w2,w2=w1.setCell ⟨g,0,none⟩ (.int .i64 n):=⟨_,rfl⟩
 have H2:Zc4 w2 g 0 n (λi j=>decide (i=j∧i<0)):=by
  rw[hw2]
  refine⟨by simpa using H1.lt,World.cell?_setCell_same _ _ _ H1.c0,λi j hi hj=>?_,λk hk=>by rw[World.frozen?_setCell];exact H1.f k hk⟩
  rw[coff _ _ _ _ _ (by omega),H1.c i j hi hj]
  simp
 have hB2:Below w.heap.size w w2:=by rw[hw2];exact hB1.setCell (by show w.heap.size<=g;omega) _
 have hR3:Room w2 w.heap.size 37:=hR2.but (by rw[hw2];exact(But.refl g _ _).setCell _ _) (by omega)
 replace hw0:=Z_ hw0
 replace hw1:=Z_ hw1
 replace hw2:=Z_ hw2
 replace hg:=Z_ hg
 replace H2:=Z_ H2
 replace hB2:=Z_ hB2
 replace hR3:=Z_ hR3
 clear hR1 hB0 hB H1 hR2 hB1 hsz
 go_enter func88,ntmps88
 repeat (first|refine Zar 100 #[] rfl _ built_pr ?_|(refine Zm 100 (.tmp 3) (.tmp 5) rfl g 0 37 (ZN 0 (λ_ _=>false)) (by rw[hg.out];rfl) rfl (by kernel_rfl) (by rw[<-hw0.out];exact hR0.c) (by rw[<-hw0.out];exact hR0.f) (λj _=>Zml _ _ j) ?_;rw[<-hw0.out,<-hw1.out];dsimp only [Act.put])|go_step)
 rw[<-hg.out,<-hw2.out]
 clear d0 e0 hw0 hw1 hw2 hR0
 go_loopw [15] (λiv wr=>∃k:Nat,k<=6∧iv=.int .i64 k∧Kp (Zc4 wr g 0 n (λi j=>decide (i=j∧i<k)))∧Kp (Below w.heap.size w wr)∧Kp (Room wr w.heap.size 37)) (λiv _=>6-(intOf iv).toNat)
 case atStart=>exact⟨0,by omega,rfl,H2,hB2,hR3⟩
 case round=>
  clear H2 hB2 hR3
  obtain⟨k,hk,rfl,hA,hB,hR⟩:=hrel
  by_cases hk6:k<6
  ·have hkk:(k:Int)<6:=by omega
   have ckk:=hA.out.c k k hk6 hk6
   have fkk:=hA.out.f (1+6*k+k) (by omega)
   rw[show 0+(1+6*k+k)=1+k*6+k from by omega]at fkk
   rw[show 0+1+6*k+k=1+k*6+k from by omega]at ckk
   have A2:Kp (Zc4 (wr.setCell ⟨g,1+k*6+k,none⟩ (.bool true)) g 0 n (λi j=>decide (i=j∧i<k+1))):=⟨by
    have:=hA.out.set hk6 hk6 true
    rw[show 0+1+6*k+k=1+k*6+k from by omega]at this
    refine this.congr λi j _ _=>?_
    by_cases e:i=k∧j=k
    ·obtain⟨rfl,rfl⟩:=e
     rw[if_pos ⟨rfl,rfl⟩]
     exact(Qv ⟨rfl,by omega⟩).symm
    ·rw[if_neg e]
     apply QM.2
     rw[decide_eq_true_eq,decide_eq_true_eq]
     omega⟩
   have B2:Kp (Below w.heap.size w (wr.setCell ⟨g,1+k*6+k,none⟩ (.bool true))):=⟨hB.out.setCell (by show w.heap.size<=g;omega) _⟩
   have R2:Kp (Room (wr.setCell ⟨g,1+k*6+k,none⟩ (.bool true)) w.heap.size 37):=⟨hR.out.but ((But.refl g _ _).setCell _ _) (by omega)⟩
   clear hA hB hR
   go_wp2_with fail
   go_roundw
   case rel=>exact⟨k+1,by omega,by go_num,A2,B2,R2⟩
   case measure=>simp[intOf];omega
  ·have hke:k=6:=by omega
   subst hke
   obtain⟨w5,hw5⟩:∃w5:World,wr.setCells w.heap.size 0 (big 37 (ZN n (λi j=>decide (i=j∧i<6)))).toList=w5:=⟨_,rfl⟩
   have hcell:Kp (∀j,j<37->w5.cell? ⟨w.heap.size,0+j,none⟩=some (ZN n (λi j=>decide (i=j∧i<6)) j)):=⟨by rw[<-hw5];exact ZA wr w.heap.size 0 37 _ hR.out.c⟩
   have hB5:Below w.heap.size w w5:=by rw[<-hw5];exact Zai hB.out (b:=w.heap.size) (by omega) _ 0
   replace hw5:=Z_ hw5
   have hcs:=hA.out.cells
   clear hk6
   repeat (first|refine Zbr 100 (.tmp 3) rfl g 0 37 (ZN n (λi j=>decide (i=j∧i<6))) rfl _ Tryz.underlying100 rfl (by kernel_rfl) hcs ?_|(refine Zm 100 (.tmp 2) (.tmp 24) rfl w.heap.size 0 37 (ZN n (λi j=>decide (i=j∧i<6))) rfl rfl (by kernel_rfl) hR.out.c hR.out.f (λj _=>Zml _ _ j) ?_;rw[hw5.out];dsimp only [Act.put])|go_step)
   refine Qi (ZaK (by rfl) _ _ w.heap.size 0 37 _ _ rfl Tryz.underlying100 rfl (by kernel_rfl) hcell.out) rfl ⟨rfl,hB5⟩
def Z6(f:Nat->Nat->Bool)(m k:Nat):List Int:=(List.range k).map λi=>if f (i/m) (i%m)=true then 49 else 48
theorem Zfa(f:Nat->Nat->Bool)(m k:Nat):(Z6 f m k).length=k:=by simp[Z6]
theorem Zfb(f:Nat->Nat->Bool)(m:Nat):Z6 f m (m*m)=cells f m:=rfl
theorem Zet(f:Nat->Nat->Bool){m a c:Nat}(hc:c<m):Z6 f m (a*m+c+1)=Z6 f m (a*m+c)++[if f a c=true then 49 else 48]:=by
 unfold Z6
 rw[List.range_succ,QK]
 have h1:(a*m+c)/m=a:=by rw[Nat.mul_comm,Nat.mul_add_div (by omega),Nat.div_eq_of_lt hc];omega
 have h2:(a*m+c)%m=c:=by rw[Nat.mul_comm,Nat.mul_add_mod,Nat.mod_eq_of_lt hc]
 simp[h1,h2]
theorem Zry{m a c:Nat}(hm:m<=6)(ha:a<=m)(hc:c<=m):a*m+c<=42:=by
 have:=Us ha hm
 have:m*6<=36:=by omega
 omega
theorem Zmm(b o m:Nat)(f:Nat->Nat->Bool)(w:World)(H:Zc4 w b o m f)(hm:m<=6) :
  Calls prog 40 #[.pointer (some ⟨b,o,none⟩)] w λe w'=>e=.returned (.string (bs (cells f m)))∧Below w.heap.size w w':=by
 have hlt:=H.lt
 obtain⟨i0,hi0,hz0,hz1,hz2⟩:=infoParts Zg6
 obtain⟨w0,hw0⟩:∃w0,w0=w.alloc (.cells #[] 5):=⟨_,rfl⟩
 have W0:Kp (w0.ownsRow w.heap.size 5 1 (.slice (some ⟨w.heap.size,0,none⟩) 0 0) 0 ((Z6 f m 0).map (Value.int .u8))):=⟨by
  rw[hw0]
  have:=World.ownsRow_lit (base:=w.heap.size) (e:=5) (size:=1) w #[] 0 (by omega) (by unfold maxLen;omega) rfl
  simpa [Z6] using this⟩
 have B0:Kp (Below w.heap.size w w0):=⟨by rw[hw0];exact(Qh _ _).alloc (Qb _) _⟩
 have H':Kp _:=⟨H⟩
 replace hw0:=Z_ hw0
 have hmi:(m:Int)<=6:=by omega
 clear H
 go_enter func40,ntmps40
 go_wp2_with fail
 rw[<-hw0.out]
 go_loopw [3,4] (λtv av wr=>∃a:Nat,a<=m∧av=.int .i64 a∧Kp (wr.ownsRow w.heap.size 5 1 tv (a*m) ((Z6 f m (a*m)).map (Value.int .u8)))∧Kp (Below w.heap.size w wr)) (λ_ av _=>m-(intOf av).toNat)
 case atStart=>exact⟨0,by omega,rfl,by rw[Nat.zero_mul];exact W0,B0⟩
 case round=>
  clear W0 B0
  obtain⟨a,ha,rfl,hrow,hB⟩:=hrel
  have P1:=H'.out.step hB.out
  have c0:=P1.c0
  by_cases ham:a<m
  ·have hai:(a:Int)<(m:Int):=by omega
   obtain⟨wq,hwq⟩:∃x,x=wr:=⟨_,rfl⟩
   clear P1
   go_wp2_with fail
   go_loopw [3,5] (λtv cv wr=>∃c:Nat,c<=m∧cv=.int .i64 c∧Kp (wr.ownsRow w.heap.size 5 1 tv (a*m+c) ((Z6 f m (a*m+c)).map (Value.int .u8)))∧Kp (Below w.heap.size w wr)) (λ_ cv _=>m-(intOf cv).toNat)
   case atStart=>exact⟨0,by omega,rfl,hrow,hB⟩
   case round=>
    clear hrow hB c0 hwq
    obtain⟨c,hc,rfl,hrow,hB⟩:=hrel
    have P1:=H'.out.step hB.out
    have c0:=P1.c0
    by_cases hcm:c<m
    ·have hci:(c:Int)<(m:Int):=by omega
     have hh:=ZgN b o a c m f wr P1 (by omega) (by omega)
     have hnx:=Zet f (a:=a) hcm
     have hsz:=Zry hm ha hc
     have hws:=hB.out.size
     replace hh:=Z_ hh
     replace hnx:=Z_ hnx
     clear P1
     cases hf:f a c
     all_goals
      rw[hf]at hh hnx
      go_wp2_with fail
      refine hh.out.mono ?_
      rintro e w2 ⟨rfl,hw⟩
      subst hw
     ·go_wp2_with (at_builtin;refine wpList_append_own _ rfl _ _ 56 rfl w.heap.size 5 i0 (.int .u8 0) 1 1 Tryz.underlying56 hi0 hz0 hz1 hz2 rfl (by decide) _ _ _ rfl (hrow.out.alloc _) ⟨w2.heap.size,0,none⟩ 1 1 [.int .u8 48] rfl rfl ?a1 ?a2 ?a3 ?a4 ?a5 ?_)
      case a1=>
       intro j u hj
       match j,hj with
       | 0,hj=>simp at hj;subst hj;simp[Addr.add]
      case a2=>intro u hu;simp at hu;subst hu;rfl
      case a3=>unfold maxLen;omega
      case a4=>omega
      case a5=>simp;omega
      intro v' w3 hown3 hgrow _
      have hrow3:Kp (w3.ownsRow w.heap.size 5 1 v' (a*m+(c+1)) ((Z6 f m (a*m+(c+1))).map (Value.int .u8))):=⟨by rw[<-Uv,hnx.out,QK];exact hown3⟩
      have hB3:Kp (Below w.heap.size w w3):=⟨(hB.out.alloc hws _).grown hgrow (by simp;omega) (λj hj=>(hrow.out.lt j hj).1)⟩
      clear hown3 hgrow hrow hB hnx
      go_wp2_with fail
      go_roundw
      case rel=>exact⟨c+1,by omega,by go_num,hrow3,hB3⟩
      case measure=>simp[intOf];omega
     ·go_wp2_with (at_builtin;refine wpList_append_own _ rfl _ _ 56 rfl w.heap.size 5 i0 (.int .u8 0) 1 1 Tryz.underlying56 hi0 hz0 hz1 hz2 rfl (by decide) _ _ _ rfl (hrow.out.alloc _) ⟨w2.heap.size,0,none⟩ 1 1 [.int .u8 49] rfl rfl ?a1 ?a2 ?a3 ?a4 ?a5 ?_)
      case a1=>
       intro j u hj
       match j,hj with
       | 0,hj=>simp at hj;subst hj;simp[Addr.add]
      case a2=>intro u hu;simp at hu;subst hu;rfl
      case a3=>unfold maxLen;omega
      case a4=>omega
      case a5=>simp;omega
      intro v' w3 hown3 hgrow _
      have hrow3:Kp (w3.ownsRow w.heap.size 5 1 v' (a*m+(c+1)) ((Z6 f m (a*m+(c+1))).map (Value.int .u8))):=⟨by rw[<-Uv,hnx.out,QK];exact hown3⟩
      have hB3:Kp (Below w.heap.size w w3):=⟨(hB.out.alloc hws _).grown hgrow (by simp;omega) (λj hj=>(hrow.out.lt j hj).1)⟩
      clear hown3 hgrow hrow hB hnx
      go_wp2_with fail
      go_roundw
      case rel=>exact⟨c+1,by omega,by go_num,hrow3,hB3⟩
      case measure=>simp[intOf];omega
    ·have hce:c=m:=by omega
     subst hce
     have e1:a*c+c=(a+1)*c:=by rw[Nat.add_mul,Nat.one_mul]
     rw[e1]at hrow
     have hci:¬(c:Int)<(c:Int):=by omega
     clear P1 hcm
     go_wp2_with fail
     go_roundw
     case rel=>exact⟨a+1,by omega,by go_num,hrow,hB⟩
     case measure=>simp[intOf];omega
  ·have hae:a=m:=by omega
   subst hae
   have hcv:=ZeN (Z6 f a (a*a)) (by rw[Zfa];exact hrow.out)
   rw[Zfb]at hcv
   obtain⟨y,hy⟩:∃y,bs (cells f a)=y:=⟨_,rfl⟩
   rw[hy]at hcv
   replace hy:=Z_ hy
   have hai:¬(a:Int)<(a:Int):=by omega
   clear P1 ham hrow
   go_wp2
   go_ret
   exact⟨by rw[hy.out];rfl,hB.out⟩
end Go.Proofs.YtcnbifdlkalimabGreat
