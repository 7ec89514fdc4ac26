import Derived.Test.YtcnbifdlkalimabGreatTrnE

/-
  The walks of the package translation, tenth part: '=' and '>'; for every translator.
-/
namespace Go.Proofs.YtcnbifdlkalimabGreat
open Go.RowKit
set_option linter.unusedVariables false
set_option maxRecDepth 100000

/-- what a statement leaves -/
def StPost (b : Nat) (s : ByteArray) (S : Nat → Value) (w : World) (y : Tq) (e : Ending) (w' : World) : Prop :=
  e = .returned (.tuple #[]) ∧ ∃ S', TrAt w' b s y S' ∧ TrTo b b S S' w w'

/-- what is done to a new block is no matter -/
theorem TrTo.fresh {b g : Nat} {S S1 S2 : Nat → Value} {w w1 w2 : World} (h : TrTo b b S S1 w w1) (k : TrTo b g S1 S2 w1 w2) (hg : w.heap.size ≤ g) : TrTo b b S S2 w w2 := by
  have h2 := h.up (g := g) |>.trans k
  exact ⟨h2.os, h2.tape, h2.output, h2.size, fun i hi h1 _ h3 => h2.block i hi h1 (by omega) h3, h2.rows⟩

/-- a statement is laid in a block of its own -/
theorem ExPre.new {w : World} {b : Nat} {s : ByteArray} {q : Tq} {S : Nat → Value} (H : TrAt w b s q S) (x : Sq) {wa : World} (hwa : wa = w.alloc (.cells #[.int .i64 x.k, .int .i64 x.pl, .int .i64 x.ou, .int .i64 x.ta, .bool (x.rd 0), .bool (x.rd 1), .bool (x.rd 2), .bool (x.rd 3), .bool (x.rd 4), .bool (x.rd 5), .bool (x.tp 0), .bool (x.tp 1), .bool (x.tp 2), .bool (x.tp 3), .bool (x.tp 4), .bool (x.tp 5)] 109)) :
    ExPre wa b s S w.heap.size (q, x) ∧ TrTo b b S S w wa := by
  have hb : Below w.heap.size w wa := by rw [hwa]; exact (Below.refl _ _).alloc (Nat.le_refl _) _
  refine ⟨⟨H.step hb, ⟨by rw [hwa]; simp, fun e => by have := H.lt; omega, fun j hj e => by have := ((H.o j hj).lt _ e).2; omega⟩, by rw [hwa]; exact own16 w x _⟩, TrTo.below hb⟩

theorem potOf {s : ByteArray} {q : Tq} {r : Rd} {n : Nat} (h : potR s r ≤ potR s q.r) (hp : pot s q ≤ n) : pot s { q with r := r } ≤ n := Nat.le_trans (pot_to h) hp

set_option maxHeartbeats 1600000 in
theorem assign_any (b : Nat) (s : ByteArray) (hs : s.size ≤ 300) (q : Tq) (x : Sq) (S : Nat → Value) (w : World) (H : TrAt w b s q S) (G : Gd s q) (hp : pot s q ≤ 6500) :
    Calls Tryz.prog 166 #[.pointer (some ⟨b, 0, none⟩), stA x] w (StPost b s S w (assQ s q x)) := by
  obtain ⟨wa, hwa⟩ : ∃ wa, wa = w.alloc (.cells #[.int .i64 1, .int .i64 x.pl, .int .i64 x.ou, .int .i64 x.ta, .bool (x.rd 0), .bool (x.rd 1), .bool (x.rd 2), .bool (x.rd 3), .bool (x.rd 4), .bool (x.rd 5), .bool (x.tp 0), .bool (x.tp 1), .bool (x.tp 2), .bool (x.tp 3), .bool (x.tp 4), .bool (x.tp 5)] 109) := ⟨_, rfl⟩
  obtain ⟨E1, T0⟩ := ExPre.new H { x with k := 1 } hwa
  obtain ⟨g, hg⟩ : ∃ g, g = w.heap.size := ⟨_, rfl⟩
  rw [← hg] at E1
  have hgl : w.heap.size ≤ g := by omega
  have T1 : TrTo b g S S wa wa := TrTo.refl _ _ _ _
  have hV := takeVariable_any b s q S _ E1.H (G.sml (by omega)) (G.ok hs)
  obtain ⟨vi, hvi⟩ : ∃ vi, varI s q.r q.ls = vi := ⟨_, rfl⟩
  obtain ⟨r1, hr1⟩ : ∃ r1, varR s q.r q.ls = r1 := ⟨_, rfl⟩
  have G1 : Gd s { q with r := r1 } := by rw [← hr1]; exact G.r (varR_le G.le)
  have p1 : potR s r1 ≤ potR s q.r := by rw [← hr1]; exact potR_varR _ _ _
  have hQ : assQ s q x = addQ (emitQ { (exQ s ({ q with r := tk s r1 61 }, { x with k := 1, ta := lvOf q vi })).1 with r := tk s (exQ s ({ q with r := tk s r1 61 }, { x with k := 1, ta := lvOf q vi })).1.r 59 } 2 vi) (exQ s ({ q with r := tk s r1 61 }, { x with k := 1, ta := lvOf q vi })).2 := by unfold assQ; rw [hvi, hr1]
  rw [hQ]
  rw [hvi, hr1] at hV
  obtain ⟨lv, hlv⟩ : ∃ lv, lvOf q vi = lv := ⟨_, rfl⟩
  rw [hlv]
  have G2 : Gd s { q with r := tk s r1 61 } := G.r (tk_le G1.le (by omega))
  have p2 : pot s { q with r := tk s r1 61 } ≤ 6500 := potOf (Nat.le_trans (potR_tk s r1 61) p1) hp
  obtain ⟨y, hy⟩ : ∃ y, exQ s ({ q with r := tk s r1 61 }, { x with k := 1, ta := lv }) = y := ⟨_, rfl⟩
  rw [hy]
  have G3 : Gd s y.1 := by rw [← hy]; exact gd_ex G2
  have p3 : pot s y.1 ≤ 6502 := by rw [← hy]; exact Nat.le_trans (pot_ex s _) (by show pot s { q with r := tk s r1 61 } + 2 ≤ 6502; omega)
  have G4 : Gd s { y.1 with r := tk s y.1.r 59 } := G3.r (tk_le G3.le (by omega))
  have p4 : pot s { y.1 with r := tk s y.1.r 59 } ≤ 6502 := potOf (potR_tk s y.1.r 59) p3
  have hL : Kp (∀ w1, RdTo wa w1 b r1 → Calls Tryz.prog 217 #[.pointer (some ⟨b, 0, none⟩), .int .i64 vi] w1 fun e w' => e = .returned (.int .i64 lv) ∧ w' = w1) := ⟨fun w1 T => by
    rw [← hlv]
    exact levelOf_any b s { q with r := r1 } S vi w1 (E1.rd T).H (G1.sml (Nat.le_trans (potOf p1 hp) (by omega))) (fun y hy => by have := G.vb y hy; omega)⟩
  have hX : Kp (∀ w1, ExPre w1 b s S g ({ q with r := tk s r1 61 }, { x with k := 1, ta := lv }) → Calls Tryz.prog 211 #[.pointer (some ⟨b, 0, none⟩), .pointer (some ⟨g, 0, none⟩)] w1 (ExPost b s S g w1 y)) := ⟨fun w1 E => by
    rw [← hy]
    exact expression_any b g s hs (s.size + 1) _ S w1 E G2 (by have := rem_le s (tk s r1 61); show rem s (tk s r1 61) < _; omega) (by show pot s { q with r := tk s r1 61 } ≤ 7000; omega)⟩
  have hK1 : Kp (∀ w1 S1 (z : Tq), TrAt w1 b s z S1 → z.r = r1 → Calls Tryz.prog 92 #[.pointer (some ⟨b, 0, none⟩), .int .u8 61] w1 fun e w' => e = .returned (.tuple #[]) ∧ RdTo w1 w' b (tk s r1 61)) := ⟨fun w1 S1 z A e => by have := A.rdAt; rw [e] at this; exact takeR_any b s r1 61 w1 this (G1.ok hs)⟩
  have hK2 : Kp (∀ w1 S1, ExPre w1 b s S1 g y → Calls Tryz.prog 92 #[.pointer (some ⟨b, 0, none⟩), .int .u8 59] w1 fun e w' => e = .returned (.tuple #[]) ∧ RdTo w1 w' b (tk s y.1.r 59)) := ⟨fun w1 S1 E => takeR_any b s y.1.r 59 w1 E.H.rdAt (G3.ok hs)⟩
  have hE : Kp (∀ w1 S1, TrAt w1 b s { y.1 with r := tk s y.1.r 59 } S1 → Calls Tryz.prog 212 #[.pointer (some ⟨b, 0, none⟩), .int .i64 2, .int .i64 vi] w1 fun e w' => e = .returned (.tuple #[]) ∧ ∃ S', TrAt w' b s (emitQ { y.1 with r := tk s y.1.r 59 } 2 vi) S' ∧ TrTo b b S1 S' w1 w') := ⟨fun w1 S1 A => emit_any b s _ S1 2 vi w1 A (G4.sml (Nat.le_trans p4 (by omega))) (by omega)⟩
  have hA : Kp (∀ w1 S1, TrAt w1 b s (emitQ { y.1 with r := tk s y.1.r 59 } 2 vi) S1 → Calls Tryz.prog 213 #[.pointer (some ⟨b, 0, none⟩), stA y.2] w1 fun e w' => e = .returned (.int .i64 (emitQ { y.1 with r := tk s y.1.r 59 } 2 vi).ss.length) ∧ ∃ S', TrAt w' b s (addQ (emitQ { y.1 with r := tk s y.1.r 59 } 2 vi) y.2) S' ∧ TrTo b b S1 S' w1 w') := ⟨fun w1 S1 A => add_any b s _ S1 y.2 w1 A ((G4.emit 2 vi).sml (by rw [pot_emit]; exact Nat.le_trans (Nat.add_le_add_right p4 2) (by omega)))⟩
  have hN : Kp (∀ w1, ExPre w1 b s S g ({ q with r := r1 }, { x with k := 1 }) → ExPre (w1.setCell ⟨g, 3, none⟩ (.int .i64 lv)) b s S g ({ q with r := r1 }, { x with k := 1, ta := lv }) ∧ TrTo b g S S w1 (w1.setCell ⟨g, 3, none⟩ (.int .i64 lv))) := ⟨fun w1 E => E.note (i := 3) (y := { x with k := 1, ta := lv }) (v := .int .i64 lv) rfl (by omega)⟩
  replace hV : Kp _ := ⟨hV⟩
  replace E1 : Kp _ := ⟨E1⟩
  replace T1 : Kp _ := ⟨T1⟩
  replace T0 : Kp _ := ⟨T0⟩
  replace hwa : Kp _ := ⟨hwa⟩
  replace hg : Kp _ := ⟨hg⟩
  replace hgl : Kp _ := ⟨hgl⟩
  clear H G hp G1 p1 G2 p2 G3 p3 G4 p4 hvi hr1 hlv hy hQ
  unfold stA
  go_enter Tryz.func166, Tryz.ntmps166
  go_wp2_with fail
  rw [← hwa.out, ← hg.out]
  refine hV.out.mono ?_
  rintro e w1 ⟨rfl, R1⟩
  have E2 := E1.out.rd R1
  have c3 := E2.W.c 3 _ rfl
  have f3 := E2.W.f 3 _ rfl
  have E3 := hN.out w1 E2
  have T3 : Kp (TrTo b g S S wa (w1.setCell ⟨g, 3, none⟩ (.int .i64 lv))) := ⟨(T1.out.trans (TrTo.rd R1)).trans E3.2⟩
  replace E3 : Kp _ := ⟨E3.1⟩
  replace R1 : Kp _ := ⟨R1⟩
  replace E2 : Kp _ := ⟨E2⟩
  go_wp2_with fail
  refine (hL.out w1 R1.out).mono ?_
  rintro e w2 ⟨rfl, hw⟩
  subst hw
  go_wp2_with fail
  refine (hK1.out _ _ _ E3.out.H rfl).mono ?_
  rintro e w2 ⟨rfl, R2⟩
  have E4 := E3.out.rd R2
  have T4 : Kp _ := ⟨T3.out.trans (TrTo.rd R2)⟩
  replace E4 : Kp _ := ⟨E4⟩
  clear R2 c3 f3
  go_wp2_with fail
  refine (hX.out _ E4.out).mono ?_
  rintro e w3 ⟨rfl, S3, E5, T5⟩
  have T6 : Kp _ := ⟨T4.out.trans T5⟩
  replace E5 : Kp _ := ⟨E5⟩
  clear T5
  go_wp2_with fail
  refine (hK2.out _ _ E5.out).mono ?_
  rintro e w4 ⟨rfl, R4⟩
  have E6 := E5.out.rd R4
  have T7 : Kp _ := ⟨T6.out.trans (TrTo.rd R4)⟩
  replace E6 : Kp _ := ⟨E6⟩
  clear R4
  go_wp2_with fail
  refine (hE.out _ _ E6.out.H).mono ?_
  rintro e w5 ⟨rfl, S5, A5, T8⟩
  have E7 := E6.out.tr A5 T8
  have T9 : Kp _ := ⟨T7.out.trans T8.up⟩
  have d0 := E7.W.c 0 _ rfl
  have d1 := E7.W.c 1 _ rfl
  have d2 := E7.W.c 2 _ rfl
  have d3 := E7.W.c 3 _ rfl
  have d4 := E7.W.c 4 _ rfl
  have d5 := E7.W.c 5 _ rfl
  have d6 := E7.W.c 6 _ rfl
  have d7 := E7.W.c 7 _ rfl
  have d8 := E7.W.c 8 _ rfl
  have d9 := E7.W.c 9 _ rfl
  have d10 := E7.W.c 10 _ rfl
  have d11 := E7.W.c 11 _ rfl
  have d12 := E7.W.c 12 _ rfl
  have d13 := E7.W.c 13 _ rfl
  have d14 := E7.W.c 14 _ rfl
  have d15 := E7.W.c 15 _ rfl
  replace E7 : Kp _ := ⟨E7⟩
  clear T8 A5
  go_wp2_with fail
  refine (hA.out _ _ E7.out.H).mono ?_
  rintro e w6 ⟨rfl, S6, A6, T10⟩
  replace A6 : Kp _ := ⟨A6⟩
  have T11 : Kp (TrTo b b S S6 w w6) := ⟨(T0.out.fresh T9.out hgl.out).trans T10⟩
  clear T10 d0 d1 d2 d3 d4 d5 d6 d7 d8 d9 d10 d11 d12 d13 d14 d15
  go_wp2_with fail
  first | go_end0 | refine bodyPost_ret (results_none rfl _ _ _) rfl ?_
  exact ⟨rfl, S6, A6.out, T11.out⟩
end Go.Proofs.YtcnbifdlkalimabGreat

/-
  The walks of the package translation, eleventh part: '>'; for every translator.
-/
namespace Go.Proofs.YtcnbifdlkalimabGreat
open Go.RowKit
set_option linter.unusedVariables false
set_option maxRecDepth 100000

/-- an expression leaves what its statement writes to -/
theorem expr_ta (s : ByteArray) : ∀ (k : Nat) (x : Tq × Sq), (exprQ s k x).2.ta = x.2.ta
  | 0, x => rfl
  | k + 1, x => by
    have ht : ∀ x : Tq × Sq, (termQ s (exprQ s k) x).2.ta = x.2.ta := by
      intro x
      unfold termQ
      split
      · rfl
      · split
        · rfl
        · split
          · exact expr_ta s k ({ x.1 with r := nx (adv s x.1.r) }, x.2)
          · rfl
    have hm : ∀ (j : Nat) (x : Tq × Sq), (moreQ s (termQ s (exprQ s k)) j x).2.ta = x.2.ta := by
      intro j
      induction j with
      | zero => intro x; rfl
      | succ j ih =>
        intro x
        simp only [moreQ]
        split
        · rfl
        · rw [ih]
          exact ht ({ x.1 with r := nx (adv s x.1.r) }, x.2)
    simp only [exprQ]
    rw [hm, ht]
theorem ex_ta (s : ByteArray) (x : Tq × Sq) : (exQ s x).2.ta = x.2.ta := expr_ta s _ x

set_option maxHeartbeats 1600000 in
theorem write_any (b : Nat) (s : ByteArray) (hs : s.size ≤ 300) (q : Tq) (x : Sq) (S : Nat → Value) (w : World) (H : TrAt w b s q S) (G : Gd s q) (hp : pot s q ≤ 6500) :
    Calls Tryz.prog 163 #[.pointer (some ⟨b, 0, none⟩), stA x] w (StPost b s S w (wriQ s q x)) := by
  obtain ⟨wa, hwa⟩ : ∃ wa, wa = w.alloc (.cells #[.int .i64 2, .int .i64 x.pl, .int .i64 x.ou, .int .i64 x.ta, .bool (x.rd 0), .bool (x.rd 1), .bool (x.rd 2), .bool (x.rd 3), .bool (x.rd 4), .bool (x.rd 5), .bool (x.tp 0), .bool (x.tp 1), .bool (x.tp 2), .bool (x.tp 3), .bool (x.tp 4), .bool (x.tp 5)] 109) := ⟨_, rfl⟩
  obtain ⟨E1, T0⟩ := ExPre.new H { x with k := 2 } hwa
  obtain ⟨g, hg⟩ : ∃ g, g = w.heap.size := ⟨_, rfl⟩
  rw [← hg] at E1
  have hgl : w.heap.size ≤ g := by omega
  have T1 : TrTo b g S S wa wa := TrTo.refl _ _ _ _
  have hV := takeR_any b s q.r 62 _ E1.H.rdAt (G.ok hs)
  obtain ⟨r0, hr0⟩ : ∃ r0, tk s q.r 62 = r0 := ⟨_, rfl⟩
  obtain ⟨r1, hr1⟩ : ∃ r1, digR s r0 0 (q.n - 1) = r1 := ⟨_, rfl⟩
  have G0 : Gd s { q with r := r0 } := by rw [← hr0]; exact G.r (tk_le G.le (by omega))
  have p0 : potR s r0 ≤ potR s q.r := by rw [← hr0]; exact potR_tk _ _ _
  have p1 : potR s r1 ≤ potR s q.r := by rw [← hr1]; exact Nat.le_trans (potR_digR _ _ _ _) p0
  obtain ⟨lv, hlv⟩ : ∃ lv, dig s r0 0 (q.n - 1) = lv := ⟨_, rfl⟩
  have hQ : wriQ s q x = addQ (emitQ { (exQ s ({ q with r := r1 }, { x with k := 2, ta := lv })).1 with r := tk s (exQ s ({ q with r := r1 }, { x with k := 2, ta := lv })).1.r 59 } 11 lv) (exQ s ({ q with r := r1 }, { x with k := 2, ta := lv })).2 := by unfold wriQ; rw [hr0, hr1, hlv]
  rw [hQ]
  rw [hr0] at hV
  have G2 : Gd s { q with r := r1 } := by rw [← hr1]; exact G.r (digR_le (by omega) G0.le)
  have p2 : pot s { q with r := r1 } ≤ 6500 := potOf p1 hp
  obtain ⟨y, hy⟩ : ∃ y, exQ s ({ q with r := r1 }, { x with k := 2, ta := lv }) = y := ⟨_, rfl⟩
  rw [hy]
  have G3 : Gd s y.1 := by rw [← hy]; exact gd_ex G2
  have p3 : pot s y.1 ≤ 6502 := by rw [← hy]; exact Nat.le_trans (pot_ex s _) (by show pot s { q with r := r1 } + 2 ≤ 6502; omega)
  have G4 : Gd s { y.1 with r := tk s y.1.r 59 } := G3.r (tk_le G3.le (by omega))
  have p4 : pot s { y.1 with r := tk s y.1.r 59 } ≤ 6502 := potOf (potR_tk s y.1.r 59) p3
  have hL : Kp (∀ w1, RdTo wa w1 b r0 → Calls Tryz.prog 90 #[.pointer (some ⟨b, 0, none⟩)] w1 fun e w' => e = .returned (.int .i64 lv) ∧ RdTo w1 w' b r1) := ⟨fun w1 T => by
    rw [← hlv, ← hr1]
    exact takeLevel_any b s { q with r := r0 } S w1 (E1.rd T).H (G0.ok hs) ⟨G.n0, G.n6⟩⟩
  have hX : Kp (∀ w1, ExPre w1 b s S g ({ q with r := r1 }, { x with k := 2, ta := lv }) → Calls Tryz.prog 211 #[.pointer (some ⟨b, 0, none⟩), .pointer (some ⟨g, 0, none⟩)] w1 (ExPost b s S g w1 y)) := ⟨fun w1 E => by
    rw [← hy]
    exact expression_any b g s hs (s.size + 1) _ S w1 E G2 (by have := rem_le s (r1); show rem s (r1) < _; omega) (by show pot s { q with r := r1 } ≤ 7000; omega)⟩
  have hK2 : Kp (∀ w1 S1, ExPre w1 b s S1 g y → Calls Tryz.prog 92 #[.pointer (some ⟨b, 0, none⟩), .int .u8 59] w1 fun e w' => e = .returned (.tuple #[]) ∧ RdTo w1 w' b (tk s y.1.r 59)) := ⟨fun w1 S1 E => takeR_any b s y.1.r 59 w1 E.H.rdAt (G3.ok hs)⟩
  have hE : Kp (∀ w1 S1, TrAt w1 b s { y.1 with r := tk s y.1.r 59 } S1 → Calls Tryz.prog 212 #[.pointer (some ⟨b, 0, none⟩), .int .i64 11, .int .i64 lv] w1 fun e w' => e = .returned (.tuple #[]) ∧ ∃ S', TrAt w' b s (emitQ { y.1 with r := tk s y.1.r 59 } 11 lv) S' ∧ TrTo b b S1 S' w1 w') := ⟨fun w1 S1 A => emit_any b s _ S1 11 lv w1 A (G4.sml (Nat.le_trans p4 (by omega))) (by omega)⟩
  have hA : Kp (∀ w1 S1, TrAt w1 b s (emitQ { y.1 with r := tk s y.1.r 59 } 11 lv) S1 → Calls Tryz.prog 213 #[.pointer (some ⟨b, 0, none⟩), stA y.2] w1 fun e w' => e = .returned (.int .i64 (emitQ { y.1 with r := tk s y.1.r 59 } 11 lv).ss.length) ∧ ∃ S', TrAt w' b s (addQ (emitQ { y.1 with r := tk s y.1.r 59 } 11 lv) y.2) S' ∧ TrTo b b S1 S' w1 w') := ⟨fun w1 S1 A => add_any b s _ S1 y.2 w1 A ((G4.emit 11 lv).sml (by rw [pot_emit]; exact Nat.le_trans (Nat.add_le_add_right p4 2) (by omega)))⟩
  have hN : Kp (∀ w1, ExPre w1 b s S g ({ q with r := r1 }, { x with k := 2 }) → ExPre (w1.setCell ⟨g, 3, none⟩ (.int .i64 lv)) b s S g ({ q with r := r1 }, { x with k := 2, ta := lv }) ∧ TrTo b g S S w1 (w1.setCell ⟨g, 3, none⟩ (.int .i64 lv))) := ⟨fun w1 E => E.note (i := 3) (y := { x with k := 2, ta := lv }) (v := .int .i64 lv) rfl (by omega)⟩
  replace hV : Kp _ := ⟨hV⟩
  replace E1 : Kp _ := ⟨E1⟩
  replace T1 : Kp _ := ⟨T1⟩
  replace T0 : Kp _ := ⟨T0⟩
  replace hwa : Kp _ := ⟨hwa⟩
  replace hg : Kp _ := ⟨hg⟩
  replace hgl : Kp _ := ⟨hgl⟩
  have hyt : Kp (y.2.ta = lv) := ⟨by rw [← hy]; exact ex_ta s _⟩
  clear H G hp G0 p0 p1 G2 p2 G3 p3 G4 p4 hr0 hr1 hlv hy hQ
  unfold stA
  go_enter Tryz.func163, Tryz.ntmps163
  go_wp2_with fail
  rw [← hwa.out, ← hg.out]
  refine hV.out.mono ?_
  rintro e w0 ⟨rfl, R0⟩
  have E2a := E1.out.rd R0
  replace R0 : Kp _ := ⟨R0⟩
  replace E2a : Kp _ := ⟨E2a⟩
  go_wp2_with fail
  refine (hL.out w0 R0.out).mono ?_
  rintro e w1 ⟨rfl, R1⟩
  have E2 := E2a.out.rd R1
  have c3 := E2.W.c 3 _ rfl
  have f3 := E2.W.f 3 _ rfl
  have E3 := hN.out w1 E2
  have T4 : Kp (TrTo b g S S wa (w1.setCell ⟨g, 3, none⟩ (.int .i64 lv))) := ⟨(T1.out.trans ((TrTo.rd R0.out).trans (TrTo.rd R1))).trans E3.2⟩
  have E4 : Kp _ := ⟨E3.1⟩
  clear E3 R1 E2
  go_wp2_with fail
  refine (hX.out _ E4.out).mono ?_
  rintro e w3 ⟨rfl, S3, E5, T5⟩
  have T6 : Kp _ := ⟨T4.out.trans T5⟩
  replace E5 : Kp _ := ⟨E5⟩
  clear T5
  go_wp2_with fail
  refine (hK2.out _ _ E5.out).mono ?_
  rintro e w4 ⟨rfl, R4⟩
  have E6 := E5.out.rd R4
  have T7 : Kp _ := ⟨T6.out.trans (TrTo.rd R4)⟩
  have e3 : w4.cell? ⟨g, 3, none⟩ = some (.int .i64 lv) := by rw [← hyt.out]; exact E6.W.c 3 _ rfl
  replace E6 : Kp _ := ⟨E6⟩
  clear R4 c3 f3
  go_wp2_with fail
  refine (hE.out _ _ E6.out.H).mono ?_
  rintro e w5 ⟨rfl, S5, A5, T8⟩
  have E7 := E6.out.tr A5 T8
  have T9 : Kp _ := ⟨T7.out.trans T8.up⟩
  have d0 := E7.W.c 0 _ rfl
  have d1 := E7.W.c 1 _ rfl
  have d2 := E7.W.c 2 _ rfl
  have d3 := E7.W.c 3 _ rfl
  have d4 := E7.W.c 4 _ rfl
  have d5 := E7.W.c 5 _ rfl
  have d6 := E7.W.c 6 _ rfl
  have d7 := E7.W.c 7 _ rfl
  have d8 := E7.W.c 8 _ rfl
  have d9 := E7.W.c 9 _ rfl
  have d10 := E7.W.c 10 _ rfl
  have d11 := E7.W.c 11 _ rfl
  have d12 := E7.W.c 12 _ rfl
  have d13 := E7.W.c 13 _ rfl
  have d14 := E7.W.c 14 _ rfl
  have d15 := E7.W.c 15 _ rfl
  replace E7 : Kp _ := ⟨E7⟩
  clear T8 A5
  go_wp2_with fail
  refine (hA.out _ _ E7.out.H).mono ?_
  rintro e w6 ⟨rfl, S6, A6, T10⟩
  replace A6 : Kp _ := ⟨A6⟩
  have T11 : Kp (TrTo b b S S6 w w6) := ⟨(T0.out.fresh T9.out hgl.out).trans T10⟩
  clear T10 d0 d1 d2 d3 d4 d5 d6 d7 d8 d9 d10 d11 d12 d13 d14 d15
  go_wp2_with fail
  first | go_end0 | refine bodyPost_ret (results_none rfl _ _ _) rfl ?_
  exact ⟨rfl, S6, A6.out, T11.out⟩
end Go.Proofs.YtcnbifdlkalimabGreat

/-
  The walks of the package translation, twelfth part: blocks; for every translator.
-/
namespace Go.Proofs.YtcnbifdlkalimabGreat
open Go.RowKit
set_option linter.unusedVariables false
set_option maxRecDepth 100000

/-- statements are read so, as long as few enough bytes are left -/
def StGo (b : Nat) (s : ByteArray) (k : Nat) : Prop := ∀ (ou : Int) (q : Tq) (S : Nat → Value) (w : World), TrAt w b s q S → Gd s q → rem s q.r + 2 ≤ k → q.r.er = 0 → pot s q ≤ 6000 →
  Calls Tryz.prog 95 #[.pointer (some ⟨b, 0, none⟩), .int .i64 ou] w (StPost b s S w (stmQ s k ou q))

theorem mu_stm {s : ByteArray} {k : Nat} {ou : Int} {q : Tq} (hk : rem s q.r + 2 ≤ k) (he : q.r.er = 0) : muR s (stmQ s k ou { q with r := adv s q.r }).r < muR s q.r ∧ rem s (stmQ s k ou { q with r := adv s q.r }).r ≤ rem s q.r := by
  have hra := rem_adv s q.r
  have hmu : muR s q.r = rem s q.r + 1 := by unfold muR; rw [if_pos he]
  by_cases ht : tok s q.r = 0
  · obtain ⟨j, rfl⟩ : ∃ j, k = j + 1 := ⟨k - 1, by omega⟩
    have hd := (stm_dead (s := s) (k := j) (ou := ou) (q := { q with r := adv s q.r }) (by show isS (tok s (adv s q.r)) = false; rw [tok_adv, ht]; rfl)).1
    rw [hd]
    have hb : (rfs (adv s (adv s q.r)) 11).er ≠ 0 := rfs_er (by omega)
    have e1 : muR s (rfs (adv s (adv s q.r)) 11) = 0 := by unfold muR; rw [rem_bad hb, if_neg hb]
    have e2 : rem s (rfs (adv s (adv s q.r)) 11) = 0 := rem_bad hb
    constructor
    · show muR s (rfs (adv s (adv s q.r)) 11) < _; omega
    · show rem s (rfs (adv s (adv s q.r)) 11) ≤ _; omega
  · have hl := stm_lt s k ou { q with r := adv s q.r } (by show rem s (adv s q.r) < k; omega) (by show tok s (adv s q.r) ≠ 0; rw [tok_adv]; exact ht)
    have hl : rem s (stmQ s k ou { q with r := adv s q.r }).r < rem s (adv s q.r) := hl
    constructor
    · unfold muR
      rw [if_pos he]
      split <;> omega
    · omega

set_option maxHeartbeats 1600000 in
theorem block_any (b : Nat) (s : ByteArray) (hs : s.size ≤ 300) (k : Nat) (ih : Kp (StGo b s k)) (ou : Int) (q : Tq) (S : Nat → Value) (w : World) (H : TrAt w b s q S) (G : Gd s q) (hk : rem s q.r + 2 ≤ k) (hp : pot s q ≤ 6000) :
    Calls Tryz.prog 214 #[.pointer (some ⟨b, 0, none⟩), .int .i64 ou] w (StPost b s S w (blkQ s (stmQ s k ou) k q)) := by
  have hT := takeR_any b s q.r 123 w H.rdAt (G.ok hs)
  have G1 : Gd s { q with r := tk s q.r 123 } := G.r (tk_le G.le (by omega))
  have p1 : pot s { q with r := tk s q.r 123 } ≤ 6000 := potOf (potR_tk _ _ _) hp
  have k1 : rem s (tk s q.r 123) + 2 ≤ k := by have := rem_tk s q.r 123; omega
  obtain ⟨fin, hfin⟩ : ∃ fin, loopQ s (stmQ s k ou) k { q with r := tk s q.r 123 } = fin := ⟨_, rfl⟩
  have hQ : blkQ s (stmQ s k ou) k q = { fin with r := tk s fin.r 125 } := by unfold blkQ; rw [hfin]
  rw [hQ]
  have Gf : Gd s fin := by rw [← hfin]; exact gd_loop (gd_stm k ou) k _ G1
  have hE : Kp (∀ w1 S1, TrAt w1 b s fin S1 → Calls Tryz.prog 92 #[.pointer (some ⟨b, 0, none⟩), .int .u8 125] w1 fun e w' => e = .returned (.tuple #[]) ∧ RdTo w1 w' b (tk s fin.r 125)) := ⟨fun w1 S1 A => takeR_any b s fin.r 125 w1 A.rdAt (Gf.ok hs)⟩
  have hB : Kp (∀ (z : Tq) w1 S1, TrAt w1 b s z S1 → Gd s z → Calls Tryz.prog 89 #[.pointer (some ⟨b, 0, none⟩), .int .u8 125] w1 fun e w' => e = .returned (.bool (decide (z.r.er = 0 ∧ tok s z.r ≠ 125))) ∧ RdTo w1 w' b (adv s z.r)) := ⟨fun z w1 S1 A Gz => isBefore_any b s z.r 125 w1 A.rdAt (Gz.ok hs)⟩
  have mk : muR s (tk s q.r 123) ≤ k := by unfold muR; split <;> omega
  have H0 : Kp _ := ⟨H⟩
  replace hT : Kp _ := ⟨hT⟩
  replace G1 : Kp _ := ⟨G1⟩
  replace p1 : Kp _ := ⟨p1⟩
  replace k1 : Kp _ := ⟨k1⟩
  replace mk : Kp _ := ⟨mk⟩
  replace hfin : Kp _ := ⟨hfin⟩
  clear H G hk hp hQ Gf
  go_enter Tryz.func214, Tryz.ntmps214
  go_wp2_with fail
  refine hT.out.mono ?_
  rintro e w1 ⟨rfl, R1⟩
  have A1 := H0.out.rd R1
  replace A1 : Kp _ := ⟨A1⟩
  replace R1 : Kp _ := ⟨R1⟩
  clear hT
  go_wp2_with fail
  go_loopg [8] (muR s (tk s q.r 123)) (fun gm pv wr => ∃ (j : Nat) (z : Tq) (S' : Nat → Value), Kp (TrAt wr b s z S') ∧ Kp (Gd s z) ∧ Kp (rem s z.r + 2 ≤ k) ∧ Kp (pot s z ≤ 6000) ∧ Kp (muR s z.r ≤ j) ∧ Kp (loopQ s (stmQ s k ou) j z = fin) ∧ Kp (TrTo b b S S' w wr) ∧ Kp (gm = muR s z.r))
  case atStart => exact ⟨k, { q with r := tk s q.r 123 }, S, A1, G1, k1, p1, mk, hfin, ⟨TrTo.rd R1.out⟩, ⟨rfl⟩⟩
  case round =>
    clear A1 R1 G1 p1 k1 mk hfin
    obtain ⟨j, z, S', hA, hG, hk, hp, hj, hf, hT, hm⟩ := hrel
    have hI := hB.out z wr S' hA.out hG.out
    by_cases hc : z.r.er = 0 ∧ tok s z.r ≠ 125
    · rw [decide_eq_true hc] at hI
      have hmz : muR s z.r = rem s z.r + 1 := by unfold muR; rw [if_pos hc.1]
      have hj1 := hj.out
      obtain ⟨j, rfl⟩ : ∃ i, j = i + 1 := ⟨j - 1, by omega⟩
      have Ga : Gd s { z with r := adv s z.r } := hG.out.r (adv_le hG.out.le)
      have pa : pot s { z with r := adv s z.r } ≤ 6000 := potOf (potR_adv _ _) hp.out
      have ka : rem s (adv s z.r) + 2 ≤ k := by have := rem_adv s z.r; have := hk.out; omega
      have hmu := mu_stm (s := s) (ou := ou) hk.out hc.1
      have hf2 : loopQ s (stmQ s k ou) j (stmQ s k ou { z with r := adv s z.r }) = fin := by
        rw [← hf.out]
        simp only [loopQ]
        rw [if_pos hc]
      have hS : Kp (∀ w1, RdTo wr w1 b (adv s z.r) → Calls Tryz.prog 95 #[.pointer (some ⟨b, 0, none⟩), .int .i64 ou] w1 (StPost b s S' w1 (stmQ s k ou { z with r := adv s z.r }))) := ⟨fun w1 T => ih.out ou { z with r := adv s z.r } S' w1 (hA.out.rd T) Ga ka (by show (adv s z.r).er = 0; rw [adv_er]; exact hc.1) pa⟩
      have Gn : Kp (Gd s (stmQ s k ou { z with r := adv s z.r })) := ⟨gd_stm k ou _ Ga⟩
      have pn : Kp (pot s (stmQ s k ou { z with r := adv s z.r }) ≤ 6000) := ⟨Nat.le_trans (pot_stm s k ou _ (by show (adv s z.r).er = 0; rw [adv_er]; exact hc.1)) pa⟩
      have kn : Kp (rem s (stmQ s k ou { z with r := adv s z.r }).r + 2 ≤ k) := ⟨by have := hmu.2; have := hk.out; omega⟩
      have jn : Kp (muR s (stmQ s k ou { z with r := adv s z.r }).r ≤ j ∧ muR s (stmQ s k ou { z with r := adv s z.r }).r < muR s z.r) := ⟨by have := hmu.1; omega⟩
      generalize stmQ s k ou { z with r := adv s z.r } = z2 at *
      replace hI : Kp _ := ⟨hI⟩
      replace hf2 : Kp _ := ⟨hf2⟩
      clear hc hmz hj1 Ga pa ka hmu hf hG hk hp hj
      go_wp2_with fail
      refine hI.out.mono ?_
      rintro e w2 ⟨rfl, R2⟩
      replace R2 : Kp _ := ⟨R2⟩
      go_wp2_with fail
      refine (hS.out _ R2.out).mono ?_
      rintro e w3 ⟨rfl, S3, A3, T3⟩
      replace A3 : Kp _ := ⟨A3⟩
      have T4 : Kp (TrTo b b S S3 w w3) := ⟨hT.out.trans ((TrTo.rd R2.out).trans T3)⟩
      clear T3
      go_wp2_with fail
      go_roundg (muR s z2.r)
      case measure => have h1 := hm.out; have h2 := jn.out; omega
      case rel => exact ⟨j, z2, S3, A3, Gn, kn, pn, ⟨jn.out.1⟩, hf2, T4, ⟨rfl⟩⟩
    · rw [decide_eq_false hc] at hI
      have hf2 : { z with r := adv s z.r } = fin := by
        rw [← hf.out]
        cases j with
        | zero => rfl
        | succ j => simp only [loopQ]; rw [if_neg hc]
      have hA2 : Kp (∀ w1, RdTo wr w1 b (adv s z.r) → TrAt w1 b s fin S') := ⟨fun w1 T => by rw [← hf2]; exact hA.out.rd T⟩
      replace hI : Kp _ := ⟨hI⟩
      clear hc hf2 hf hG hk hp hj hA
      go_wp2_with fail
      refine hI.out.mono ?_
      rintro e w2 ⟨rfl, R2⟩
      have A2 := hA2.out _ R2
      replace R2 : Kp _ := ⟨R2⟩
      replace A2 : Kp _ := ⟨A2⟩
      go_wp2_with fail
      refine (hE.out _ _ A2.out).mono ?_
      rintro e w3 ⟨rfl, R3⟩
      have A3 := A2.out.rd R3
      replace R3 : Kp _ := ⟨R3⟩
      replace A3 : Kp _ := ⟨A3⟩
      go_wp2_with fail
      first | go_end0 | refine bodyPost_ret (results_none rfl _ _ _) rfl ?_
      exact ⟨rfl, S', A3.out, (hT.out.trans (TrTo.rd R2.out)).trans (TrTo.rd R3.out)⟩
end Go.Proofs.YtcnbifdlkalimabGreat

/-
  The walks of the package translation, thirteenth part: '?' and '@'; for every translator.
-/
namespace Go.Proofs.YtcnbifdlkalimabGreat
open Go.RowKit
set_option linter.unusedVariables false
set_option maxRecDepth 100000

set_option maxHeartbeats 1600000 in
theorem repeat_any (b : Nat) (s : ByteArray) (hs : s.size ≤ 300) (k : Nat) (ih : Kp (StGo b s k)) (q : Tq) (x : Sq) (S : Nat → Value) (w : World) (H : TrAt w b s q S) (G : Gd s q) (ht : tok s q.r = 64) (hk : rem s q.r + 1 ≤ k) (hp : pot s q ≤ 6000) :
    Calls Tryz.prog 165 #[.pointer (some ⟨b, 0, none⟩), stA x] w (StPost b s S w (repQ s (stmQ s k) k q x)) := by
  obtain ⟨wa, hwa⟩ : ∃ wa, wa = w.alloc (.cells #[.int .i64 4, .int .i64 x.pl, .int .i64 x.ou, .int .i64 x.ta, .bool (x.rd 0), .bool (x.rd 1), .bool (x.rd 2), .bool (x.rd 3), .bool (x.rd 4), .bool (x.rd 5), .bool (x.tp 0), .bool (x.tp 1), .bool (x.tp 2), .bool (x.tp 3), .bool (x.tp 4), .bool (x.tp 5)] 109) := ⟨_, rfl⟩
  obtain ⟨E1, T0⟩ := ExPre.new H { x with k := 4 } hwa
  obtain ⟨g, hg⟩ : ∃ g, g = w.heap.size := ⟨_, rfl⟩
  rw [← hg] at E1
  have hgl : w.heap.size ≤ g := by omega
  have hV := takeR_any b s q.r 64 _ E1.H.rdAt (G.ok hs)
  have er : tk s q.r 64 = nx (adv s q.r) := by unfold tk tkIf; rw [if_pos (by rw [beq_iff_eq]; exact ht)]
  obtain ⟨r1, hr1⟩ : ∃ r1, tk s q.r 64 = r1 := ⟨_, rfl⟩
  have hlt : rem s r1 < rem s q.r := by rw [← hr1, er]; exact rem_tok (by omega)
  have hpt : potR s r1 + 8 ≤ potR s q.r := by rw [← hr1, er]; exact potR_tok (by omega)
  have G1 : Gd s { q with r := r1 } := by rw [← hr1]; exact G.r (tk_le G.le (by omega))
  have p1 : pot s { q with r := r1 } ≤ 5992 := by
    have h1 := pot_with s q r1
    have h2 := pot_r s q
    omega
  obtain ⟨y, hy⟩ : ∃ y, exQ s ({ q with r := r1 }, { x with k := 4 }) = y := ⟨_, rfl⟩
  have G2 : Gd s y.1 := by rw [← hy]; exact gd_ex G1
  have p2 : pot s y.1 ≤ 5994 := by rw [← hy]; exact Nat.le_trans (pot_ex s _) (by show pot s { q with r := r1 } + 2 ≤ 5994; omega)
  have k2 : rem s y.1.r + 2 ≤ k := by
    have h1 := ex_rem s ({ q with r := r1 }, { x with k := 4 })
    rw [hy] at h1
    have h1 : rem s y.1.r ≤ rem s r1 := h1
    omega
  have G3 : Gd s (addQ y.1 y.2) := G2.add _
  have p3 : pot s (addQ y.1 y.2) ≤ 5995 := by rw [pot_add]; omega
  have G4 : Gd s (emitQ (addQ y.1 y.2) 9 0) := G3.emit _ _
  have p4 : pot s (emitQ (addQ y.1 y.2) 9 0) ≤ 5997 := by rw [pot_emit]; omega
  obtain ⟨u, hu⟩ : ∃ u, blkQ s (stmQ s k y.1.ss.length) k (emitQ (addQ y.1 y.2) 9 0) = u := ⟨_, rfl⟩
  have G5 : Gd s u := by rw [← hu]; exact gd_blk (gd_stm k _) k G4
  have p5 : pot s u ≤ 5997 := by rw [← hu]; exact Nat.le_trans (pot_blk s _ (pot_stm s k _) k _) p4
  have k5 : rem s u.r + 2 ≤ k := by
    obtain ⟨j, rfl⟩ : ∃ j, k = j + 1 := ⟨k - 1, by omega⟩
    have h1 := blk_rem s j (j + 1) y.1.ss.length (emitQ (addQ y.1 y.2) 9 0) (by show rem s y.1.r < j + 1; omega)
    rw [hu] at h1
    have h1 : rem s u.r ≤ rem s y.1.r := h1
    omega
  have l5 : y.1.cd.length + 2 ≤ u.cd.length := by
    have h1 := len_blk s (stmQ s k y.1.ss.length) (len_stm s k _) k (emitQ (addQ y.1 y.2) 9 0)
    rw [hu] at h1
    have h2 : (emitQ (addQ y.1 y.2) 9 0).cd.length = y.1.cd.length + 2 := by show (y.1.cd ++ _).length = _; rw [List.length_append]; rfl
    omega
  have z5 : 2 * plQ y.1 + 1 < u.cd.length := by
    have := G2.ev
    unfold plQ
    omega
  have hX : Kp (∀ w1, ExPre w1 b s S g ({ q with r := r1 }, { x with k := 4 }) → Calls Tryz.prog 211 #[.pointer (some ⟨b, 0, none⟩), .pointer (some ⟨g, 0, none⟩)] w1 (ExPost b s S g w1 y)) := ⟨fun w1 E => by
    rw [← hy]
    exact expression_any b g s hs (s.size + 1) _ S w1 E G1 (by have := rem_le s r1; show rem s r1 < _; omega) (by show pot s { q with r := r1 } ≤ 7000; omega)⟩
  have hA : Kp (∀ w1 S1, TrAt w1 b s y.1 S1 → Calls Tryz.prog 213 #[.pointer (some ⟨b, 0, none⟩), stA y.2] w1 fun e w' => e = .returned (.int .i64 y.1.ss.length) ∧ ∃ S', TrAt w' b s (addQ y.1 y.2) S' ∧ TrTo b b S1 S' w1 w') := ⟨fun w1 S1 A => add_any b s _ S1 y.2 w1 A (G2.sml (by omega))⟩
  have hP : Kp (∀ w1 S1, TrAt w1 b s (addQ y.1 y.2) S1 → Calls Tryz.prog 42 #[.pointer (some ⟨b, 0, none⟩)] w1 fun e w' => e = .returned (.int .i64 (plQ y.1)) ∧ w' = w1) := ⟨fun w1 S1 A => place_any b s (addQ y.1 y.2) S1 w1 A (G3.sml (by omega))⟩
  have hE : Kp (∀ w1 S1, TrAt w1 b s (addQ y.1 y.2) S1 → Calls Tryz.prog 212 #[.pointer (some ⟨b, 0, none⟩), .int .i64 9, .int .i64 0] w1 fun e w' => e = .returned (.tuple #[]) ∧ ∃ S', TrAt w' b s (emitQ (addQ y.1 y.2) 9 0) S' ∧ TrTo b b S1 S' w1 w') := ⟨fun w1 S1 A => emit_any b s _ S1 9 0 w1 A (G3.sml (by omega)) (by omega)⟩
  have hB : Kp (∀ w1 S1, TrAt w1 b s (emitQ (addQ y.1 y.2) 9 0) S1 → Calls Tryz.prog 214 #[.pointer (some ⟨b, 0, none⟩), .int .i64 y.1.ss.length] w1 (StPost b s S1 w1 u)) := ⟨fun w1 S1 A => by
    rw [← hu]
    exact block_any b s hs k ih y.1.ss.length _ S1 w1 A G4 k2 (by omega)⟩
  have G6 : Gd s (emitQ u 8 (plQ q)) := G5.emit _ _
  have p6 : pot s (emitQ u 8 (plQ q)) ≤ 5999 := by rw [pot_emit]; omega
  have hP0 : Kp (∀ w1, TrAt w1 b s { q with r := r1 } S → Calls Tryz.prog 42 #[.pointer (some ⟨b, 0, none⟩)] w1 fun e w' => e = .returned (.int .i64 (plQ q)) ∧ w' = w1) := ⟨fun w1 A => place_any b s { q with r := r1 } S w1 A (G1.sml (Nat.le_trans p1 (by omega)))⟩
  have hJ : Kp (∀ w1 S1, TrAt w1 b s u S1 → Calls Tryz.prog 212 #[.pointer (some ⟨b, 0, none⟩), .int .i64 8, .int .i64 (plQ q)] w1 fun e w' => e = .returned (.tuple #[]) ∧ ∃ S', TrAt w' b s (emitQ u 8 (plQ q)) S' ∧ TrTo b b S1 S' w1 w') := ⟨fun w1 S1 A => emit_any b s _ S1 8 _ w1 A (G5.sml (by omega)) (by omega)⟩
  have hM : Kp (∀ w1 S1, TrAt w1 b s (emitQ u 8 (plQ q)) S1 → Calls Tryz.prog 215 #[.pointer (some ⟨b, 0, none⟩), .int .i64 (plQ y.1)] w1 fun e w' => e = .returned (.tuple #[]) ∧ TrAt w' b s (aimQ (emitQ u 8 (plQ q)) (plQ y.1)) S1 ∧ TrTo b b S1 S1 w1 w') := ⟨fun w1 S1 A => aim_any b s _ S1 _ w1 A (G6.sml (by omega)) (by
    have h2 : (emitQ u 8 (plQ q)).cd.length = u.cd.length + 2 := by show (u.cd ++ _).length = _; rw [List.length_append]; rfl
    omega)⟩
  have hQ : repQ s (stmQ s k) k q x = aimQ (emitQ u 8 (plQ q)) (plQ y.1) := by unfold repQ; dsimp only; rw [hr1, hy, hu]
  rw [hQ]
  rw [hr1] at hV
  generalize aimQ (emitQ u 8 (plQ q)) (plQ y.1) = fin at *
  generalize emitQ u 8 (plQ q) = u1 at *
  generalize plQ y.1 = zz at *
  generalize plQ q = z0 at *
  generalize y.1.ss.length = nn at *
  generalize emitQ (addQ y.1 y.2) 9 0 = v2 at *
  generalize addQ y.1 y.2 = v1 at *
  replace hV : Kp _ := ⟨hV⟩
  replace E1 : Kp _ := ⟨E1⟩
  replace T0 : Kp _ := ⟨T0⟩
  replace hwa : Kp _ := ⟨hwa⟩
  replace hg : Kp _ := ⟨hg⟩
  replace hgl : Kp _ := ⟨hgl⟩
  clear H G ht hk hp er hr1 hlt hpt G1 p1 hy G2 p2 k2 G3 p3 G4 p4 hu G5 p5 k5 l5 z5 G6 p6 hQ
  unfold stA
  go_enter Tryz.func165, Tryz.ntmps165
  go_wp2_with fail
  rw [← hwa.out, ← hg.out]
  refine hV.out.mono ?_
  rintro e w1 ⟨rfl, R1⟩
  have E2 := E1.out.rd R1
  have T2 : Kp (TrTo b g S S wa w1) := ⟨TrTo.rd R1⟩
  replace E2 : Kp _ := ⟨E2⟩
  clear R1
  go_wp2_with fail
  refine (hP0.out _ E2.out.H).mono ?_
  rintro e w2 ⟨rfl, hw⟩
  subst hw
  go_wp2_with fail
  refine (hX.out _ E2.out).mono ?_
  rintro e w3 ⟨rfl, S3, E5, T5⟩
  have T6 : Kp _ := ⟨T2.out.trans T5⟩
  have d0 := E5.W.c 0 _ rfl
  have d1 := E5.W.c 1 _ rfl
  have d2 := E5.W.c 2 _ rfl
  have d3 := E5.W.c 3 _ rfl
  have d4 := E5.W.c 4 _ rfl
  have d5 := E5.W.c 5 _ rfl
  have d6 := E5.W.c 6 _ rfl
  have d7 := E5.W.c 7 _ rfl
  have d8 := E5.W.c 8 _ rfl
  have d9 := E5.W.c 9 _ rfl
  have d10 := E5.W.c 10 _ rfl
  have d11 := E5.W.c 11 _ rfl
  have d12 := E5.W.c 12 _ rfl
  have d13 := E5.W.c 13 _ rfl
  have d14 := E5.W.c 14 _ rfl
  have d15 := E5.W.c 15 _ rfl
  replace E5 : Kp _ := ⟨E5⟩
  clear T5
  go_wp2_with fail
  refine (hA.out _ _ E5.out.H).mono ?_
  rintro e w4 ⟨rfl, S4, A4, T7⟩
  replace A4 : Kp _ := ⟨A4⟩
  have T8 : Kp (TrTo b b S S4 w w4) := ⟨(T0.out.fresh T6.out hgl.out).trans T7⟩
  clear T7 d0 d1 d2 d3 d4 d5 d6 d7 d8 d9 d10 d11 d12 d13 d14 d15
  go_wp2_with fail
  refine (hP.out _ _ A4.out).mono ?_
  rintro e w5 ⟨rfl, hw⟩
  subst hw
  go_wp2_with fail
  refine (hE.out _ _ A4.out).mono ?_
  rintro e w5 ⟨rfl, S5, A5, T9⟩
  replace A5 : Kp _ := ⟨A5⟩
  have T10 : Kp _ := ⟨T8.out.trans T9⟩
  clear T9
  go_wp2_with fail
  refine (hB.out _ _ A5.out).mono ?_
  rintro e w6 ⟨rfl, S6, A6, T11⟩
  replace A6 : Kp _ := ⟨A6⟩
  have T12 : Kp _ := ⟨T10.out.trans T11⟩
  clear T11
  go_wp2_with fail
  refine (hJ.out _ _ A6.out).mono ?_
  rintro e w7 ⟨rfl, S7, A7, T13⟩
  replace A7 : Kp _ := ⟨A7⟩
  have T14 : Kp _ := ⟨T12.out.trans T13⟩
  clear T13
  go_wp2_with fail
  refine (hM.out _ _ A7.out).mono ?_
  rintro e w8 ⟨rfl, A8, T15⟩
  replace A8 : Kp _ := ⟨A8⟩
  have T16 : Kp _ := ⟨T14.out.trans T15⟩
  clear T15
  go_wp2_with fail
  first | go_end0 | refine bodyPost_ret (results_none rfl _ _ _) rfl ?_
  exact ⟨rfl, S7, A8.out, T16.out⟩
end Go.Proofs.YtcnbifdlkalimabGreat

/-
  The walks of the package translation, fourteenth part: '?'; for every translator.
-/
namespace Go.Proofs.YtcnbifdlkalimabGreat
open Go.RowKit
set_option linter.unusedVariables false
set_option maxRecDepth 100000

set_option maxHeartbeats 1600000 in
theorem choose_any (b : Nat) (s : ByteArray) (hs : s.size ≤ 300) (k : Nat) (ih : Kp (StGo b s k)) (q : Tq) (x : Sq) (S : Nat → Value) (w : World) (H : TrAt w b s q S) (G : Gd s q) (ht : tok s q.r = 63) (hk : rem s q.r + 1 ≤ k) (hp : pot s q ≤ 6000) :
    Calls Tryz.prog 164 #[.pointer (some ⟨b, 0, none⟩), stA x] w (StPost b s S w (choQ s (stmQ s k) k q x)) := by
  obtain ⟨wa, hwa⟩ : ∃ wa, wa = w.alloc (.cells #[.int .i64 3, .int .i64 x.pl, .int .i64 x.ou, .int .i64 x.ta, .bool (x.rd 0), .bool (x.rd 1), .bool (x.rd 2), .bool (x.rd 3), .bool (x.rd 4), .bool (x.rd 5), .bool (x.tp 0), .bool (x.tp 1), .bool (x.tp 2), .bool (x.tp 3), .bool (x.tp 4), .bool (x.tp 5)] 109) := ⟨_, rfl⟩
  obtain ⟨E1, T0⟩ := ExPre.new H { x with k := 3 } hwa
  obtain ⟨g, hg⟩ : ∃ g, g = w.heap.size := ⟨_, rfl⟩
  rw [← hg] at E1
  have hgl : w.heap.size ≤ g := by omega
  have hV := takeR_any b s q.r 63 _ E1.H.rdAt (G.ok hs)
  have er : tk s q.r 63 = nx (adv s q.r) := by unfold tk tkIf; rw [if_pos (by rw [beq_iff_eq]; exact ht)]
  obtain ⟨r1, hr1⟩ : ∃ r1, tk s q.r 63 = r1 := ⟨_, rfl⟩
  have hlt : rem s r1 < rem s q.r := by rw [← hr1, er]; exact rem_tok (by omega)
  have hpt : potR s r1 + 8 ≤ potR s q.r := by rw [← hr1, er]; exact potR_tok (by omega)
  have G1 : Gd s { q with r := r1 } := by rw [← hr1]; exact G.r (tk_le G.le (by omega))
  have p1 : pot s { q with r := r1 } ≤ 5992 := by
    have h1 := pot_with s q r1
    have h2 := pot_r s q
    omega
  obtain ⟨y, hy⟩ : ∃ y, exQ s ({ q with r := r1 }, { x with k := 3 }) = y := ⟨_, rfl⟩
  have G2 : Gd s y.1 := by rw [← hy]; exact gd_ex G1
  have p2 : pot s y.1 ≤ 5994 := by rw [← hy]; exact Nat.le_trans (pot_ex s _) (by show pot s { q with r := r1 } + 2 ≤ 5994; omega)
  have k2 : rem s y.1.r + 2 ≤ k := by
    have h1 := ex_rem s ({ q with r := r1 }, { x with k := 3 })
    rw [hy] at h1
    have h1 : rem s y.1.r ≤ rem s r1 := h1
    omega
  have G3 : Gd s (addQ y.1 y.2) := G2.add _
  have p3 : pot s (addQ y.1 y.2) ≤ 5995 := by rw [pot_add]; omega
  have G4 : Gd s (emitQ (addQ y.1 y.2) 9 0) := G3.emit _ _
  have p4 : pot s (emitQ (addQ y.1 y.2) 9 0) ≤ 5997 := by rw [pot_emit]; omega
  obtain ⟨u, hu⟩ : ∃ u, blkQ s (stmQ s k y.1.ss.length) k (emitQ (addQ y.1 y.2) 9 0) = u := ⟨_, rfl⟩
  have G5 : Gd s u := by rw [← hu]; exact gd_blk (gd_stm k _) k G4
  have p5 : pot s u ≤ 5997 := by rw [← hu]; exact Nat.le_trans (pot_blk s _ (pot_stm s k _) k _) p4
  have k5 : rem s u.r + 2 ≤ k := by
    obtain ⟨j, rfl⟩ : ∃ j, k = j + 1 := ⟨k - 1, by omega⟩
    have h1 := blk_rem s j (j + 1) y.1.ss.length (emitQ (addQ y.1 y.2) 9 0) (by show rem s y.1.r < j + 1; omega)
    rw [hu] at h1
    have h1 : rem s u.r ≤ rem s y.1.r := h1
    omega
  have l5 : y.1.cd.length + 2 ≤ u.cd.length := by
    have h1 := len_blk s (stmQ s k y.1.ss.length) (len_stm s k _) k (emitQ (addQ y.1 y.2) 9 0)
    rw [hu] at h1
    have h2 : (emitQ (addQ y.1 y.2) 9 0).cd.length = y.1.cd.length + 2 := by show (y.1.cd ++ _).length = _; rw [List.length_append]; rfl
    omega
  have z5 : 2 * plQ y.1 + 1 < u.cd.length := by
    have := G2.ev
    unfold plQ
    omega
  have hX : Kp (∀ w1, ExPre w1 b s S g ({ q with r := r1 }, { x with k := 3 }) → Calls Tryz.prog 211 #[.pointer (some ⟨b, 0, none⟩), .pointer (some ⟨g, 0, none⟩)] w1 (ExPost b s S g w1 y)) := ⟨fun w1 E => by
    rw [← hy]
    exact expression_any b g s hs (s.size + 1) _ S w1 E G1 (by have := rem_le s r1; show rem s r1 < _; omega) (by show pot s { q with r := r1 } ≤ 7000; omega)⟩
  have hA : Kp (∀ w1 S1, TrAt w1 b s y.1 S1 → Calls Tryz.prog 213 #[.pointer (some ⟨b, 0, none⟩), stA y.2] w1 fun e w' => e = .returned (.int .i64 y.1.ss.length) ∧ ∃ S', TrAt w' b s (addQ y.1 y.2) S' ∧ TrTo b b S1 S' w1 w') := ⟨fun w1 S1 A => add_any b s _ S1 y.2 w1 A (G2.sml (by omega))⟩
  have hP : Kp (∀ w1 S1, TrAt w1 b s (addQ y.1 y.2) S1 → Calls Tryz.prog 42 #[.pointer (some ⟨b, 0, none⟩)] w1 fun e w' => e = .returned (.int .i64 (plQ y.1)) ∧ w' = w1) := ⟨fun w1 S1 A => place_any b s (addQ y.1 y.2) S1 w1 A (G3.sml (by omega))⟩
  have hE : Kp (∀ w1 S1, TrAt w1 b s (addQ y.1 y.2) S1 → Calls Tryz.prog 212 #[.pointer (some ⟨b, 0, none⟩), .int .i64 9, .int .i64 0] w1 fun e w' => e = .returned (.tuple #[]) ∧ ∃ S', TrAt w' b s (emitQ (addQ y.1 y.2) 9 0) S' ∧ TrTo b b S1 S' w1 w') := ⟨fun w1 S1 A => emit_any b s _ S1 9 0 w1 A (G3.sml (by omega)) (by omega)⟩
  have hB : Kp (∀ w1 S1, TrAt w1 b s (emitQ (addQ y.1 y.2) 9 0) S1 → Calls Tryz.prog 214 #[.pointer (some ⟨b, 0, none⟩), .int .i64 y.1.ss.length] w1 (StPost b s S1 w1 u)) := ⟨fun w1 S1 A => by
    rw [← hu]
    exact block_any b s hs k ih y.1.ss.length _ S1 w1 A G4 k2 (by omega)⟩
  have hT : Kp (∀ w1 S1, TrAt w1 b s u S1 → Calls Tryz.prog 158 #[.pointer (some ⟨b, 0, none⟩)] w1 fun e w' => e = .returned (.int .u8 (tok s u.r)) ∧ RdTo w1 w' b (adv s u.r)) := ⟨fun w1 S1 A => peekR_any b s u.r w1 A.rdAt (G5.ok hs)⟩
  have hQ : choQ s (stmQ s k) k q x = (if tok s u.r = 58 then aimQ (blkQ s (stmQ s k y.1.ss.length) k (aimQ (emitQ { u with r := nx (adv s u.r) } 8 0) (plQ y.1))) (plQ u) else aimQ { u with r := adv s u.r } (plQ y.1)) := by unfold choQ; dsimp only; rw [hr1, hy, hu]
  rw [hQ]
  rw [hr1] at hV
  have Ga : Gd s { u with r := adv s u.r } := G5.r (adv_le G5.le)
  have pa : pot s { u with r := adv s u.r } ≤ 5997 := potOf (potR_adv _ _) p5
  by_cases h58 : tok s u.r = 58
  · rw [if_pos h58]
    rw [h58] at hT
    have hlt2 : rem s (nx (adv s u.r)) < rem s u.r := rem_tok (by omega)
    have hpt2 : potR s (nx (adv s u.r)) + 8 ≤ potR s u.r := potR_tok (by omega)
    have G6 : Gd s { u with r := nx (adv s u.r) } := G5.r (nxt_le (by omega))
    have p6 : pot s { u with r := nx (adv s u.r) } ≤ 5989 := by
      have h1 := pot_with s u (nx (adv s u.r))
      have h2 := pot_r s u
      omega
    have G7 : Gd s (emitQ { u with r := nx (adv s u.r) } 8 0) := G6.emit _ _
    have p7 : pot s (emitQ { u with r := nx (adv s u.r) } 8 0) ≤ 5991 := by rw [pot_emit]; omega
    have l7 : (emitQ { u with r := nx (adv s u.r) } 8 0).cd.length = u.cd.length + 2 := by show (u.cd ++ _).length = _; rw [List.length_append]; rfl
    have G8 : Gd s (aimQ (emitQ { u with r := nx (adv s u.r) } 8 0) (plQ y.1)) := G7.aim _
    have p8 : pot s (aimQ (emitQ { u with r := nx (adv s u.r) } 8 0) (plQ y.1)) ≤ 5991 := by rw [pot_aim]; omega
    have l8 : (aimQ (emitQ { u with r := nx (adv s u.r) } 8 0) (plQ y.1)).cd.length = u.cd.length + 2 := by rw [← l7]; show (List.set _ _ _).length = _; rw [List.length_set]
    obtain ⟨v, hv⟩ : ∃ v, blkQ s (stmQ s k y.1.ss.length) k (aimQ (emitQ { u with r := nx (adv s u.r) } 8 0) (plQ y.1)) = v := ⟨_, rfl⟩
    have G9 : Gd s v := by rw [← hv]; exact gd_blk (gd_stm k _) k G8
    have p9 : pot s v ≤ 5991 := by rw [← hv]; exact Nat.le_trans (pot_blk s _ (pot_stm s k _) k _) p8
    have l9 : u.cd.length + 2 ≤ v.cd.length := by
      have h1 := len_blk s (stmQ s k y.1.ss.length) (len_stm s k _) k (aimQ (emitQ { u with r := nx (adv s u.r) } 8 0) (plQ y.1))
      rw [hv] at h1
      omega
    have z9 : 2 * plQ u + 1 < v.cd.length := by
      have := G5.ev
      unfold plQ
      omega
    rw [hv]
    have hS : Kp (∀ w1 S1 (z : Tq), TrAt w1 b s z S1 → z.r = adv s u.r → Calls Tryz.prog 160 #[.pointer (some ⟨b, 0, none⟩)] w1 fun e w' => e = .returned (.tuple #[]) ∧ RdTo w1 w' b (nx (adv s u.r))) := ⟨fun w1 S1 z A e => by have := A.rdAt; rw [e] at this; exact skipR_any b s (adv s u.r) w1 this (Ga.ok hs)⟩
    have hP2 : Kp (∀ w1 S1, TrAt w1 b s { u with r := nx (adv s u.r) } S1 → Calls Tryz.prog 42 #[.pointer (some ⟨b, 0, none⟩)] w1 fun e w' => e = .returned (.int .i64 (plQ u)) ∧ w' = w1) := ⟨fun w1 S1 A => place_any b s { u with r := nx (adv s u.r) } S1 w1 A (G6.sml (Nat.le_trans p6 (by omega)))⟩
    have hJ : Kp (∀ w1 S1, TrAt w1 b s { u with r := nx (adv s u.r) } S1 → Calls Tryz.prog 212 #[.pointer (some ⟨b, 0, none⟩), .int .i64 8, .int .i64 0] w1 fun e w' => e = .returned (.tuple #[]) ∧ ∃ S', TrAt w' b s (emitQ { u with r := nx (adv s u.r) } 8 0) S' ∧ TrTo b b S1 S' w1 w') := ⟨fun w1 S1 A => emit_any b s _ S1 8 0 w1 A (G6.sml (Nat.le_trans p6 (by omega))) (by omega)⟩
    have hM : Kp (∀ w1 S1, TrAt w1 b s (emitQ { u with r := nx (adv s u.r) } 8 0) S1 → Calls Tryz.prog 215 #[.pointer (some ⟨b, 0, none⟩), .int .i64 (plQ y.1)] w1 fun e w' => e = .returned (.tuple #[]) ∧ TrAt w' b s (aimQ (emitQ { u with r := nx (adv s u.r) } 8 0) (plQ y.1)) S1 ∧ TrTo b b S1 S1 w1 w') := ⟨fun w1 S1 A => aim_any b s _ S1 _ w1 A (G7.sml (Nat.le_trans p7 (by omega))) (by omega)⟩
    have hB2 : Kp (∀ w1 S1, TrAt w1 b s (aimQ (emitQ { u with r := nx (adv s u.r) } 8 0) (plQ y.1)) S1 → Calls Tryz.prog 214 #[.pointer (some ⟨b, 0, none⟩), .int .i64 y.1.ss.length] w1 (StPost b s S1 w1 v)) := ⟨fun w1 S1 A => by
      rw [← hv]
      exact block_any b s hs k ih y.1.ss.length _ S1 w1 A G8 (by show rem s (nx (adv s u.r)) + 2 ≤ k; omega) (Nat.le_trans p8 (by omega))⟩
    have hM2 : Kp (∀ w1 S1, TrAt w1 b s v S1 → Calls Tryz.prog 215 #[.pointer (some ⟨b, 0, none⟩), .int .i64 (plQ u)] w1 fun e w' => e = .returned (.tuple #[]) ∧ TrAt w' b s (aimQ v (plQ u)) S1 ∧ TrTo b b S1 S1 w1 w') := ⟨fun w1 S1 A => aim_any b s _ S1 _ w1 A (G9.sml (by omega)) z9⟩
    generalize aimQ v (plQ u) = fin at *
    generalize aimQ (emitQ { u with r := nx (adv s u.r) } 8 0) (plQ y.1) = u3 at *
    generalize emitQ { u with r := nx (adv s u.r) } 8 0 = u2 at *
    generalize plQ y.1 = zz at *
    generalize plQ u = z0 at *
    generalize y.1.ss.length = nn at *
    generalize emitQ (addQ y.1 y.2) 9 0 = v2 at *
    generalize addQ y.1 y.2 = v1 at *
    replace hV : Kp _ := ⟨hV⟩
    replace E1 : Kp _ := ⟨E1⟩
    replace T0 : Kp _ := ⟨T0⟩
    replace hwa : Kp _ := ⟨hwa⟩
    replace hg : Kp _ := ⟨hg⟩
    replace hgl : Kp _ := ⟨hgl⟩
    clear H G ht hk hp er hr1 hlt hpt G1 p1 hy G2 p2 k2 G3 p3 G4 p4 hu G5 p5 k5 l5 z5 hQ Ga pa h58 hlt2 hpt2 G6 p6 G7 p7 l7 G8 p8 l8 hv G9 p9 l9 z9
    unfold stA
    go_enter Tryz.func164, Tryz.ntmps164
    go_wp2_with fail
    rw [← hwa.out, ← hg.out]
    refine hV.out.mono ?_
    rintro e w1 ⟨rfl, R1⟩
    have E2 := E1.out.rd R1
    have T2 : Kp (TrTo b g S S wa w1) := ⟨TrTo.rd R1⟩
    replace E2 : Kp _ := ⟨E2⟩
    clear R1
    go_wp2_with fail
    refine (hX.out _ E2.out).mono ?_
    rintro e w3 ⟨rfl, S3, E5, T5⟩
    have T6 : Kp _ := ⟨T2.out.trans T5⟩
    have d0 := E5.W.c 0 _ rfl
    have d1 := E5.W.c 1 _ rfl
    have d2 := E5.W.c 2 _ rfl
    have d3 := E5.W.c 3 _ rfl
    have d4 := E5.W.c 4 _ rfl
    have d5 := E5.W.c 5 _ rfl
    have d6 := E5.W.c 6 _ rfl
    have d7 := E5.W.c 7 _ rfl
    have d8 := E5.W.c 8 _ rfl
    have d9 := E5.W.c 9 _ rfl
    have d10 := E5.W.c 10 _ rfl
    have d11 := E5.W.c 11 _ rfl
    have d12 := E5.W.c 12 _ rfl
    have d13 := E5.W.c 13 _ rfl
    have d14 := E5.W.c 14 _ rfl
    have d15 := E5.W.c 15 _ rfl
    replace E5 : Kp _ := ⟨E5⟩
    clear T5
    go_wp2_with fail
    refine (hA.out _ _ E5.out.H).mono ?_
    rintro e w4 ⟨rfl, S4, A4, T7⟩
    replace A4 : Kp _ := ⟨A4⟩
    have T8 : Kp (TrTo b b S S4 w w4) := ⟨(T0.out.fresh T6.out hgl.out).trans T7⟩
    clear T7 d0 d1 d2 d3 d4 d5 d6 d7 d8 d9 d10 d11 d12 d13 d14 d15
    go_wp2_with fail
    refine (hP.out _ _ A4.out).mono ?_
    rintro e w5 ⟨rfl, hw⟩
    subst hw
    go_wp2_with fail
    refine (hE.out _ _ A4.out).mono ?_
    rintro e w5 ⟨rfl, S5, A5, T9⟩
    replace A5 : Kp _ := ⟨A5⟩
    have T10 : Kp _ := ⟨T8.out.trans T9⟩
    clear T9
    go_wp2_with fail
    refine (hB.out _ _ A5.out).mono ?_
    rintro e w6 ⟨rfl, S6, A6, T11⟩
    replace A6 : Kp _ := ⟨A6⟩
    have T12 : Kp _ := ⟨T10.out.trans T11⟩
    clear T11
    go_wp2_with fail
    refine (hT.out _ _ A6.out).mono ?_
    rintro e w7 ⟨rfl, R7⟩
    have A7 : Kp _ := ⟨A6.out.rd R7⟩
    have T13 : Kp (TrTo b b S S6 w w7) := ⟨T12.out.trans (TrTo.rd R7)⟩
    clear R7
    go_wp2_with fail
    refine (hS.out _ _ _ A7.out rfl).mono ?_
    rintro e w8 ⟨rfl, R8⟩
    have A8 : Kp _ := ⟨A7.out.rd R8⟩
    have T14 : Kp (TrTo b b S S6 w w8) := ⟨T13.out.trans (TrTo.rd R8)⟩
    clear R8
    go_wp2_with fail
    refine (hP2.out _ _ A8.out).mono ?_
    rintro e w9 ⟨rfl, hw⟩
    subst hw
    go_wp2_with fail
    refine (hJ.out _ _ A8.out).mono ?_
    rintro e w9 ⟨rfl, S9, A9, T15⟩
    replace A9 : Kp _ := ⟨A9⟩
    have T16 : Kp _ := ⟨T14.out.trans T15⟩
    clear T15
    go_wp2_with fail
    refine (hM.out _ _ A9.out).mono ?_
    rintro e w10 ⟨rfl, A10, T17⟩
    replace A10 : Kp _ := ⟨A10⟩
    have T18 : Kp _ := ⟨T16.out.trans T17⟩
    clear T17
    go_wp2_with fail
    refine (hB2.out _ _ A10.out).mono ?_
    rintro e w11 ⟨rfl, S11, A11, T19⟩
    replace A11 : Kp _ := ⟨A11⟩
    have T20 : Kp _ := ⟨T18.out.trans T19⟩
    clear T19
    go_wp2_with fail
    refine (hM2.out _ _ A11.out).mono ?_
    rintro e w12 ⟨rfl, A12, T21⟩
    replace A12 : Kp _ := ⟨A12⟩
    have T22 : Kp _ := ⟨T20.out.trans T21⟩
    clear T21
    go_wp2_with fail
    first | go_end0 | refine bodyPost_ret (results_none rfl _ _ _) rfl ?_
    exact ⟨rfl, S11, A12.out, T22.out⟩
  · rw [if_neg h58]
    have k58 : (tok s u.r == 58) = false := beq_eq_false_iff_ne.2 h58
    have hM : Kp (∀ w1 S1, TrAt w1 b s { u with r := adv s u.r } S1 → Calls Tryz.prog 215 #[.pointer (some ⟨b, 0, none⟩), .int .i64 (plQ y.1)] w1 fun e w' => e = .returned (.tuple #[]) ∧ TrAt w' b s (aimQ { u with r := adv s u.r } (plQ y.1)) S1 ∧ TrTo b b S1 S1 w1 w') := ⟨fun w1 S1 A => aim_any b s _ S1 _ w1 A (Ga.sml (Nat.le_trans pa (by omega))) z5⟩
    generalize aimQ { u with r := adv s u.r } (plQ y.1) = fin at *
    generalize tok s u.r = tt at *
    generalize plQ y.1 = zz at *
    generalize y.1.ss.length = nn at *
    generalize emitQ (addQ y.1 y.2) 9 0 = v2 at *
    generalize addQ y.1 y.2 = v1 at *
    replace hV : Kp _ := ⟨hV⟩
    replace E1 : Kp _ := ⟨E1⟩
    replace T0 : Kp _ := ⟨T0⟩
    replace hwa : Kp _ := ⟨hwa⟩
    replace hg : Kp _ := ⟨hg⟩
    replace hgl : Kp _ := ⟨hgl⟩
    clear H G ht hk hp er hr1 hlt hpt G1 p1 hy G2 p2 k2 G3 p3 G4 p4 hu G5 p5 k5 l5 z5 hQ Ga pa h58
    unfold stA
    go_enter Tryz.func164, Tryz.ntmps164
    go_wp2_with fail
    rw [← hwa.out, ← hg.out]
    refine hV.out.mono ?_
    rintro e w1 ⟨rfl, R1⟩
    have E2 := E1.out.rd R1
    have T2 : Kp (TrTo b g S S wa w1) := ⟨TrTo.rd R1⟩
    replace E2 : Kp _ := ⟨E2⟩
    clear R1
    go_wp2_with fail
    refine (hX.out _ E2.out).mono ?_
    rintro e w3 ⟨rfl, S3, E5, T5⟩
    have T6 : Kp _ := ⟨T2.out.trans T5⟩
    have d0 := E5.W.c 0 _ rfl
    have d1 := E5.W.c 1 _ rfl
    have d2 := E5.W.c 2 _ rfl
    have d3 := E5.W.c 3 _ rfl
    have d4 := E5.W.c 4 _ rfl
    have d5 := E5.W.c 5 _ rfl
    have d6 := E5.W.c 6 _ rfl
    have d7 := E5.W.c 7 _ rfl
    have d8 := E5.W.c 8 _ rfl
    have d9 := E5.W.c 9 _ rfl
    have d10 := E5.W.c 10 _ rfl
    have d11 := E5.W.c 11 _ rfl
    have d12 := E5.W.c 12 _ rfl
    have d13 := E5.W.c 13 _ rfl
    have d14 := E5.W.c 14 _ rfl
    have d15 := E5.W.c 15 _ rfl
    replace E5 : Kp _ := ⟨E5⟩
    clear T5
    go_wp2_with fail
    refine (hA.out _ _ E5.out.H).mono ?_
    rintro e w4 ⟨rfl, S4, A4, T7⟩
    replace A4 : Kp _ := ⟨A4⟩
    have T8 : Kp (TrTo b b S S4 w w4) := ⟨(T0.out.fresh T6.out hgl.out).trans T7⟩
    clear T7 d0 d1 d2 d3 d4 d5 d6 d7 d8 d9 d10 d11 d12 d13 d14 d15
    go_wp2_with fail
    refine (hP.out _ _ A4.out).mono ?_
    rintro e w5 ⟨rfl, hw⟩
    subst hw
    go_wp2_with fail
    refine (hE.out _ _ A4.out).mono ?_
    rintro e w5 ⟨rfl, S5, A5, T9⟩
    replace A5 : Kp _ := ⟨A5⟩
    have T10 : Kp _ := ⟨T8.out.trans T9⟩
    clear T9
    go_wp2_with fail
    refine (hB.out _ _ A5.out).mono ?_
    rintro e w6 ⟨rfl, S6, A6, T11⟩
    replace A6 : Kp _ := ⟨A6⟩
    have T12 : Kp _ := ⟨T10.out.trans T11⟩
    clear T11
    go_wp2_with fail
    refine (hT.out _ _ A6.out).mono ?_
    rintro e w7 ⟨rfl, R7⟩
    have A7 : Kp _ := ⟨A6.out.rd R7⟩
    have T13 : Kp (TrTo b b S S6 w w7) := ⟨T12.out.trans (TrTo.rd R7)⟩
    clear R7
    go_wp2_with fail
    refine (hM.out _ _ A7.out).mono ?_
    rintro e w10 ⟨rfl, A10, T17⟩
    replace A10 : Kp _ := ⟨A10⟩
    have T18 : Kp _ := ⟨T13.out.trans T17⟩
    clear T17
    go_wp2_with fail
    first | go_end0 | refine bodyPost_ret (results_none rfl _ _ _) rfl ?_
    exact ⟨rfl, S6, A10.out, T18.out⟩
end Go.Proofs.YtcnbifdlkalimabGreat
