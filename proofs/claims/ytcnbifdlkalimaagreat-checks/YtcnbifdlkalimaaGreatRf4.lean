/-
  The walks of the document's own answer on files (package sluiceref, P4), fourth part: an instruction's operation, its operand, its bound; for every file that is cut.
-/
import Derived.Test.YtcnbifdlkalimaaGreatPlain4
namespace Go.Proofs.YtcnbifdlkalimaaGreat
open Go.RowKit
set_option linter.unusedVariables false

set_option maxHeartbeats 400000 in
theorem uop_any (n i : Int) (t v c : ByteArray) (w : World) (hc : c.size ≤ maxLen) (h0 : 0 ≤ i) (hi : i < half c) :
    Calls Tryz.prog 20 #[.agg #[.int .i64 n, .string t, .string v, .string c, .int .i64 (half c)], .int .i64 i] w fun e w' => e = .returned (.int .i64 (bv c (2 * i))) ∧ Below w.heap.size w w' := by
  unfold maxLen at hc
  have hh := half_bd c
  have e0 : ((c[(2 * i).toNat]'(by omega)).toNat : Int) = bv c (2 * i) := bv_get c (2 * i) (by omega)
  obtain ⟨d0, d1⟩ := bv_bd c (2 * i)
  generalize bv c (2 * i) = x at *
  have g1 : 2 * i < c.size := by omega
  have g3 : 0 ≤ 2 * i := by omega
  go_enter Tryz.func20, Tryz.ntmps20
  go_wp2
  go_ret
  exact ⟨rfl, (Below.refl _ _).alloc (Nat.le_refl _) _⟩

set_option maxHeartbeats 400000 in
theorem uarg_any (n i : Int) (t v c : ByteArray) (w : World) (hc : c.size ≤ maxLen) (h0 : 0 ≤ i) (hi : i < half c) :
    Calls Tryz.prog 47 #[.agg #[.int .i64 n, .string t, .string v, .string c, .int .i64 (half c)], .int .i64 i] w fun e w' => e = .returned (.int .i64 (bv c (2 * i + 1))) ∧ Below w.heap.size w w' := by
  unfold maxLen at hc
  have hh := half_bd c
  have e0 : ((c[(2 * i + 1).toNat]'(by omega)).toNat : Int) = bv c (2 * i + 1) := bv_get c (2 * i + 1) (by omega)
  obtain ⟨d0, d1⟩ := bv_bd c (2 * i + 1)
  generalize bv c (2 * i + 1) = x at *
  have g1 : 2 * i + 1 < c.size := by omega
  have g3 : 0 ≤ 2 * i := by omega
  go_enter Tryz.func47, Tryz.ntmps47
  go_wp2
  go_ret
  exact ⟨rfl, (Below.refl _ _).alloc (Nat.le_refl _) _⟩

/-- an operand is below it -/
def boundF (nv k n op : Int) : Int := if op = 0 then 256 else if op = 1 ∨ op = 2 then nv else if op = 8 ∨ op = 9 then k + 1 else if op = 10 ∨ op = 11 then n else 1

theorem bound_ok {nv k n op arg : Int} (h0 : 0 ≤ op) (ha : 0 ≤ arg) (ha' : arg ≤ 255) : okIns nv k n op arg = (!(decide (11 < op)) && !(decide (boundF nv k n op ≤ arg))) := by
  rw [Bool.eq_iff_iff]
  unfold okIns boundF
  simp only [decide_eq_true_eq, Bool.and_eq_true, Bool.not_eq_true', decide_eq_false_iff_not]
  by_cases h11 : 11 < op
  · constructor
    · intro h; omega
    · intro h; omega
  · have hcs : op = 0 ∨ op = 1 ∨ op = 2 ∨ op = 3 ∨ op = 4 ∨ op = 5 ∨ op = 6 ∨ op = 7 ∨ op = 8 ∨ op = 9 ∨ op = 10 ∨ op = 11 := by omega
    rcases hcs with rfl | rfl | rfl | rfl | rfl | rfl | rfl | rfl | rfl | rfl | rfl | rfl <;> simp <;> omega

set_option maxHeartbeats 1600000 in
theorem ubound_any (n i : Int) (t v c : ByteArray) (w : World) (hc : c.size ≤ maxLen) (hv : v.size ≤ maxLen) (h0 : 0 ≤ i) (hi : i < half c) :
    Calls Tryz.prog 48 #[.agg #[.int .i64 n, .string t, .string v, .string c, .int .i64 (half c)], .int .i64 i] w fun e w' => e = .returned (.int .i64 (boundF v.size (half c) n (bv c (2 * i)))) ∧ Below w.heap.size w w' := by
  have hmx : v.size ≤ maxLen := hv
  have hmx2 : c.size ≤ maxLen := hc
  unfold maxLen at hmx hmx2
  have hh := half_bd c
  have o0 := Own.new5 w (.int .i64 n) (.string t) (.string v) (.string c) (.int .i64 (half c)) 54
  have b0 : Below w.heap.size w (w.alloc (.cells #[.int .i64 n, .string t, .string v, .string c, .int .i64 (half c)] 54)) := (Below.refl _ _).alloc (Nat.le_refl _) _
  go_enter Tryz.func48, Tryz.ntmps48
  go_wp2_with fail
  refine (uop_any n i t v c _ hc h0 hi).mono ?_
  rintro e w1 ⟨rfl, hb1⟩
  replace b0 := b0.trans (hb1.mono (by simp))
  replace o0 := o0.step hb1
  clear hb1
  have ol := o0.lt
  have q0 := o0.c 0 _ rfl
  have q2 := o0.c 2 _ rfl
  have q4 := o0.c 4 _ rfl
  obtain ⟨d0, d1⟩ := bv_bd c (2 * i)
  generalize hx : bv c (2 * i) = x at *
  replace hx : Kp _ := ⟨hx⟩
  by_cases hop : x ≤ 11
  · have hcs : x = 0 ∨ x = 1 ∨ x = 2 ∨ x = 3 ∨ x = 4 ∨ x = 5 ∨ x = 6 ∨ x = 7 ∨ x = 8 ∨ x = 9 ∨ x = 10 ∨ x = 11 := by omega
    rcases hcs with rfl | rfl | rfl | rfl | rfl | rfl | rfl | rfl | rfl | rfl | rfl | rfl <;> go_wp2 <;> go_ret <;> exact ⟨ret_int (by rw [hx.out]; rfl), b0⟩
  · have hd : Kp (boundF v.size (half c) n x = 1) := ⟨by unfold boundF; rw [if_neg (by omega), if_neg (by omega), if_neg (by omega), if_neg (by omega)]⟩
    have x0 : (x == 0) = false := beq_eq_false_iff_ne.2 (by omega)
    have x1 : (x == 1) = false := beq_eq_false_iff_ne.2 (by omega)
    have x2 : (x == 2) = false := beq_eq_false_iff_ne.2 (by omega)
    have x3 : (x == 3) = false := beq_eq_false_iff_ne.2 (by omega)
    have x4 : (x == 4) = false := beq_eq_false_iff_ne.2 (by omega)
    have x5 : (x == 5) = false := beq_eq_false_iff_ne.2 (by omega)
    have x6 : (x == 6) = false := beq_eq_false_iff_ne.2 (by omega)
    have x7 : (x == 7) = false := beq_eq_false_iff_ne.2 (by omega)
    have x8 : (x == 8) = false := beq_eq_false_iff_ne.2 (by omega)
    have x9 : (x == 9) = false := beq_eq_false_iff_ne.2 (by omega)
    have x10 : (x == 10) = false := beq_eq_false_iff_ne.2 (by omega)
    have x11 : (x == 11) = false := beq_eq_false_iff_ne.2 (by omega)
    go_wp2
    go_ret
    exact ⟨ret_int (by rw [hx.out, hd.out]), b0⟩
end Go.Proofs.YtcnbifdlkalimaaGreat
