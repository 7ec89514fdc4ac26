/-
  The walks of the document's own answer on what is let through (package sluiceref, P5), third part: goes, after, takes, gives; for every file that is cut.
-/
import Derived.Test.YtcnbifdlkalimaaGreatChk2
import Derived.Test.YtcnbifdlkalimaaGreatPlain7
namespace Go.Proofs.YtcnbifdlkalimaaGreat
open Go.RowKit Go.Deep
set_option linter.unusedVariables false

def isNxt (c : ByteArray) (i j : Int) : Bool := decide (j ∈ nxt c i)
theorem isNxt_jump {c : ByteArray} {i j : Int} (h : bv c (2 * i) = 8) : isNxt c i j = (j == bv c (2 * i + 1)) := by
  unfold isNxt nxt
  rw [if_pos h, Bool.eq_iff_iff]
  simp
theorem isNxt_other {c : ByteArray} {i j : Int} (h : bv c (2 * i) ≠ 8) : isNxt c i j = (j == i + 1 || (bv c (2 * i) == 9 && j == bv c (2 * i + 1))) := by
  unfold isNxt nxt
  rw [if_neg h, Bool.eq_iff_iff]
  by_cases h9 : bv c (2 * i) = 9
  · by_cases ha : bv c (2 * i + 1) = i + 1
    · rw [if_neg (fun h => h.2 ha)]
      simp [h9, ha]
    · rw [if_pos ⟨h9, ha⟩]
      simp [h9]
  · rw [if_neg (fun h => h9 h.1)]
    simp [h9]

set_option maxHeartbeats 800000 in
theorem goes_ref (n i j : Int) (t v c : ByteArray) (w : World) (hc : c.size ≤ maxLen) (h0 : 0 ≤ i) (hi : i < half c) (hk : half c ≤ 200) :
    Calls Tryz.prog 108 #[.agg #[.int .i64 n, .string t, .string v, .string c, .int .i64 (half c)], .int .i64 i, .int .i64 j] w fun e w' => e = .returned (.bool (isNxt c i j)) ∧ Below w.heap.size w w' := by
  have o0 := Own.new5 w (.int .i64 n) (.string t) (.string v) (.string c) (.int .i64 (half c)) 54
  have b0 : Below w.heap.size w (w.alloc (.cells #[.int .i64 n, .string t, .string v, .string c, .int .i64 (half c)] 54)) := (Below.refl _ _).alloc (Nat.le_refl _) _
  have hJ : Kp (bv c (2 * i) = 8 → isNxt c i j = (j == bv c (2 * i + 1))) := ⟨isNxt_jump⟩
  have hO : Kp (bv c (2 * i) ≠ 8 → isNxt c i j = (j == i + 1 || (bv c (2 * i) == 9 && j == bv c (2 * i + 1)))) := ⟨isNxt_other⟩
  obtain ⟨d0, d1⟩ := bv_bd c (2 * i)
  obtain ⟨d2, d3⟩ := bv_bd c (2 * i + 1)
  generalize hz : isNxt c i j = z at *
  go_enter Tryz.func108, Tryz.ntmps108
  go_wp2_with fail
  refine (uop_any n i t v c _ hc h0 hi).mono ?_
  rintro e w1 ⟨rfl, hb1⟩
  replace b0 := b0.trans (hb1.mono (by simp))
  replace o0 := o0.step hb1
  clear hb1
  have ol := o0.lt
  have q0 := o0.c 0 _ rfl
  have q1 := o0.c 1 _ rfl
  have q2 := o0.c 2 _ rfl
  have q3 := o0.c 3 _ rfl
  have q4 := o0.c 4 _ rfl
  go_wp2_with fail
  refine (uarg_any n i t v c _ hc h0 hi).mono ?_
  rintro e w2 ⟨rfl, hb1⟩
  replace b0 := b0.trans (hb1.mono (by omega))
  clear hb1 o0 ol q0 q1 q2 q3 q4
  generalize bv c (2 * i) = x at *
  generalize bv c (2 * i + 1) = y at *
  by_cases h8 : x = 8
  · have x8 : (x == 8) = true := beq_iff_eq.2 h8
    have hv : Kp _ := ⟨hJ.out h8⟩
    clear hJ hO h8
    go_wp2
    go_ret
    exact ⟨ret_bool hv.out.symm, b0⟩
  · have x8 : (x == 8) = false := beq_eq_false_iff_ne.2 h8
    have hv : Kp _ := ⟨hO.out h8⟩
    clear hJ hO h8
    by_cases hj : j = i + 1
    · have j1 : (j == i + 1) = true := beq_iff_eq.2 hj
      replace hv : Kp (z = true) := ⟨by rw [hv.out, j1]; rfl⟩
      clear hj
      go_wp2
      go_ret
      exact ⟨ret_bool hv.out.symm, b0⟩
    · have j1 : (j == i + 1) = false := beq_eq_false_iff_ne.2 hj
      replace hv : Kp (z = (x == 9 && j == y)) := ⟨by rw [hv.out, j1]; rfl⟩
      clear hj
      by_cases h9 : x = 9
      · have x9 : (x == 9) = true := beq_iff_eq.2 h9
        replace hv : Kp (z = (j == y)) := ⟨by rw [hv.out, x9]; rfl⟩
        clear h9
        go_wp2
        go_ret
        exact ⟨ret_bool hv.out.symm, b0⟩
      · have x9 : (x == 9) = false := beq_eq_false_iff_ne.2 h9
        replace hv : Kp (z = false) := ⟨by rw [hv.out, x9]; rfl⟩
        clear h9
        go_wp2
        go_ret
        exact ⟨ret_bool hv.out.symm, b0⟩

set_option maxHeartbeats 800000 in
theorem after_ref (n i : Int) (t v c : ByteArray) (w : World) (hc : c.size ≤ maxLen) (h0 : 0 ≤ i) (hi : i < half c) (hk : half c ≤ 200) :
    Calls Tryz.prog 53 #[.agg #[.int .i64 n, .string t, .string v, .string c, .int .i64 (half c)], .int .i64 i] w fun e w' =>
      e = .returned (.slice (some ⟨w.heap.size + 1, 0, none⟩) ((half c).toNat + 1) ((half c).toNat + 1)) ∧ w'.rowIs (w.heap.size + 1) 4 ((half c).toNat + 1) (fun j => .bool (isNxt c i j)) ∧ Below w.heap.size w w' := by
  have hh := (half_bd c).1
  have hmk := run_make_row' (P := Tryz.prog) 57 4 (.bool false) 1 Tryz.underlying57 info_bool rfl .i64 .i64 ((half c).toNat + 1) (by omega) (by omega)
  rw [show ((((half c).toNat + 1) : Nat) : Int) = half c + 1 from by omega] at hmk
  go_enter Tryz.func53, Tryz.ntmps53
  go_wp2_with fail
  clear hmk
  go_loopw [6] (fun j wr => ∃ k : Nat, k ≤ ((half c).toNat + 1) ∧ j = .int .i64 k ∧ FromS n t v c w wr (fun j => decide (j < k) && isNxt c i j)) (fun j _ => ((half c).toNat + 1) - (intOf j).toNat)
  case atStart => exact ⟨0, by omega, rfl, (FromS.begin n t v c w).congr (fun j _ => by simp)⟩
  case round =>
    obtain ⟨k, hkn, rfl, hS⟩ := hrel
    have ol := hS.o.lt
    have q0 := hS.o.c 0 _ rfl
    have q1 := hS.o.c 1 _ rfl
    have q2 := hS.o.c 2 _ rfl
    have q3 := hS.o.c 3 _ rfl
    have q4 := hS.o.c 4 _ rfl
    by_cases hlt : (k : Int) ≤ half c
    · go_wp2_with fail
      refine (goes_ref n i k t v c _ hc h0 hi hk).mono ?_
      rintro e w1 ⟨rfl, hb1⟩
      replace hS := hS.step hb1
      clear hb1 ol q0 q1 q2 q3 q4
      have hold := hS.r.cell (i := k) (by omega)
      have hfr := hS.r.frozen k
      have hkb : (k : Int) < half c + 1 := by omega
      have hs2 : Kp (FromS n t v c w (w1.setCell ⟨w.heap.size + 1, k, none⟩ (.bool (isNxt c i k))) (fun j => decide (j < k + 1) && isNxt c i j)) := ⟨(hS.set k (isNxt c i k)).congr (fun j hj => by
        by_cases e : j = k
        · subst e; simp
        · rw [if_neg e]
          congr 1
          have : (j < k) ↔ (j < k + 1) := by omega
          simp [this])⟩
      go_wp2
      go_roundw
      case rel => exact ⟨k + 1, by omega, by go_num, hs2.out⟩
      case measure => simp [intOf]; omega
    · have hS0 : Kp (FromS n t v c w wr (fun j => isNxt c i j)) := ⟨hS.congr (fun j hj => by
        have : j < k := by omega
        simp [this])⟩
      go_wp2
      go_ret
      exact ⟨rfl, hS0.out.r, hS0.out.b⟩

set_option maxHeartbeats 1600000 in
theorem takes_ref (n i : Int) (t v c : ByteArray) (w : World) (hc : c.size ≤ maxLen) (h0 : 0 ≤ i) (hi : i < half c) (h11 : bv c (2 * i) ≤ 11) :
    Calls Tryz.prog 50 #[.agg #[.int .i64 n, .string t, .string v, .string c, .int .i64 (half c)], .int .i64 i] w fun e w' => e = .returned (.int .i64 (takesF (bv c (2 * i)))) ∧ Below w.heap.size w w' := by
  have b0 : Below w.heap.size w (w.alloc (.cells #[.int .i64 n, .string t, .string v, .string c, .int .i64 (half c)] 54)) := (Below.refl _ _).alloc (Nat.le_refl _) _
  obtain ⟨d0, d1⟩ := bv_bd c (2 * i)
  go_enter Tryz.func50, Tryz.ntmps50
  go_wp2_with fail
  refine (uop_any n i t v c _ hc h0 hi).mono ?_
  rintro e w1 ⟨rfl, hb1⟩
  replace b0 := b0.trans (hb1.mono (by simp))
  clear hb1
  generalize hx : bv c (2 * i) = x at *
  replace hx : Kp _ := ⟨hx⟩
  have hcs : x = 0 ∨ x = 1 ∨ x = 2 ∨ x = 3 ∨ x = 4 ∨ x = 5 ∨ x = 6 ∨ x = 7 ∨ x = 8 ∨ x = 9 ∨ x = 10 ∨ x = 11 := by omega
  rcases hcs with rfl | rfl | rfl | rfl | rfl | rfl | rfl | rfl | rfl | rfl | rfl | rfl <;> go_wp2 <;> go_ret <;> exact ⟨ret_int (by rw [hx.out]; rfl), b0⟩

set_option maxHeartbeats 1600000 in
theorem gives_ref (n i : Int) (t v c : ByteArray) (w : World) (hc : c.size ≤ maxLen) (h0 : 0 ≤ i) (hi : i < half c) (h11 : bv c (2 * i) ≤ 11) :
    Calls Tryz.prog 51 #[.agg #[.int .i64 n, .string t, .string v, .string c, .int .i64 (half c)], .int .i64 i] w fun e w' => e = .returned (.int .i64 (givesF (bv c (2 * i)))) ∧ Below w.heap.size w w' := by
  have b0 : Below w.heap.size w (w.alloc (.cells #[.int .i64 n, .string t, .string v, .string c, .int .i64 (half c)] 54)) := (Below.refl _ _).alloc (Nat.le_refl _) _
  obtain ⟨d0, d1⟩ := bv_bd c (2 * i)
  go_enter Tryz.func51, Tryz.ntmps51
  go_wp2_with fail
  refine (uop_any n i t v c _ hc h0 hi).mono ?_
  rintro e w1 ⟨rfl, hb1⟩
  replace b0 := b0.trans (hb1.mono (by simp))
  clear hb1
  generalize hx : bv c (2 * i) = x at *
  replace hx : Kp _ := ⟨hx⟩
  have hcs : x = 0 ∨ x = 1 ∨ x = 2 ∨ x = 3 ∨ x = 4 ∨ x = 5 ∨ x = 6 ∨ x = 7 ∨ x = 8 ∨ x = 9 ∨ x = 10 ∨ x = 11 := by omega
  rcases hcs with rfl | rfl | rfl | rfl | rfl | rfl | rfl | rfl | rfl | rfl | rfl | rfl <;> go_wp2 <;> go_ret <;> exact ⟨ret_int (by rw [hx.out]; rfl), b0⟩
end Go.Proofs.YtcnbifdlkalimaaGreat
