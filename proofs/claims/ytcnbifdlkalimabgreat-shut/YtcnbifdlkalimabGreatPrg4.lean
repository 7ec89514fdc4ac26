/-
  The walks of the package program, fourth part: the code of a file; for every file that is cut.
-/
import Derived.Test.YtcnbifdlkalimabGreatPlain4
import Derived.Deep.QuietTactic
import Derived.BigQuiet
import Derived.RegionTactic
namespace Go.Proofs.YtcnbifdlkalimabGreat
open Go.RowKit
set_option linter.unusedVariables false

set_option maxHeartbeats 400000 in
theorem length_any (n : Int) (t v c : ByteArray) (w : World) (hc : c.size ≤ maxLen) :
    Calls Tryz.prog 68 #[.agg #[.int .i64 n, .string t, .string v, .string c]] w fun e w' => e = .returned (.int .i64 (half c)) ∧ Below w.heap.size w w' := by
  unfold maxLen at hc
  go_enter Tryz.func68, Tryz.ntmps68
  go_wp2
  go_ret
  exact ⟨rfl, (Below.refl _ _).alloc (Nat.le_refl _) _⟩

set_option maxHeartbeats 400000 in
theorem instr_any (n k : Int) (t v c : ByteArray) (w : World) (hc : c.size ≤ maxLen) (h0 : 0 ≤ k) (hk : k < half c) :
    Calls Tryz.prog 114 #[.agg #[.int .i64 n, .string t, .string v, .string c], .int .i64 k] w fun e w' => e = .returned (.tuple #[.int .i64 (bv c (2 * k)), .int .i64 (bv c (2 * k + 1))]) ∧ Below w.heap.size w w' := by
  unfold maxLen at hc
  have hh := half_bd c
  have hd : (half c : Int) = (c.size : Int) / 2 := rfl
  rw [hd] at hk hh
  clear hd
  have e0 : ((c[(2 * k).toNat]'(by omega)).toNat : Int) = bv c (2 * k) := bv_get c (2 * k) (by omega)
  have e1 : ((c[(2 * k + 1).toNat]'(by omega)).toNat : Int) = bv c (2 * k + 1) := bv_get c (2 * k + 1) (by omega)
  have c0 := bv_bd c (2 * k)
  have c1 := bv_bd c (2 * k + 1)
  obtain ⟨d0, d1⟩ := c0
  obtain ⟨d2, d3⟩ := c1
  generalize bv c (2 * k) = x at *
  generalize bv c (2 * k + 1) = y at *
  have g1 : 2 * k < c.size := by omega
  have g2 : 2 * k + 1 < c.size := by omega
  have g3 : 0 ≤ 2 * k := by omega
  go_enter Tryz.func114, Tryz.ntmps114
  go_wp2
  go_quiet (fail)
  go_wp2
  go_ret2
  exact ⟨rfl, below_drewN ((Below.refl _ _).alloc (Nat.le_refl _) _) _⟩

set_option maxHeartbeats 1600000 in
theorem allows_any (n op arg : Int) (t v c : ByteArray) (w : World) (hc : c.size ≤ maxLen) (hv : v.size ≤ maxLen) (h0 : 0 ≤ op) (ha : 0 ≤ arg) :
    Calls Tryz.prog 115 #[.agg #[.int .i64 n, .string t, .string v, .string c], .int .i64 op, .int .i64 arg] w fun e w' => e = .returned (.bool (okIns v.size (half c) n op arg)) ∧ Below w.heap.size w w' := by
  have hmx : v.size ≤ maxLen := hv
  unfold maxLen at hmx
  have o0 := Own.new4 w (.int .i64 n) (.string t) (.string v) (.string c) 76
  have b0 : Below w.heap.size w (w.alloc (.cells #[.int .i64 n, .string t, .string v, .string c] 76)) := (Below.refl _ _).alloc (Nat.le_refl _) _
  by_cases hop : op ≤ 11
  · have hcs : op = 0 ∨ op = 1 ∨ op = 2 ∨ op = 3 ∨ op = 4 ∨ op = 5 ∨ op = 6 ∨ op = 7 ∨ op = 8 ∨ op = 9 ∨ op = 10 ∨ op = 11 := by omega
    rcases hcs with rfl | rfl | rfl | rfl | rfl | rfl | rfl | rfl | rfl | rfl | rfl | rfl
    · have hd : Kp (okIns v.size (half c) n 0 arg = true) := ⟨decide_eq_true (by omega)⟩
      go_enter Tryz.func115, Tryz.ntmps115
      go_wp2
      go_ret
      exact ⟨ret_bool hd.out.symm, b0⟩
    · have hd : Kp (okIns v.size (half c) n 1 arg = decide (arg < v.size)) := ⟨by rw [Bool.eq_iff_iff]; simp [okIns]⟩
      go_enter Tryz.func115, Tryz.ntmps115
      go_wp2
      go_ret
      exact ⟨ret_bool hd.out.symm, b0⟩
    · have hd : Kp (okIns v.size (half c) n 2 arg = decide (arg < v.size)) := ⟨by rw [Bool.eq_iff_iff]; simp [okIns]⟩
      go_enter Tryz.func115, Tryz.ntmps115
      go_wp2
      go_ret
      exact ⟨ret_bool hd.out.symm, b0⟩
    · have hd : Kp (okIns v.size (half c) n 3 arg = (arg == 0)) := ⟨by rw [Bool.eq_iff_iff]; simp [okIns]⟩
      go_enter Tryz.func115, Tryz.ntmps115
      go_wp2
      go_ret
      exact ⟨ret_bool hd.out.symm, b0⟩
    · have hd : Kp (okIns v.size (half c) n 4 arg = (arg == 0)) := ⟨by rw [Bool.eq_iff_iff]; simp [okIns]⟩
      go_enter Tryz.func115, Tryz.ntmps115
      go_wp2
      go_ret
      exact ⟨ret_bool hd.out.symm, b0⟩
    · have hd : Kp (okIns v.size (half c) n 5 arg = (arg == 0)) := ⟨by rw [Bool.eq_iff_iff]; simp [okIns]⟩
      go_enter Tryz.func115, Tryz.ntmps115
      go_wp2
      go_ret
      exact ⟨ret_bool hd.out.symm, b0⟩
    · have hd : Kp (okIns v.size (half c) n 6 arg = (arg == 0)) := ⟨by rw [Bool.eq_iff_iff]; simp [okIns]⟩
      go_enter Tryz.func115, Tryz.ntmps115
      go_wp2
      go_ret
      exact ⟨ret_bool hd.out.symm, b0⟩
    · have hd : Kp (okIns v.size (half c) n 7 arg = (arg == 0)) := ⟨by rw [Bool.eq_iff_iff]; simp [okIns]⟩
      go_enter Tryz.func115, Tryz.ntmps115
      go_wp2
      go_ret
      exact ⟨ret_bool hd.out.symm, b0⟩
    · have hd : Kp (okIns v.size (half c) n 8 arg = decide (arg ≤ half c)) := ⟨by rw [Bool.eq_iff_iff]; simp [okIns]⟩
      go_enter Tryz.func115, Tryz.ntmps115
      go_wp2_with fail
      refine (length_any n t v c _ hc).mono ?_
      rintro e w1 ⟨rfl, hb1⟩
      replace b0 := b0.trans (hb1.mono (by simp))
      go_wp2
      go_ret
      exact ⟨ret_bool hd.out.symm, b0⟩
    · have hd : Kp (okIns v.size (half c) n 9 arg = decide (arg ≤ half c)) := ⟨by rw [Bool.eq_iff_iff]; simp [okIns]⟩
      go_enter Tryz.func115, Tryz.ntmps115
      go_wp2_with fail
      refine (length_any n t v c _ hc).mono ?_
      rintro e w1 ⟨rfl, hb1⟩
      replace b0 := b0.trans (hb1.mono (by simp))
      go_wp2
      go_ret
      exact ⟨ret_bool hd.out.symm, b0⟩
    · have hd : Kp (okIns v.size (half c) n 10 arg = decide (arg < n)) := ⟨by rw [Bool.eq_iff_iff]; simp [okIns]⟩
      go_enter Tryz.func115, Tryz.ntmps115
      go_wp2
      go_ret
      exact ⟨ret_bool hd.out.symm, b0⟩
    · have hd : Kp (okIns v.size (half c) n 11 arg = decide (arg < n)) := ⟨by rw [Bool.eq_iff_iff]; simp [okIns]⟩
      go_enter Tryz.func115, Tryz.ntmps115
      go_wp2
      go_ret
      exact ⟨ret_bool hd.out.symm, b0⟩
  · have hd : Kp (okIns v.size (half c) n op arg = false) := ⟨decide_eq_false (by omega)⟩
    have x0 : (op == 0) = false := beq_eq_false_iff_ne.2 (by omega)
    have x1 : (op == 1) = false := beq_eq_false_iff_ne.2 (by omega)
    have x2 : (op == 2) = false := beq_eq_false_iff_ne.2 (by omega)
    have x3 : (op == 3) = false := beq_eq_false_iff_ne.2 (by omega)
    have x4 : (op == 4) = false := beq_eq_false_iff_ne.2 (by omega)
    have x5 : (op == 5) = false := beq_eq_false_iff_ne.2 (by omega)
    have x6 : (op == 6) = false := beq_eq_false_iff_ne.2 (by omega)
    have x7 : (op == 7) = false := beq_eq_false_iff_ne.2 (by omega)
    have x8 : (op == 8) = false := beq_eq_false_iff_ne.2 (by omega)
    have x9 : (op == 9) = false := beq_eq_false_iff_ne.2 (by omega)
    have x10 : (op == 10) = false := beq_eq_false_iff_ne.2 (by omega)
    have x11 : (op == 11) = false := beq_eq_false_iff_ne.2 (by omega)
    go_enter Tryz.func115, Tryz.ntmps115
    go_wp2
    go_ret
    exact ⟨ret_bool hd.out.symm, b0⟩

set_option maxHeartbeats 800000 in
theorem sound_any (n : Int) (t v c : ByteArray) (w : World) (hc : c.size ≤ maxLen) (hv : v.size ≤ maxLen) :
    Calls Tryz.prog 59 #[.agg #[.int .i64 n, .string t, .string v, .string c]] w fun e w' => e = .returned (.bool (codeOk c v n)) ∧ Below w.heap.size w w' := by
  have hh := half_bd c
  have hmx : c.size ≤ maxLen := hc
  unfold maxLen at hmx
  have o0 := Own.new4 w (.int .i64 n) (.string t) (.string v) (.string c) 76
  have b0 : Below w.heap.size w (w.alloc (.cells #[.int .i64 n, .string t, .string v, .string c] 76)) := (Below.refl _ _).alloc (Nat.le_refl _) _
  go_enter Tryz.func59, Tryz.ntmps59
  go_wp2_with fail
  refine (length_any n t v c _ hc).mono ?_
  rintro e w1 ⟨rfl, hb1⟩
  replace b0 := b0.trans (hb1.mono (by simp))
  replace o0 := o0.step hb1
  clear hb1
  have hK : Kp (half c = half c) := ⟨rfl⟩
  go_wp2_with fail
  go_loopw [4] (fun i wr => ∃ k : Nat, (k : Int) ≤ half c ∧ i = .int .i64 k ∧ Kp (∀ i : Nat, i < k → insOk c v n i = true) ∧ Below w.heap.size w wr ∧ Own wr w.heap.size [.int .i64 n, .string t, .string v, .string c]) (fun i _ => (half c).toNat - (intOf i).toNat)
  case atStart => exact ⟨0, by omega, rfl, ⟨fun i hi => absurd hi (by omega)⟩, b0, o0⟩
  case round =>
    clear b0 o0
    obtain ⟨k, hk, rfl, hall, b0, o0⟩ := hrel
    have o1 := o0.lt
    have q0 := o0.c 0 _ rfl
    have q1 := o0.c 1 _ rfl
    have q2 := o0.c 2 _ rfl
    have q3 := o0.c 3 _ rfl
    by_cases hlt : (k : Int) < half c
    · go_wp2_with fail
      refine (instr_any n k t v c _ hc (by omega) hlt).mono ?_
      rintro e w2 ⟨rfl, hb1⟩
      replace b0 := b0.trans (hb1.mono (by omega))
      replace o0 := o0.step hb1
      clear hb1 o1 q0 q1 q2 q3
      have o1 := o0.lt
      have q0 := o0.c 0 _ rfl
      have q1 := o0.c 1 _ rfl
      have q2 := o0.c 2 _ rfl
      have q3 := o0.c 3 _ rfl
      obtain ⟨d0, d1⟩ := bv_bd c (2 * k)
      obtain ⟨d2, d3⟩ := bv_bd c (2 * k + 1)
      go_wp2_with fail
      refine (allows_any n (bv c (2 * k)) (bv c (2 * k + 1)) t v c _ hc hv d0 d2).mono ?_
      rintro e w3 ⟨rfl, hb1⟩
      replace b0 := b0.trans (hb1.mono (by omega))
      replace o0 := o0.step hb1
      clear hb1 o1 q0 q1 q2 q3
      have hI : insOk c v n k = okIns v.size (half c) n (bv c (2 * k)) (bv c (2 * k + 1)) := rfl
      rw [← hI]
      clear hI
      generalize hx : insOk c v n k = x
      replace hx : Kp _ := ⟨hx⟩
      cases x <;> go_wp2
      · go_ret
        exact ⟨ret_bool (allTo_false (i := k) (by omega) hx.out).symm, b0⟩
      · go_roundw
        case rel => exact ⟨k + 1, by omega, by go_num, ⟨all_more hall.out hx.out⟩, b0, o0⟩
        case measure => simp [intOf]; omega
    · go_wp2
      go_ret
      exact ⟨ret_bool (allTo_true.2 (fun i hi => hall.out i (by omega))).symm, b0⟩
end Go.Proofs.YtcnbifdlkalimabGreat
