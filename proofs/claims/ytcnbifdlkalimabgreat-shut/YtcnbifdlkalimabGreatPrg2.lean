/-
  The walks of the package program, second part: a file's table and its parts; for every text.
-/
import Derived.Test.YtcnbifdlkalimabGreatPrg1
namespace Go.Proofs.YtcnbifdlkalimabGreat
open Go.RowKit
set_option linter.unusedVariables false

set_option maxHeartbeats 400000 in
theorem takeTable_yes (s : ByteArray) (w : World) (hs : s.size ≤ maxLen) (h : fTabOk s = true) :
    Calls Tryz.prog 109 #[.string s] w fun e w' => e = .returned (.tuple #[.agg #[.int .i64 (bv s 1), .string (fTab s)], .string (fR1 s), .bool true]) ∧ Below w.heap.size w w' := by
  unfold fTabOk at h
  rw [Bool.and_eq_true, Bool.and_eq_true] at h
  obtain ⟨h1, h2, h3⟩ := h
  replace h2 := of_decide_eq_true h2
  have hN := fTab_n h1 h2
  rw [h3, if_pos rfl] at hN
  obtain ⟨k1, k2, k3, k4⟩ := fHead_t h1
  have hS : Kp (tabS (fTab s) = fTab s) := ⟨by unfold tabS; rw [if_neg (by omega)]⟩
  replace hN : Kp _ := ⟨hN⟩
  replace h2 : Kp _ := ⟨h2⟩
  have e0 : ((s[0]'(by omega)).toNat : Int) = bv s 0 := bv_nat s 0 (by omega)
  have e1 : ((s[1]'(by omega)).toNat : Int) = bv s 1 := bv_nat s 1 (by omega)
  have hv0 : (bv s 0 != 83) = false := by rw [k2]; rfl
  have hR : Kp ((tl s 2).size ≤ maxLen) := ⟨Nat.le_trans (tl_le s 2) hs⟩
  have hB : Kp ((fTab s).size ≤ maxLen) := ⟨Nat.le_trans (hd_le _ _) hR.out⟩
  have o0 := Own.new2 w (.int .i64 0) (.string { data := #[] }) 54
  have b0 : Below w.heap.size w (w.alloc (.cells #[.int .i64 0, .string { data := #[] }] 54)) := (Below.refl _ _).alloc (Nat.le_refl _) _
  have hT : Kp (s.extract 2 s.size = tl s 2) := ⟨rfl⟩
  have hF : Kp (hd (tl s 2) (bv s 1 * bv s 1) = fTab s ∧ tl (tl s 2) (bv s 1 * bv s 1) = fR1 s) := ⟨⟨rfl, rfl⟩⟩
  clear k2 h1 h3
  have m0 := sq_le _ k3 k4
  have m1 : 0 ≤ bv s 1 * bv s 1 := Int.mul_nonneg (by omega) (by omega)
  generalize bv s 1 = n at *
  generalize bv s 0 = v0 at *
  have hmx : s.size ≤ maxLen := hs
  unfold maxLen at hmx
  go_enter Tryz.func109, Tryz.ntmps109
  go_wp2_with fail
  rw [hT.out]
  refine (take_yes (tl s 2) (n * n) _ hR.out m1 h2.out).mono ?_
  rintro e w1 ⟨rfl, hb1⟩
  rw [hF.out.1, hF.out.2]
  replace b0 := b0.trans (hb1.mono (by simp))
  replace o0 := o0.step hb1
  clear hb1
  go_wp2_with fail
  refine (read_any (fTab s) _ hB.out).mono ?_
  rintro e w2 ⟨rfl, hb1⟩
  have o1 := o0.lt
  replace b0 := b0.trans (hb1.mono (by omega))
  replace o0 := o0.step hb1
  clear hb1 o1
  rw [hN.out, hS.out]
  have hn0 : (n == 0) = false := beq_eq_false_iff_ne.2 (by omega)
  have o1 := o0.lt
  have q0 := o0.c 0 _ rfl
  have q1 := o0.c 1 _ rfl
  have q2 := o0.f 0 _ rfl
  have q3 := o0.f 1 _ rfl
  go_wp2
  exact bodyPost_ret (v := .tuple #[.agg #[.int .i64 n, .string (fTab s)], .string (fR1 s), .bool true]) (by simp [results, Tryz.results109, go_sem, o1, q0, q1]) rfl ⟨rfl, ((b0.setCell (Nat.le_refl _) _).setCell (Nat.le_refl _) _).alloc (by simp; omega) _⟩

set_option maxHeartbeats 800000 in
theorem takeTable_no (s : ByteArray) (w : World) (hs : s.size ≤ maxLen) (h : fTabOk s = false) :
    Calls Tryz.prog 109 #[.string s] w fun e w' => e = .returned (.tuple #[.agg #[.int .i64 0, .string { data := #[] }], .string { data := #[] }, .bool false]) ∧ Below w.heap.size w w' := by
  have hmx : s.size ≤ maxLen := hs
  unfold maxLen at hmx
  have o0 := Own.new2 w (.int .i64 0) (.string { data := #[] }) 54
  have b0 : Below w.heap.size w (w.alloc (.cells #[.int .i64 0, .string { data := #[] }] 54)) := (Below.refl _ _).alloc (Nat.le_refl _) _
  cases h1 : fHead s with
  | false =>
    rcases fHead_f h1 with k | ⟨k1, k2⟩ | ⟨k1, k2, k3⟩ | ⟨k1, k2, k3, k4⟩
    · clear h h1
      go_enter Tryz.func109, Tryz.ntmps109
      go_wp2
      exact bodyPost_ret (v := .tuple #[.agg #[.int .i64 0, .string { data := #[] }], .string { data := #[] }, .bool false]) (by simp [results, Tryz.results109, go_sem]) rfl ⟨rfl, b0⟩
    · have e0 : ((s[0]'(by omega)).toNat : Int) = bv s 0 := bv_nat s 0 (by omega)
      have hv0 : (bv s 0 != 83) = true := bne_iff_ne.2 k2
      clear h h1 k2
      generalize bv s 0 = v0 at *
      go_enter Tryz.func109, Tryz.ntmps109
      go_wp2
      exact bodyPost_ret (v := .tuple #[.agg #[.int .i64 0, .string { data := #[] }], .string { data := #[] }, .bool false]) (by simp [results, Tryz.results109, go_sem]) rfl ⟨rfl, b0⟩
    · have e0 : ((s[0]'(by omega)).toNat : Int) = bv s 0 := bv_nat s 0 (by omega)
      have e1 : ((s[1]'(by omega)).toNat : Int) = bv s 1 := bv_nat s 1 (by omega)
      have hv0 : (bv s 0 != 83) = false := by rw [k2]; rfl
      obtain ⟨c0, c1⟩ := bv_bd s 1
      clear h h1 k2
      generalize bv s 1 = n at *
      generalize bv s 0 = v0 at *
      go_enter Tryz.func109, Tryz.ntmps109
      go_wp2
      exact bodyPost_ret (v := .tuple #[.agg #[.int .i64 0, .string { data := #[] }], .string { data := #[] }, .bool false]) (by simp [results, Tryz.results109, go_sem]) rfl ⟨rfl, b0⟩
    · have e0 : ((s[0]'(by omega)).toNat : Int) = bv s 0 := bv_nat s 0 (by omega)
      have e1 : ((s[1]'(by omega)).toNat : Int) = bv s 1 := bv_nat s 1 (by omega)
      have hv0 : (bv s 0 != 83) = false := by rw [k2]; rfl
      obtain ⟨c0, c1⟩ := bv_bd s 1
      clear h h1 k2
      generalize bv s 1 = n at *
      generalize bv s 0 = v0 at *
      go_enter Tryz.func109, Tryz.ntmps109
      go_wp2
      exact bodyPost_ret (v := .tuple #[.agg #[.int .i64 0, .string { data := #[] }], .string { data := #[] }, .bool false]) (by simp [results, Tryz.results109, go_sem]) rfl ⟨rfl, b0⟩
  | true =>
    obtain ⟨k1, k2, k3, k4⟩ := fHead_t h1
    unfold fTabOk at h
    rw [h1, Bool.true_and] at h
    have e0 : ((s[0]'(by omega)).toNat : Int) = bv s 0 := bv_nat s 0 (by omega)
    have e1 : ((s[1]'(by omega)).toNat : Int) = bv s 1 := bv_nat s 1 (by omega)
    have hv0 : (bv s 0 != 83) = false := by rw [k2]; rfl
    have hR : Kp ((tl s 2).size ≤ maxLen) := ⟨Nat.le_trans (tl_le s 2) hs⟩
    have hB : Kp ((fTab s).size ≤ maxLen) := ⟨Nat.le_trans (hd_le _ _) hR.out⟩
    have hT : Kp (s.extract 2 s.size = tl s 2) := ⟨rfl⟩
    have hF : Kp (hd (tl s 2) (bv s 1 * bv s 1) = fTab s ∧ tl (tl s 2) (bv s 1 * bv s 1) = fR1 s) := ⟨⟨rfl, rfl⟩⟩
    have m0 := sq_le _ k3 k4
    have m1 : 0 ≤ bv s 1 * bv s 1 := Int.mul_nonneg (by omega) (by omega)
    clear k2
    by_cases h2 : bv s 1 * bv s 1 ≤ (tl s 2).size
    · have hN := fTab_n h1 h2
      rw [decide_eq_true h2, Bool.true_and] at h
      rw [h] at hN
      replace hN : Kp (tabN (fTab s) = 0) := ⟨hN⟩
      have hS : Kp (tabS (fTab s) = { data := #[] }) := ⟨by unfold tabS; rw [if_pos hN.out]⟩
      clear h h1
      replace h2 : Kp _ := ⟨h2⟩
      generalize bv s 1 = n at *
      generalize bv s 0 = v0 at *
      go_enter Tryz.func109, Tryz.ntmps109
      go_wp2_with fail
      rw [hT.out]
      refine (take_yes (tl s 2) (n * n) _ hR.out m1 h2.out).mono ?_
      rintro e w1 ⟨rfl, hb1⟩
      rw [hF.out.1, hF.out.2]
      replace b0 := b0.trans (hb1.mono (by simp))
      replace o0 := o0.step hb1
      clear hb1
      go_wp2_with fail
      refine (read_any (fTab s) _ hB.out).mono ?_
      rintro e w2 ⟨rfl, hb1⟩
      have o1 := o0.lt
      replace b0 := b0.trans (hb1.mono (by omega))
      replace o0 := o0.step hb1
      clear hb1 o1
      rw [hN.out, hS.out]
      have o1 := o0.lt
      have q0 := o0.c 0 _ rfl
      have q1 := o0.c 1 _ rfl
      have q2 := o0.f 0 _ rfl
      have q3 := o0.f 1 _ rfl
      generalize fTab s = tb at *
      generalize fR1 s = r1 at *
      go_wp2
      exact bodyPost_ret (v := .tuple #[.agg #[.int .i64 0, .string { data := #[] }], .string { data := #[] }, .bool false]) (by simp [results, Tryz.results109, go_sem, o1, q0, q1]) rfl ⟨rfl, ((b0.setCell (Nat.le_refl _) _).setCell (Nat.le_refl _) _).alloc (by simp; omega) _⟩
    · clear h h1
      have h3 : Kp ((tl s 2).size < bv s 1 * bv s 1) := ⟨by omega⟩
      clear h2
      generalize bv s 1 = n at *
      generalize bv s 0 = v0 at *
      go_enter Tryz.func109, Tryz.ntmps109
      go_wp2_with fail
      rw [hT.out]
      refine (take_no (tl s 2) (n * n) _ hR.out m1 h3.out).mono ?_
      rintro e w1 ⟨rfl, hb1⟩
      replace b0 := b0.trans (hb1.mono (by simp))
      replace o0 := o0.step hb1
      clear hb1
      have o1 := o0.lt
      have q0 := o0.c 0 _ rfl
      have q1 := o0.c 1 _ rfl
      have q2 := o0.f 0 _ rfl
      have q3 := o0.f 1 _ rfl
      go_wp2
      exact bodyPost_ret (v := .tuple #[.agg #[.int .i64 0, .string { data := #[] }], .string { data := #[] }, .bool false]) (by simp [results, Tryz.results109, go_sem, q0, q1]) rfl ⟨rfl, (b0.setCell (Nat.le_refl _) _).setCell (Nat.le_refl _) _⟩
end Go.Proofs.YtcnbifdlkalimabGreat
