/-
  The walks of the package program, first part: how a text is cut; for every text.
-/
import Derived.Test.YtcnbifdlkalimabGreatPlain4
import Derived.Test.YtcnbifdlkalimabGreatLatB
import Derived.Deep.QuietTactic
import Derived.BigQuiet
import Derived.RegionTactic
namespace Go.Proofs.YtcnbifdlkalimabGreat
open Go.RowKit
set_option linter.unusedVariables false

set_option maxHeartbeats 400000 in
theorem take_yes (s : ByteArray) (n : Int) (w : World) (hs : s.size ≤ maxLen) (h0 : 0 ≤ n) (h : n ≤ s.size) :
    Calls Tryz.prog 173 #[.string s, .int .i64 n] w fun e w' => e = .returned (.tuple #[.string (hd s n), .string (tl s n), .bool true]) ∧ Below w.heap.size w w' := by
  unfold maxLen at hs
  go_enter Tryz.func173, Tryz.ntmps173
  go_wp2
  go_quiet (fail)
  go_wp2
  go_ret3
  exact ⟨rfl, below_drewN (Below.refl _ _) _⟩

set_option maxHeartbeats 400000 in
theorem take_no (s : ByteArray) (n : Int) (w : World) (hs : s.size ≤ maxLen) (h0 : 0 ≤ n) (h : s.size < n) :
    Calls Tryz.prog 173 #[.string s, .int .i64 n] w fun e w' => e = .returned (.tuple #[.string { data := #[] }, .string { data := #[] }, .bool false]) ∧ Below w.heap.size w w' := by
  unfold maxLen at hs
  go_enter Tryz.func173, Tryz.ntmps173
  go_wp2
  go_ret3
  exact ⟨rfl, Below.refl _ _⟩

set_option maxHeartbeats 400000 in
theorem takeCount_yes (s : ByteArray) (m : Int) (w : World) (hs : s.size ≤ maxLen) (h0 : 1 ≤ s.size) (h : bv s 0 ≤ m) :
    Calls Tryz.prog 174 #[.string s, .int .i64 m] w fun e w' => e = .returned (.tuple #[.int .i64 (bv s 0), .string (tl s 1), .bool true]) ∧ Below w.heap.size w w' := by
  unfold maxLen at hs
  have e0 : ((s[0]'(by omega)).toNat : Int) = bv s 0 := bv_nat s 0 (by omega)
  obtain ⟨b0, b1⟩ := bv_bd s 0
  have hz : ((s.size : Int) == 0) = false := beq_eq_false_iff_ne.2 (by omega)
  generalize bv s 0 = v at *
  go_enter Tryz.func174, Tryz.ntmps174
  go_wp2
  go_quiet (fail)
  go_wp2
  go_ret3
  exact ⟨rfl, below_drewN (Below.refl _ _) _⟩

set_option maxHeartbeats 400000 in
theorem takeCount_no (s : ByteArray) (m : Int) (w : World) (hs : s.size ≤ maxLen) (h : s.size = 0 ∨ (1 ≤ s.size ∧ m < bv s 0)) :
    Calls Tryz.prog 174 #[.string s, .int .i64 m] w fun e w' => e = .returned (.tuple #[.int .i64 0, .string { data := #[] }, .bool false]) ∧ Below w.heap.size w w' := by
  unfold maxLen at hs
  rcases h with h | ⟨h, h2⟩
  · have hz : ((s.size : Int) == 0) = true := beq_iff_eq.2 (by omega)
    clear h
    go_enter Tryz.func174, Tryz.ntmps174
    go_wp2
    go_ret3
    exact ⟨rfl, Below.refl _ _⟩
  · have e0 : ((s[0]'(by omega)).toNat : Int) = bv s 0 := bv_nat s 0 (by omega)
    obtain ⟨b0, b1⟩ := bv_bd s 0
    have hz : ((s.size : Int) == 0) = false := beq_eq_false_iff_ne.2 (by omega)
    generalize bv s 0 = v at *
    go_enter Tryz.func174, Tryz.ntmps174
    go_wp2
    go_ret3
    exact ⟨rfl, Below.refl _ _⟩

set_option maxHeartbeats 400000 in
theorem takeCode_yes (s : ByteArray) (w : World) (hs : s.size ≤ maxLen) (h : cOk s 2 200 = true) :
    Calls Tryz.prog 111 #[.string s] w fun e w' => e = .returned (.tuple #[.string (cPart s 2), .string (cRest s 2), .bool true]) ∧ Below w.heap.size w w' := by
  obtain ⟨h1, h2, h3⟩ := cOk_t h
  obtain ⟨b0, b1⟩ := bv_bd s 0
  have ht := tl_le s 1
  go_enter Tryz.func111, Tryz.ntmps111
  go_wp2_with fail
  refine (takeCount_yes s 200 _ hs (by omega) (by omega)).mono ?_
  rintro e w1 ⟨rfl, hb1⟩
  have HP : Hid (cPart s 2 = hd (tl s 1) (2 * bv s 0) ∧ cRest s 2 = tl (tl s 1) (2 * bv s 0)) := ⟨rfl, rfl⟩
  generalize bv s 0 = v at *
  go_wp2_with fail
  refine (take_yes (tl s 1) (2 * v) _ (by omega) (by omega) (by omega)).mono ?_
  rintro e w2 ⟨rfl, hb2⟩
  go_wp2
  go_ret3
  rw [HP.out.1, HP.out.2]
  exact ⟨rfl, hb1.trans (hb2.mono hb1.size)⟩

set_option maxHeartbeats 400000 in
theorem takeCode_no (s : ByteArray) (w : World) (hs : s.size ≤ maxLen) (h : cOk s 2 200 = false) :
    Calls Tryz.prog 111 #[.string s] w fun e w' => e = .returned (.tuple #[.string { data := #[] }, .string { data := #[] }, .bool false]) ∧ Below w.heap.size w w' := by
  obtain ⟨b0, b1⟩ := bv_bd s 0
  have ht := tl_le s 1
  by_cases h0 : s.size = 0 ∨ (1 ≤ s.size ∧ 200 < bv s 0)
  · go_enter Tryz.func111, Tryz.ntmps111
    go_wp2_with fail
    refine (takeCount_no s 200 _ hs h0).mono ?_
    rintro e w1 ⟨rfl, hb1⟩
    go_wp2
    go_ret3
    exact ⟨rfl, hb1⟩
  · have h3 := cOk_f h
    go_enter Tryz.func111, Tryz.ntmps111
    go_wp2_with fail
    refine (takeCount_yes s 200 _ hs (by omega) (by omega)).mono ?_
    rintro e w1 ⟨rfl, hb1⟩
    have h4 : (tl s 1).size < 2 * bv s 0 := by omega
    clear h0 h3
    generalize bv s 0 = v at *
    go_wp2_with fail
    refine (take_no (tl s 1) (2 * v) _ (by omega) (by omega) (by omega)).mono ?_
    rintro e w2 ⟨rfl, hb2⟩
    go_wp2
    go_ret3
    exact ⟨rfl, hb1.trans (hb2.mono hb1.size)⟩

set_option maxHeartbeats 800000 in
theorem takeVars_yes (s : ByteArray) (n : Int) (w : World) (hs : s.size ≤ maxLen) (h : vOk s n = true) :
    Calls Tryz.prog 110 #[.string s, .int .i64 n] w fun e w' => e = .returned (.tuple #[.string (cPart s 1), .string (cRest s 1), .bool true]) ∧ Below w.heap.size w w' := by
  unfold vOk at h
  rw [Bool.and_eq_true] at h
  obtain ⟨h, hv⟩ := h
  obtain ⟨h1, h2, h3⟩ := cOk_t h
  obtain ⟨b0, b1⟩ := bv_bd s 0
  have ht := tl_le s 1
  have HP : Hid (cPart s 1 = hd (tl s 1) (bv s 0) ∧ cRest s 1 = tl (tl s 1) (bv s 0)) := by unfold Hid cPart cRest; rw [Int.one_mul]; exact ⟨rfl, rfl⟩
  have hsz := hd_le (tl s 1) (bv s 0)
  have hv : Hid (∀ i : Nat, i < (hd (tl s 1) (bv s 0)).size → bv (hd (tl s 1) (bv s 0)) i < n) := by
    intro i hi
    unfold varsOk at hv
    rw [HP.out.1, allTo_true] at hv
    exact of_decide_eq_true (hv i hi)
  have hmx : s.size ≤ maxLen := hs
  unfold maxLen at hmx
  go_enter Tryz.func110, Tryz.ntmps110
  go_wp2_with fail
  refine (takeCount_yes s 8 _ hs (by omega) (by omega)).mono ?_
  rintro e w1 ⟨rfl, hb1⟩
  generalize bv s 0 = v at *
  go_wp2_with fail
  refine (take_yes (tl s 1) v _ (by omega) (by omega) (by omega)).mono ?_
  rintro e w2 ⟨rfl, hb2⟩
  replace hb1 := hb1.trans (hb2.mono hb1.size)
  clear hb2
  generalize hd (tl s 1) v = vs at *
  generalize tl (tl s 1) v = rs at *
  go_wp2_with fail
  go_loop [12] (fun c => ∃ k : Nat, k ≤ vs.size ∧ c = .int .i64 k) (fun c => vs.size - (intOf c).toNat)
  case atStart => exact ⟨0, by omega, rfl⟩
  case round =>
    obtain ⟨k, hk, rfl⟩ := hrel
    by_cases hlt : k < vs.size
    · have hg := hv.out k hlt
      have e0 := bv_nat vs k hlt
      obtain ⟨c0, c1⟩ := bv_bd vs k
      generalize bv vs k = x at *
      go_wp2
      go_round
      case rel => exact ⟨k + 1, by omega, by go_num⟩
      case measure => simp [intOf]; omega
    · go_wp2
      go_ret3
      rw [HP.out.1, HP.out.2]
      exact ⟨rfl, hb1⟩

set_option maxHeartbeats 800000 in
theorem takeVars_no (s : ByteArray) (n : Int) (w : World) (hs : s.size ≤ maxLen) (h : vOk s n = false) :
    Calls Tryz.prog 110 #[.string s, .int .i64 n] w fun e w' => e = .returned (.tuple #[.string { data := #[] }, .string { data := #[] }, .bool false]) ∧ Below w.heap.size w w' := by
  obtain ⟨b0, b1⟩ := bv_bd s 0
  have ht := tl_le s 1
  have hsz := hd_le (tl s 1) (bv s 0)
  have hmx : s.size ≤ maxLen := hs
  unfold maxLen at hmx
  by_cases h0 : s.size = 0 ∨ (1 ≤ s.size ∧ 8 < bv s 0)
  · go_enter Tryz.func110, Tryz.ntmps110
    go_wp2_with fail
    refine (takeCount_no s 8 _ hs h0).mono ?_
    rintro e w1 ⟨rfl, hb1⟩
    go_wp2
    go_ret3
    exact ⟨rfl, hb1⟩
  · by_cases h3 : (bv s 0) ≤ (tl s 1).size
    · have hv : Hid (¬ ∀ i : Nat, i < (hd (tl s 1) (bv s 0)).size → bv (hd (tl s 1) (bv s 0)) i < n) := by
        intro hall
        have hc : cOk s 1 8 = true := decide_eq_true (by omega)
        unfold vOk at h
        rw [hc, Bool.true_and] at h
        unfold varsOk cPart at h
        rw [Int.one_mul, allTo_true.2 (fun i hi => decide_eq_true (hall i hi))] at h
        exact absurd h (by simp)
      go_enter Tryz.func110, Tryz.ntmps110
      go_wp2_with fail
      refine (takeCount_yes s 8 _ hs (by omega) (by omega)).mono ?_
      rintro e w1 ⟨rfl, hb1⟩
      clear h0 h
      generalize bv s 0 = v at *
      go_wp2_with fail
      refine (take_yes (tl s 1) v _ (by omega) (by omega) (by omega)).mono ?_
      rintro e w2 ⟨rfl, hb2⟩
      replace hb1 := hb1.trans (hb2.mono hb1.size)
      clear hb2
      generalize hd (tl s 1) v = vs at *
      generalize tl (tl s 1) v = rs at *
      go_wp2_with fail
      go_loop [12] (fun c => ∃ k : Nat, k ≤ vs.size ∧ c = .int .i64 k ∧ Hid (∀ i : Nat, i < k → bv vs i < n)) (fun c => vs.size - (intOf c).toNat)
      case atStart => exact ⟨0, by omega, rfl, fun i hi => absurd hi (by omega)⟩
      case round =>
        obtain ⟨k, hk, rfl, hall⟩ := hrel
        by_cases hlt : k < vs.size
        · have e0 := bv_nat vs k hlt
          obtain ⟨c0, c1⟩ := bv_bd vs k
          by_cases hg : bv vs k < n
          · have hmore : Hid (∀ i : Nat, i < k + 1 → bv vs i < n) := by
              intro i hi
              by_cases e : i = k
              · rw [e]; exact hg
              · exact hall.out i (by omega)
            generalize bv vs k = x at *
            go_wp2
            go_round
            case rel => exact ⟨k + 1, by omega, by go_num, hmore⟩
            case measure => simp [intOf]; omega
          · generalize bv vs k = x at *
            go_wp2
            go_ret3
            exact ⟨rfl, hb1⟩
        · exact absurd (fun i hi => hall.out i (by omega)) hv.out
    · go_enter Tryz.func110, Tryz.ntmps110
      go_wp2_with fail
      refine (takeCount_yes s 8 _ hs (by omega) (by omega)).mono ?_
      rintro e w1 ⟨rfl, hb1⟩
      clear h0 h
      generalize bv s 0 = v at *
      go_wp2_with fail
      refine (take_no (tl s 1) v _ (by omega) (by omega) (by omega)).mono ?_
      rintro e w2 ⟨rfl, hb2⟩
      go_wp2
      go_ret3
      exact ⟨rfl, hb1.trans (hb2.mono hb1.size)⟩
end Go.Proofs.YtcnbifdlkalimabGreat
