/-
  The walks of the package lattice, first part: a table's length, its bytes, Below, and the three searches of an order; for every text, the levels within a table that has them.
-/
import Derived.Test.YtcnbifdlkalimabGreatPlain
namespace Go.Proofs.YtcnbifdlkalimabGreat
open Go.RowKit

set_option maxHeartbeats 400000 in
theorem below_any {s : ByteArray} {n : Int} (ht : Tab s n) (a b : Int) (w : World) (ha : 0 ≤ a) (ha' : a < n) (hb : 0 ≤ b) (hb' : b < n) :
    Calls Tryz.prog 101 #[.agg #[.int .i64 n, .string s], .int .i64 a, .int .i64 b] w fun e w' => e = .returned (.bool (le s n a b)) ∧ Below w.heap.size w w' := by
  obtain ⟨t1, t2, t3⟩ := ht
  obtain ⟨h1, h2⟩ := ix_lt n a b ha ha' hb'
  have h3 : a * n + b < s.size := by omega
  have h4 := sq_le n t1 t2
  have HL := le_get s n a b (by omega)
  have HH : Hid _ := HL
  clear HL
  go_enter Tryz.func101, Tryz.ntmps101
  go_wp2
  go_ret
  exact ⟨ret_bool HH.out, (Below.refl _ _).alloc (Nat.le_refl _) _⟩

set_option maxHeartbeats 400000 in
theorem reaches_any {s : ByteArray} {n : Int} (ht : Tab s n) (a b : Int) (w : World) (ha : 0 ≤ a) (ha' : a < n) (hb : 0 ≤ b) (hb' : b < n) :
    Calls Tryz.prog 218 #[.agg #[.int .i64 n, .string s], .int .i64 a, .int .i64 b] w fun e w' => e = .returned (.bool (pReach s n a b)) ∧ Below w.heap.size w w' := by
  obtain ⟨t1, t2, -⟩ := id ht
  go_enter Tryz.func218, Tryz.ntmps218
  go_wp2
  go_loopw [7] (fun c wr => ∃ k : Nat, (k : Int) ≤ n ∧ c = .int .i64 k ∧ Hid (∀ i : Nat, i < k → (!(le s n b i) || le s n a i) = true) ∧ Box2 w wr (.int .i64 n) (.string s)) (fun c _ => n.toNat - (intOf c).toNat)
  case atStart => exact ⟨0, by omega, rfl, fun i hi => absurd hi (by omega), Box2.mk' w _ _ _⟩
  case round =>
    obtain ⟨k, hk, rfl, hall, hbox⟩ := hrel
    obtain ⟨q0, q1, q2, q3⟩ := id hbox
    by_cases hlt : (k : Int) < n
    · go_wp2_with fail
      refine (below_any ht b k wr hb hb' (by omega) hlt).mono ?_
      rintro e w1 ⟨rfl, hb1⟩
      replace hbox := hbox.step hb1
      clear q0 q1 q2 q3 hb1
      obtain ⟨q0, q1, q2, q3⟩ := id hbox
      go_wp2_with fail
      refine (below_any ht a k w1 ha ha' (by omega) hlt).mono ?_
      rintro e w2 ⟨rfl, hb1⟩
      replace hbox := hbox.step hb1
      clear q0 q1 q2 q3 hb1
      obtain ⟨q0, q1, q2, q3⟩ := id hbox
      generalize hx : le s n b k = x
      generalize hy : le s n a k = y
      have hx : Hid _ := hx
      have hy : Hid _ := hy
      have done : Hid ((!x || y) = true → ∀ i : Nat, i < k + 1 → (!(le s n b i) || le s n a i) = true) :=
        fun h => all_more (p := fun c => !(le s n b c) || le s n a c) hall.out (by rw [hx.out, hy.out]; exact h)
      cases x <;> cases y <;> go_wp2
      rotate_left 2
      · go_ret
        refine ⟨ret_bool ?_, q0⟩
        exact (allTo_false (i := k) (by omega) (by simp [hx.out, hy.out])).symm
      all_goals
        go_roundw
        case rel => exact ⟨k + 1, by omega, by go_num, done.out rfl, hbox⟩
        case measure => simp [intOf]; omega
    · go_wp2
      go_ret
      exact ⟨ret_bool (allTo_true.2 (fun i hi => hall i (by omega))).symm, q0⟩

set_option maxHeartbeats 400000 in
theorem side_any (len : Int) (w : World) (_h0 : 0 ≤ len) :
    Calls Tryz.prog 167 #[.int .i64 len] w fun e w' => e = .returned (.int .i64 (sideF len)) ∧ w' = w := by
  go_enter Tryz.func167, Tryz.ntmps167
  go_wp2
  go_loop [3] (fun c => ∃ k : Int, 1 ≤ k ∧ k ≤ 7 ∧ c = .int .i64 k ∧ Hid (∀ j : Int, 1 ≤ j → j < k → j * j ≠ len)) (fun c => (7 - intOf c).toNat)
  case atStart => exact ⟨1, by omega, by omega, rfl, fun j h1 h2 => absurd h2 (by omega)⟩
  case round =>
    obtain ⟨k, hk1, hk2, rfl, hall⟩ := hrel
    by_cases hlt : k ≤ 6
    · have hsq := sq_le k hk1 hlt
      have hsq0 : 0 ≤ k * k := Int.mul_nonneg (by omega) (by omega)
      by_cases hq : k * k = len
      · have hq1 : (k * k == len) = true := by simpa using hq
        have hq2 : Hid _ := hq
        clear hq
        go_wp2
        go_ret
        exact ⟨ret_int (sideF_sq hk1 hlt hq2.out).symm, rfl⟩
      · have hq1 : (k * k == len) = false := by simpa using hq
        have hq2 : Hid _ := hq
        clear hq
        go_wp2
        go_round
        case rel =>
          refine ⟨k + 1, by omega, by omega, by go_num, ?_⟩
          intro j hj1 hj2
          by_cases e : j = k
          · rw [e]; exact hq2.out
          · exact hall.out j hj1 (by omega)
        case measure => simp [intOf]; omega
    · go_wp2
      go_ret
      exact ⟨ret_int (sideF_no (fun j a b => hall.out j a (by omega))).symm, rfl⟩

set_option maxHeartbeats 400000 in
theorem bits_any (s : ByteArray) (w : World) (hs : s.size ≤ maxLen) :
    Calls Tryz.prog 168 #[.string s] w fun e w' => e = .returned (.bool (bits s)) ∧ w' = w := by
  unfold maxLen at hs
  go_enter Tryz.func168, Tryz.ntmps168
  go_wp2
  go_loop [3] (fun c => ∃ k : Nat, k ≤ s.size ∧ c = .int .i64 k ∧ Hid (∀ i : Nat, i < k → isBit s i = true)) (fun c => s.size - (intOf c).toNat)
  case atStart => exact ⟨0, by omega, rfl, fun i hi => absurd hi (by omega)⟩
  case round =>
    obtain ⟨k, hk, rfl, hall⟩ := hrel
    by_cases hlt : k < s.size
    · go_wp2
      · go_round
        case rel => exact ⟨k + 1, by omega, by go_num, all_more hall.out ((isBit_iff hlt).2 (.inl (by assumption)))⟩
        case measure => simp [intOf]; omega
      · go_ret
        exact ⟨ret_bool (allTo_false hlt (isBit_no hlt (by assumption))).symm, rfl⟩
      · go_round
        case rel => exact ⟨k + 1, by omega, by go_num, all_more hall.out (isBit_or hlt (by assumption))⟩
        case measure => simp [intOf]; omega
    · go_wp2
      go_ret
      exact ⟨ret_bool (allTo_true.2 (fun i hi => hall.out i (by omega))).symm, rfl⟩
end Go.Proofs.YtcnbifdlkalimabGreat
