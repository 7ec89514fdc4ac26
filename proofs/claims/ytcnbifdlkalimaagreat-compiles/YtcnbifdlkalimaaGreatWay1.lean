/-
  The walks of the small functions of the packages program and paths: places behind a place, what an operation pops and pushes, sets of places; for every file and every place of it.
-/
import Derived.Test.YtcnbifdlkalimaaGreatPrg4
import Derived.Test.YtcnbifdlkalimaaGreatPlain7
namespace Go.Proofs.YtcnbifdlkalimaaGreat
open Go.RowKit
set_option linter.unusedVariables false

/-- the two places behind a place, as the program tells them: one twice where there are not two; of the end, the end -/
def nx1 (c : ByteArray) (k : Int) : Int := if k = half c then half c else if bv c (2 * k) = 8 then bv c (2 * k + 1) else k + 1
def nx2 (c : ByteArray) (k : Int) : Int := if k = half c then half c else if bv c (2 * k) = 8 ∨ bv c (2 * k) = 9 then bv c (2 * k + 1) else k + 1

theorem mem_nxt {c : ByteArray} {k q : Int} (hk : k < half c) : q ∈ nxt c k ↔ q = nx1 c k ∨ q = nx2 c k := by
  have hne : ¬ k = half c := by omega
  by_cases h8 : bv c (2 * k) = 8
  · simp [nxt, nx1, nx2, hne, h8]
  · by_cases h9 : bv c (2 * k) = 9
    · by_cases e : bv c (2 * k + 1) = k + 1
      · simp [nxt, nx1, nx2, hne, h9, e]
      · simp [nxt, nx1, nx2, hne, h9, e]
    · simp [nxt, nx1, nx2, hne, h8, h9]

set_option maxHeartbeats 400000 in
theorem instr_end (n : Int) (t v c : ByteArray) (w : World) (hc : c.size ≤ maxLen) :
    Calls Tryz.prog 88 #[.agg #[.int .i64 n, .string t, .string v, .string c], .int .i64 (half c)] w fun e w' => e = .returned (.tuple #[.int .i64 8, .int .i64 (half c)]) ∧ Below w.heap.size w w' := by
  unfold maxLen at hc
  have hh := half_bd c
  have hd : (half c : Int) = (c.size : Int) / 2 := rfl
  rw [hd] at hh ⊢
  clear hd
  go_enter Tryz.func88, Tryz.ntmps88
  go_wp2
  go_quiet (fail)
  go_wp2
  go_ret2
  exact ⟨rfl, below_drewN ((Below.refl _ _).alloc (Nat.le_refl _) _) _⟩

/-- the operation and the operand at a place, as the program tells them -/
def opP (c : ByteArray) (k : Int) : Int := if k = half c then 8 else bv c (2 * k)
def argP (c : ByteArray) (k : Int) : Int := if k = half c then half c else bv c (2 * k + 1)

theorem instrP (n k : Int) (t v c : ByteArray) (w : World) (hc : c.size ≤ maxLen) (h0 : 0 ≤ k) (hk : k ≤ half c) :
    Calls Tryz.prog 88 #[.agg #[.int .i64 n, .string t, .string v, .string c], .int .i64 k] w fun e w' => e = .returned (.tuple #[.int .i64 (opP c k), .int .i64 (argP c k)]) ∧ Below w.heap.size w w' := by
  by_cases e : k = half c
  · subst e
    rw [show opP c (half c) = 8 from if_pos rfl, show argP c (half c) = half c from if_pos rfl]
    exact instr_end n t v c w hc
  · rw [show opP c k = bv c (2 * k) from if_neg e, show argP c k = bv c (2 * k + 1) from if_neg e]
    exact instr_any n k t v c w hc h0 (by omega)

theorem opP_bd (c : ByteArray) (k : Int) : 0 ≤ opP c k ∧ opP c k ≤ 255 := by
  unfold opP
  split
  · omega
  · exact bv_bd _ _

set_option maxHeartbeats 400000 in
theorem behind_any (n k : Int) (t v c : ByteArray) (w : World) (hc : c.size ≤ maxLen) (hK : half c ≤ 200) (h0 : 0 ≤ k) (hk : k ≤ half c) :
    Calls Tryz.prog 110 #[.agg #[.int .i64 n, .string t, .string v, .string c], .int .i64 k] w fun e w' => e = .returned (.tuple #[.int .i64 (nx1 c k), .int .i64 (nx2 c k)]) ∧ Below w.heap.size w w' := by
  have hI := fun w1 => instrP n k t v c w1 hc h0 hk
  have e1 : nx1 c k = if opP c k = 8 then argP c k else k + 1 := by
    unfold nx1 opP argP
    by_cases e : k = half c
    · simp [e]
    · simp [e]
  have e2 : nx2 c k = if opP c k = 8 ∨ opP c k = 9 then argP c k else k + 1 := by
    unfold nx2 opP argP
    by_cases e : k = half c
    · simp [e]
    · simp [e]
  rw [e1, e2]
  generalize opP c k = x at *
  generalize argP c k = y at *
  clear e1 e2
  have hk2 : k ≤ 200 := by omega
  clear hk hK
  by_cases h8 : x = 8
  · subst h8
    rw [if_pos rfl, if_pos (.inl rfl)]
    go_enter Tryz.func110, Tryz.ntmps110
    go_wp2_with fail
    refine (hI _).mono ?_
    rintro e w1 ⟨rfl, hb⟩
    go_wp2
    go_ret2
    exact ⟨rfl, ((Below.refl _ _).alloc (Nat.le_refl _) _).trans (hb.mono (by simp))⟩
  · rw [if_neg h8]
    by_cases h9 : x = 9
    · subst h9
      rw [if_pos (.inr rfl)]
      go_enter Tryz.func110, Tryz.ntmps110
      go_wp2_with fail
      refine (hI _).mono ?_
      rintro e w1 ⟨rfl, hb⟩
      go_wp2
      go_ret2
      exact ⟨rfl, ((Below.refl _ _).alloc (Nat.le_refl _) _).trans (hb.mono (by simp))⟩
    · rw [if_neg (by omega)]
      have g8 : (x == 8) = false := beq_eq_false_iff_ne.2 h8
      have g9 : (x == 9) = false := beq_eq_false_iff_ne.2 h9
      go_enter Tryz.func110, Tryz.ntmps110
      go_wp2_with fail
      refine (hI _).mono ?_
      rintro e w1 ⟨rfl, hb⟩
      go_wp2
      go_ret2
      exact ⟨rfl, ((Below.refl _ _).alloc (Nat.le_refl _) _).trans (hb.mono (by simp))⟩

/-- what the program says an operation pops, and pushes -/
theorem pops_any (op : Int) (w : World) (h0 : 0 ≤ op) (h1 : op ≤ 11) :
    Calls Tryz.prog 150 #[.int .i64 op] w fun e w' => e = .returned (.int .i64 (takesF op)) ∧ w' = w := by
  have hcs : op = 0 ∨ op = 1 ∨ op = 2 ∨ op = 3 ∨ op = 4 ∨ op = 5 ∨ op = 6 ∨ op = 7 ∨ op = 8 ∨ op = 9 ∨ op = 10 ∨ op = 11 := by omega
  rcases hcs with rfl | rfl | rfl | rfl | rfl | rfl | rfl | rfl | rfl | rfl | rfl | rfl
  all_goals
    go_enter Tryz.func150, Tryz.ntmps150
    go_wp2
    go_ret
    exact ⟨rfl, rfl⟩

theorem pushes_any (op : Int) (w : World) (h0 : 0 ≤ op) (h1 : op ≤ 11) :
    Calls Tryz.prog 151 #[.int .i64 op] w fun e w' => e = .returned (.int .i64 (givesF op)) ∧ w' = w := by
  have hcs : op = 0 ∨ op = 1 ∨ op = 2 ∨ op = 3 ∨ op = 4 ∨ op = 5 ∨ op = 6 ∨ op = 7 ∨ op = 8 ∨ op = 9 ∨ op = 10 ∨ op = 11 := by omega
  rcases hcs with rfl | rfl | rfl | rfl | rfl | rfl | rfl | rfl | rfl | rfl | rfl | rfl
  all_goals
    go_enter Tryz.func151, Tryz.ntmps151
    go_wp2
    go_ret
    exact ⟨rfl, rfl⟩

set_option maxHeartbeats 400000 in
theorem level_any (n k : Int) (t v c : ByteArray) (w : World) (hv : v.size ≤ maxLen) (h0 : 0 ≤ k) (hk : k < v.size) :
    Calls Tryz.prog 158 #[.agg #[.int .i64 n, .string t, .string v, .string c], .int .i64 k] w fun e w' => e = .returned (.int .i64 (bv v k)) ∧ Below w.heap.size w w' := by
  unfold maxLen at hv
  have e0 : ((v[k.toNat]'(by omega)).toNat : Int) = bv v k := bv_get v k (by omega)
  obtain ⟨d0, d1⟩ := bv_bd v k
  generalize bv v k = x at *
  go_enter Tryz.func158, Tryz.ntmps158
  go_wp2
  go_ret
  exact ⟨rfl, (Below.refl _ _).alloc (Nat.le_refl _) _⟩
end Go.Proofs.YtcnbifdlkalimaaGreat
