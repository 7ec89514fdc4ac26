/-
  The walks with which every statement without the document's answer begins: two small files, and which of many things is picked; no condition but those that stand in each lemma.
-/
import Derived.Test.YtcnbifdlkalimaaLabB
import Derived.Test.YtcnbifdlkalimaaPlain15
import Derived.Laws.IdiomStrings
namespace Go.Proofs.Ytcnbifdlkalimaa
open Go.RowKit
set_option linter.unusedVariables false
set_option maxRecDepth 100000

theorem kc28 : CheckIs ⟨#[83, 2, 49, 49, 48, 49, 0, 2, 10, 0, 11, 1]⟩ 0 0 := by
  have hr : Ranged ⟨#[10, 0, 11, 1]⟩ := ranged_of (v := ⟨#[]⟩) (n := 2) (by kernel_rfl)
  refine .inr ⟨by kernel_rfl, ?_⟩
  rw [show fCode ⟨#[83, 2, 49, 49, 48, 49, 0, 2, 10, 0, 11, 1]⟩ = ⟨#[10, 0, 11, 1]⟩ from by kernel_rfl, show fVars ⟨#[83, 2, 49, 49, 48, 49, 0, 2, 10, 0, 11, 1]⟩ = ⟨#[]⟩ from by kernel_rfl, show fTab ⟨#[83, 2, 49, 49, 48, 49, 0, 2, 10, 0, 11, 1]⟩ = ⟨#[49, 49, 48, 49]⟩ from by kernel_rfl, show bv ⟨#[83, 2, 49, 49, 48, 49, 0, 2, 10, 0, 11, 1]⟩ 1 = 2 from by kernel_rfl]
  exact ok_answer (hs := [0, 1, 0]) (js := [0, 0]) hr (by kernel_rfl) (by kernel_rfl)

theorem kc29 : CheckIs ⟨#[83, 2, 49, 49, 48, 49, 0, 2, 10, 1, 11, 0]⟩ 1 9 := by
  have hr : Ranged ⟨#[10, 1, 11, 0]⟩ := ranged_of (v := ⟨#[]⟩) (n := 2) (by kernel_rfl)
  refine .inr ⟨by kernel_rfl, ?_⟩
  rw [show fCode ⟨#[83, 2, 49, 49, 48, 49, 0, 2, 10, 1, 11, 0]⟩ = ⟨#[10, 1, 11, 0]⟩ from by kernel_rfl, show fVars ⟨#[83, 2, 49, 49, 48, 49, 0, 2, 10, 1, 11, 0]⟩ = ⟨#[]⟩ from by kernel_rfl, show fTab ⟨#[83, 2, 49, 49, 48, 49, 0, 2, 10, 1, 11, 0]⟩ = ⟨#[49, 49, 48, 49]⟩ from by kernel_rfl, show bv ⟨#[83, 2, 49, 49, 48, 49, 0, 2, 10, 1, 11, 0]⟩ 1 = 2 from by kernel_rfl]
  exact flow_answer (p := 1) (hs := [0, 1, 0]) (js := [0, 0]) hr (by kernel_rfl) (by kernel_rfl)
/-- a file of two levels -/
def twoF (a b : ByteArray) : ByteArray := ((((({ data := #[83, 2, 49, 49, 48, 49] } : ByteArray) ++ { data := #[UInt8.ofNat a.size] }) ++ a) ++ { data := #[UInt8.ofNat (b.size / 2)] }) ++ b)

theorem conv1 (W : World) (g x : Nat) (hx : x < 256) (hc : W.cell? ⟨g, 0, none⟩ = some (.int .u8 x)) : (convert 58 9 (.slice (some ⟨g, 0, none⟩) 1 1)).run Try.prog W = .ok (.string { data := #[UInt8.ofNat x] }) W := by
  have h := run_convert_bytes_back (P := Try.prog) W 58 9 5 ⟨g, 0, none⟩ 1 [UInt8.ofNat x] Try.underlying58 Try.underlying5 Try.underlying9 (fun j hj => by
    have e : j = 0 := by simp at hj; omega
    subst e
    have hadd : (⟨g, 0, none⟩ : Addr).add 0 = ⟨g, 0, none⟩ := by unfold Addr.add; split <;> simp_all
    rw [hadd, hc]
    simp
    omega)
  exact h

set_option maxHeartbeats 800000 in
theorem two_any (a b : ByteArray) (w : World) (ha : a.size ≤ 100) (hb : b.size ≤ 100) :
    Calls Try.prog 50 #[.string a, .string b] w fun e w' => e = .returned (.string (twoF a b)) ∧ Below w.heap.size w w' := by
  go_enter Try.func50, Try.ntmps50
  go_wp2_with fail
  rw [conv1 _ _ a.size (by omega) (by simp [go_sem])]
  go_wp2_with fail
  rw [conv1 _ _ (b.size / 2) (by omega) (by simp [go_sem])]
  go_wp2_with fail
  go_ret
  exact ⟨rfl, ((Below.refl _ _).alloc (Nat.le_refl _) _).alloc (by simp) _⟩

theorem kl1 : (ByteArray.mk #[83, 2, 49, 49, 48, 49, 0, 2, 10, 0, 11, 1]).size ≤ maxLen := by unfold maxLen; decide
theorem kl2 : (ByteArray.mk #[83, 2, 49, 49, 48, 49, 0, 2, 10, 1, 11, 0]).size ≤ maxLen := by unfold maxLen; decide

set_option maxHeartbeats 800000 in
theorem lets_any (w : World) : Calls Try.prog 24 #[] w fun e w' => e = .returned (.bool true) ∧ Below w.heap.size w w' := by
  go_enter Try.func24, Try.ntmps24
  go_wp2_with fail
  refine (two_any { data := #[] } { data := #[10, 0, 11, 1] } _ (by decide) (by decide)).mono ?_
  rintro e w1 ⟨rfl, b0⟩
  rw [show twoF { data := #[] } { data := #[10, 0, 11, 1] } = { data := #[83, 2, 49, 49, 48, 49, 0, 2, 10, 0, 11, 1] } from by kernel_rfl]
  go_wp2_with fail
  refine (check_any _ _ kl1).mono ?_
  rintro e w2 ⟨p, x, rfl, hC, b1⟩
  obtain ⟨rfl, rfl⟩ := check_one (fun h => ranged_of (file_ok kl1 h).ok) hC.out kc28
  replace b0 := b0.trans (b1.mono b0.size)
  clear b1 hC
  go_wp2_with fail
  refine (two_any { data := #[] } { data := #[10, 1, 11, 0] } _ (by decide) (by decide)).mono ?_
  rintro e w3 ⟨rfl, b1⟩
  rw [show twoF { data := #[] } { data := #[10, 1, 11, 0] } = { data := #[83, 2, 49, 49, 48, 49, 0, 2, 10, 1, 11, 0] } from by kernel_rfl]
  replace b0 := b0.trans (b1.mono b0.size)
  clear b1
  go_wp2_with fail
  refine (check_any _ _ kl2).mono ?_
  rintro e w4 ⟨p, x, rfl, hC, b1⟩
  obtain ⟨rfl, rfl⟩ := check_one (fun h => ranged_of (file_ok kl2 h).ok) hC.out kc29
  replace b0 := b0.trans (b1.mono b0.size)
  clear b1 hC
  go_wp2
  go_ret
  exact ⟨rfl, b0⟩

/-- which of n things the number c speaks of -/
def pickF (c n : Int) : Int := if c < 0 then -(c + 1) % n else c % n
theorem pickF_bd {c n : Int} (h : 1 ≤ n) : 0 ≤ pickF c n ∧ pickF c n < n := by
  unfold pickF
  split
  · exact ⟨Int.emod_nonneg _ (by omega), Int.emod_lt_of_pos _ (by omega)⟩
  · exact ⟨Int.emod_nonneg _ (by omega), Int.emod_lt_of_pos _ (by omega)⟩

set_option maxHeartbeats 400000 in
theorem pickN_any (c n : Int) (w : World) (hc : -9223372036854775808 ≤ c ∧ c ≤ 9223372036854775807) (h1 : 1 ≤ n) (h6 : n ≤ 1000000) :
    Calls Try.prog 22 #[.int .i64 c, .int .i64 n] w fun e w' => e = .returned (.int .i64 (pickF c n)) ∧ w' = w := by
  obtain ⟨c1, c2⟩ := hc
  have hn0 : (n == 0) = false := by simp; omega
  by_cases h0 : c < 0
  · have e0 : -((c + 1).tmod n) = -(c + 1) % n := by rw [← Int.neg_tmod, Int.tmod_eq_emod_of_nonneg (by omega)]
    have hp := Int.emod_nonneg (-(c + 1)) (b := n) (by omega)
    have hq := Int.emod_lt_of_pos (-(c + 1)) (b := n) (by omega)
    have e1 : Kp (pickF c n = -((c + 1).tmod n)) := ⟨by unfold pickF; rw [if_pos h0, e0]⟩
    rw [← e0] at hp hq
    clear e0
    go_enter Try.func22, Try.ntmps22
    go_wp2
    go_ret
    exact ⟨ret_int e1.out.symm, rfl⟩
  · have hp := Int.emod_nonneg c (b := n) (by omega)
    have hq := Int.emod_lt_of_pos c (b := n) (by omega)
    have e1 : Kp (pickF c n = c % n) := ⟨by unfold pickF; rw [if_neg h0]⟩
    go_enter Try.func22, Try.ntmps22
    go_wp2
    go_ret
    exact ⟨ret_int e1.out.symm, rfl⟩
end Go.Proofs.Ytcnbifdlkalimaa
