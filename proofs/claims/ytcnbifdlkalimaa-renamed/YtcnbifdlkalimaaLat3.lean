/-
  The walks of the package lattice, last part, and of sluice.Levels, Join and Meet: each answers what the document's own answer gives; for every text and all numbers.
-/
import Derived.Test.YtcnbifdlkalimaaLat2
import Derived.Test.YtcnbifdlkalimaaPlain2
namespace Go.Proofs.Ytcnbifdlkalimaa
open Go.RowKit

set_option maxHeartbeats 400000 in
theorem read_any (s : ByteArray) (w : World) (hsm : s.size ≤ maxLen) :
    Calls Try.prog 57 #[.string s] w fun e w' => e = .returned (.tuple #[.agg #[.int .i64 (tabN s), .string (tabS s)], .bool (!(tabN s == 0))]) ∧ Below w.heap.size w w' := by
  go_enter Try.func57, Try.ntmps57
  go_wp2_with fail
  refine (side_any s.size _ (by omega)).mono ?_
  rintro e w1 ⟨rfl, rfl⟩
  by_cases h0 : sideF s.size = 0
  · have hT : tabN s = 0 := by unfold tabN; rw [h0]; split <;> rfl
    have hS : Hid (tabN s = 0 ∧ tabS s = { data := #[] }) := ⟨hT, by unfold tabS; rw [if_pos hT]⟩
    rw [h0]
    clear h0 hT
    go_wp2
    exact bodyPost_ret (v := .tuple #[.agg #[.int .i64 0, .string { data := #[] }], .bool false]) (by simp [results, Try.results57, go_sem]) rfl ⟨by rw [hS.out.1, hS.out.2]; rfl, (Below.refl _ _).alloc (Nat.le_refl _) _⟩
  · have h00 : (sideF s.size == 0) = false := by simpa using h0
    have hS : Hid (bits s = true → tabN s = sideF s.size ∧ tabS s = s ∧ (tabN s == 0) = false) := by
      intro h
      have e : tabN s = sideF s.size := by unfold tabN; rw [if_pos h]
      exact ⟨e, by unfold tabS; rw [if_neg (by omega)], by rw [e]; exact h00⟩
    have hN : Hid (bits s = false → tabN s = 0 ∧ tabS s = { data := #[] }) := by
      intro h
      have e : tabN s = 0 := by unfold tabN; rw [h]; rfl
      exact ⟨e, by unfold tabS; rw [if_pos e]⟩
    clear h0
    generalize sideF s.size = n at *
    go_wp2_with fail
    refine (bits_any s _ hsm).mono ?_
    rintro e w1 ⟨rfl, rfl⟩
    generalize hx : bits s = x
    have hx : Hid _ := hx
    cases x
    · go_wp2
      exact bodyPost_ret (v := .tuple #[.agg #[.int .i64 0, .string { data := #[] }], .bool false]) (by simp [results, Try.results57, go_sem]) rfl ⟨by rw [(hN.out hx.out).1, (hN.out hx.out).2]; rfl, (Below.refl _ _).alloc (Nat.le_refl _) _⟩
    · go_wp2
      exact bodyPost_ret (v := .tuple #[.agg #[.int .i64 n, .string s], .bool true]) (by simp [results, Try.results57, go_sem]) rfl ⟨by rw [(hS.out hx.out).2.1, (hS.out hx.out).2.2, (hS.out hx.out).1]; rfl, (Below.refl _ _).alloc (Nat.le_refl _) _⟩
end Go.Proofs.Ytcnbifdlkalimaa
