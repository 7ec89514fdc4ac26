/-
  The walk of a small file of two levels; for short texts.
-/
import Derived.Test.YtcnbifdlkalimabGreatPlain4
import Derived.Laws.IdiomStrings
namespace Go.Proofs.YtcnbifdlkalimabGreat
open Go.RowKit
set_option linter.unusedVariables false
set_option maxRecDepth 100000

/-- a file of two levels -/
def twoF (a b : ByteArray) : ByteArray := ((((({ data := #[83, 2, 49, 49, 48, 49] } : ByteArray) ++ { data := #[UInt8.ofNat a.size] }) ++ a) ++ { data := #[UInt8.ofNat (b.size / 2)] }) ++ b)

theorem conv1 (W : World) (g x : Nat) (hx : x < 256) (hc : W.cell? ⟨g, 0, none⟩ = some (.int .u8 x)) : (convert 56 9 (.slice (some ⟨g, 0, none⟩) 1 1)).run Tryz.prog W = .ok (.string { data := #[UInt8.ofNat x] }) W := by
  have h := run_convert_bytes_back (P := Tryz.prog) W 56 9 5 ⟨g, 0, none⟩ 1 [UInt8.ofNat x] Tryz.underlying56 Tryz.underlying5 Tryz.underlying9 (fun j hj => by
    have e : j = 0 := by simp at hj; omega
    subst e
    have hadd : (⟨g, 0, none⟩ : Addr).add 0 = ⟨g, 0, none⟩ := by unfold Addr.add; split <;> simp_all
    rw [hadd, hc]
    simp
    omega)
  exact h

set_option maxHeartbeats 800000 in
theorem two_any (a b : ByteArray) (w : World) (ha : a.size ≤ 100) (hb : b.size ≤ 100) :
    Calls Tryz.prog 12 #[.string a, .string b] w fun e w' => e = .returned (.string (twoF a b)) ∧ Below w.heap.size w w' := by
  go_enter Tryz.func12, Tryz.ntmps12
  go_wp2_with fail
  rw [conv1 _ _ a.size (by omega) (by simp [go_sem])]
  go_wp2_with fail
  rw [conv1 _ _ (b.size / 2) (by omega) (by simp [go_sem])]
  go_wp2_with fail
  go_ret
  exact ⟨rfl, ((Below.refl _ _).alloc (Nat.le_refl _) _).alloc (by simp) _⟩

end Go.Proofs.YtcnbifdlkalimabGreat
