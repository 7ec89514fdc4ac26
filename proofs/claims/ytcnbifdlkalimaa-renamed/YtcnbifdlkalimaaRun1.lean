/-
  What Check lets through, for runs: of a text on which the answer is 0 and no error, the code keeps all that secrecy asks; no condition but those that stand in each lemma.
-/
import Derived.Test.YtcnbifdlkalimaaLabB
import Derived.Test.YtcnbifdlkalimaaPlainR
namespace Go.Proofs.Ytcnbifdlkalimaa
open Go.RowKit

theorem through_of {c v t : ByteArray} {n : Int} {h : Nat → Int} (F : FileF c v t n) (H : HeightsOk c h) (nb : ∀ q, ¬ Breaks c v t n h q) (nt : ∀ q, ¬ Trap c q) : Through c v t n h := by
  have C := F.code H
  refine ⟨fun i h0 h1 => (C.ins h0 h1).hi, ranged_of F.ok, H, fun i h0 h1 k => (C.ins h0 h1).vr k, fun i h0 h1 k => (C.ins h0 h1).lv k, fun a b d ha hb hd h1 h2 => ?_, nb, nt⟩
  exact trans_fact (by rw [← order_same]; exact F.lat.ord) a b d ha hb hd h1 h2

/-- what is let through -/
theorem check_ok {s : ByteArray} {p : Int} (hs : s.size ≤ maxLen) (h : CheckIs s p 0) : scanE s = 0 ∧ p = 0 ∧ ∃ h, Through (fCode s) (fVars s) (fTab s) (bv s 1) h := by
  rcases h with ⟨a, _, b⟩ | ⟨a, h⟩
  · exact absurd b.symm a
  · refine ⟨a, ?_⟩
    rcases h with ⟨e, _⟩ | ⟨nt, h⟩
    · exact absurd e (by decide)
    · rcases h with ⟨e, _⟩ | ⟨h, H, h2⟩
      · exact absurd e (by decide)
      · rcases h2 with ⟨e, _⟩ | ⟨_, hp, nb⟩
        · exact absurd e (by decide)
        · exact ⟨hp, h, through_of (file_ok hs a) H nb nt⟩
end Go.Proofs.Ytcnbifdlkalimaa
