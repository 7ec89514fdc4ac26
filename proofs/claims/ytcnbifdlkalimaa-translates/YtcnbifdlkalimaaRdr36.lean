/-
  The walk of the statement Translates; for every text.
-/
import Derived.Test.YtcnbifdlkalimaaRdr35
namespace Go.Proofs.Ytcnbifdlkalimaa
open Go.RowKit
set_option linter.unusedVariables false
set_option maxRecDepth 100000

set_option maxHeartbeats 400000 in
theorem numT_any (e0 : Int) (w : World) :
    Calls Try.prog 14 #[.int .i64 e0] w fun e w' => e = .returned (.int .i64 e0) ∧ w' = w := by
  go_enter Try.func14, Try.ntmps14
  go_wp2
  go_ret
  exact ⟨rfl, rfl⟩

set_option maxHeartbeats 1600000 in
theorem translates_walk (s : ByteArray) (hs : s.size ≤ maxLen) (w : World) :
    Calls Try.prog 11 #[.string s] w fun e w' => e = .returned (.bool true) ∧ Below w.heap.size w w' := by
  have h1 := fun W => translate_any s W hs
  have h2 := fun W => translateR_any s W hs
  generalize transF s = F at *
  generalize transA s = A at *
  generalize transE s = E at *
  replace h1 : Kp _ := ⟨h1⟩
  replace h2 : Kp _ := ⟨h2⟩
  go_enter Try.func11, Try.ntmps11
  go_wp2_with fail
  refine (h1.out _).mono ?_
  rintro e w1 ⟨rfl, b1⟩
  replace b1 : Kp _ := ⟨b1⟩
  go_wp2_with fail
  refine (h2.out _).mono ?_
  rintro e w2 ⟨rfl, b2⟩
  have b3 : Kp _ := ⟨b1.out.trans (b2.mono b1.out.size)⟩
  clear b2 b1
  go_wp2_with fail
  refine (numT_any _ _).mono ?_
  rintro e w3 ⟨rfl, hw⟩
  subst hw
  go_wp2
  go_ret
  exact ⟨ret_bool (by simp), b3.out⟩
end Go.Proofs.Ytcnbifdlkalimaa
