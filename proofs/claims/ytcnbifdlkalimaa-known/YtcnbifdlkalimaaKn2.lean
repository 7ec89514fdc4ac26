/-
  The answers of the files that the statement Known speaks of, by the document's words; no condition.
-/
import Derived.Test.YtcnbifdlkalimaaPlain15
namespace Go.Proofs.Ytcnbifdlkalimaa
open Go.RowKit
set_option maxRecDepth 100000

theorem kc15 : CheckIs ⟨#[83, 2, 49, 49, 48, 49, 1, 0, 6, 0, 1, 10, 1, 9, 5, 2, 0, 8, 6, 11, 1]⟩ 3 9 := by
  have hr : Ranged ⟨#[0, 1, 10, 1, 9, 5, 2, 0, 8, 6, 11, 1]⟩ := ranged_of (v := ⟨#[0]⟩) (n := 2) (by kernel_rfl)
  refine .inr ⟨by kernel_rfl, ?_⟩
  rw [show fCode ⟨#[83, 2, 49, 49, 48, 49, 1, 0, 6, 0, 1, 10, 1, 9, 5, 2, 0, 8, 6, 11, 1]⟩ = ⟨#[0, 1, 10, 1, 9, 5, 2, 0, 8, 6, 11, 1]⟩ from by kernel_rfl, show fVars ⟨#[83, 2, 49, 49, 48, 49, 1, 0, 6, 0, 1, 10, 1, 9, 5, 2, 0, 8, 6, 11, 1]⟩ = ⟨#[0]⟩ from by kernel_rfl, show fTab ⟨#[83, 2, 49, 49, 48, 49, 1, 0, 6, 0, 1, 10, 1, 9, 5, 2, 0, 8, 6, 11, 1]⟩ = ⟨#[49, 49, 48, 49]⟩ from by kernel_rfl, show bv ⟨#[83, 2, 49, 49, 48, 49, 1, 0, 6, 0, 1, 10, 1, 9, 5, 2, 0, 8, 6, 11, 1]⟩ 1 = 2 from by kernel_rfl]
  exact flow_answer (p := 3) (hs := [0, 1, 2, 1, 0, 1, 0]) (js := [0, 0, 6, 0, 0, 0]) hr (by kernel_rfl) (by kernel_rfl)

theorem kc16 : CheckIs ⟨#[83, 2, 49, 49, 48, 49, 0, 2, 3, 0, 8, 0]⟩ 0 7 := by
  have hr : Ranged ⟨#[3, 0, 8, 0]⟩ := ranged_of (v := ⟨#[]⟩) (n := 2) (by kernel_rfl)
  refine .inr ⟨by kernel_rfl, ?_⟩
  rw [show fCode ⟨#[83, 2, 49, 49, 48, 49, 0, 2, 3, 0, 8, 0]⟩ = ⟨#[3, 0, 8, 0]⟩ from by kernel_rfl, show fVars ⟨#[83, 2, 49, 49, 48, 49, 0, 2, 3, 0, 8, 0]⟩ = ⟨#[]⟩ from by kernel_rfl, show fTab ⟨#[83, 2, 49, 49, 48, 49, 0, 2, 3, 0, 8, 0]⟩ = ⟨#[49, 49, 48, 49]⟩ from by kernel_rfl, show bv ⟨#[83, 2, 49, 49, 48, 49, 0, 2, 3, 0, 8, 0]⟩ 1 = 2 from by kernel_rfl]
  exact loop_yes hr (by kernel_rfl)

theorem kc17 : CheckIs ⟨#[83, 2, 49, 49, 48, 49, 0, 1, 8, 0]⟩ 0 7 := by
  have hr : Ranged ⟨#[8, 0]⟩ := ranged_of (v := ⟨#[]⟩) (n := 2) (by kernel_rfl)
  refine .inr ⟨by kernel_rfl, ?_⟩
  rw [show fCode ⟨#[83, 2, 49, 49, 48, 49, 0, 1, 8, 0]⟩ = ⟨#[8, 0]⟩ from by kernel_rfl, show fVars ⟨#[83, 2, 49, 49, 48, 49, 0, 1, 8, 0]⟩ = ⟨#[]⟩ from by kernel_rfl, show fTab ⟨#[83, 2, 49, 49, 48, 49, 0, 1, 8, 0]⟩ = ⟨#[49, 49, 48, 49]⟩ from by kernel_rfl, show bv ⟨#[83, 2, 49, 49, 48, 49, 0, 1, 8, 0]⟩ 1 = 2 from by kernel_rfl]
  exact loop_yes hr (by kernel_rfl)

theorem kc18 : CheckIs ⟨#[83, 2, 49, 49, 48, 49, 0, 3, 0, 1, 9, 3, 8, 2]⟩ 2 7 := by
  have hr : Ranged ⟨#[0, 1, 9, 3, 8, 2]⟩ := ranged_of (v := ⟨#[]⟩) (n := 2) (by kernel_rfl)
  refine .inr ⟨by kernel_rfl, ?_⟩
  rw [show fCode ⟨#[83, 2, 49, 49, 48, 49, 0, 3, 0, 1, 9, 3, 8, 2]⟩ = ⟨#[0, 1, 9, 3, 8, 2]⟩ from by kernel_rfl, show fVars ⟨#[83, 2, 49, 49, 48, 49, 0, 3, 0, 1, 9, 3, 8, 2]⟩ = ⟨#[]⟩ from by kernel_rfl, show fTab ⟨#[83, 2, 49, 49, 48, 49, 0, 3, 0, 1, 9, 3, 8, 2]⟩ = ⟨#[49, 49, 48, 49]⟩ from by kernel_rfl, show bv ⟨#[83, 2, 49, 49, 48, 49, 0, 3, 0, 1, 9, 3, 8, 2]⟩ 1 = 2 from by kernel_rfl]
  exact loop_yes hr (by kernel_rfl)

theorem kc19 : CheckIs ⟨#[83, 2, 49, 49, 48, 49, 0, 2, 8, 2, 3, 0]⟩ 0 0 := by
  have hr : Ranged ⟨#[8, 2, 3, 0]⟩ := ranged_of (v := ⟨#[]⟩) (n := 2) (by kernel_rfl)
  refine .inr ⟨by kernel_rfl, ?_⟩
  rw [show fCode ⟨#[83, 2, 49, 49, 48, 49, 0, 2, 8, 2, 3, 0]⟩ = ⟨#[8, 2, 3, 0]⟩ from by kernel_rfl, show fVars ⟨#[83, 2, 49, 49, 48, 49, 0, 2, 8, 2, 3, 0]⟩ = ⟨#[]⟩ from by kernel_rfl, show fTab ⟨#[83, 2, 49, 49, 48, 49, 0, 2, 8, 2, 3, 0]⟩ = ⟨#[49, 49, 48, 49]⟩ from by kernel_rfl, show bv ⟨#[83, 2, 49, 49, 48, 49, 0, 2, 8, 2, 3, 0]⟩ 1 = 2 from by kernel_rfl]
  exact ok_answer (hs := [0, 0, 0]) (js := [0, 0]) hr (by kernel_rfl) (by kernel_rfl)

theorem kc20 : CheckIs ⟨#[83, 2, 49, 49, 48, 49, 0, 4, 10, 1, 9, 4, 10, 1, 9, 4]⟩ 0 0 := by
  have hr : Ranged ⟨#[10, 1, 9, 4, 10, 1, 9, 4]⟩ := ranged_of (v := ⟨#[]⟩) (n := 2) (by kernel_rfl)
  refine .inr ⟨by kernel_rfl, ?_⟩
  rw [show fCode ⟨#[83, 2, 49, 49, 48, 49, 0, 4, 10, 1, 9, 4, 10, 1, 9, 4]⟩ = ⟨#[10, 1, 9, 4, 10, 1, 9, 4]⟩ from by kernel_rfl, show fVars ⟨#[83, 2, 49, 49, 48, 49, 0, 4, 10, 1, 9, 4, 10, 1, 9, 4]⟩ = ⟨#[]⟩ from by kernel_rfl, show fTab ⟨#[83, 2, 49, 49, 48, 49, 0, 4, 10, 1, 9, 4, 10, 1, 9, 4]⟩ = ⟨#[49, 49, 48, 49]⟩ from by kernel_rfl, show bv ⟨#[83, 2, 49, 49, 48, 49, 0, 4, 10, 1, 9, 4, 10, 1, 9, 4]⟩ 1 = 2 from by kernel_rfl]
  exact ok_answer (hs := [0, 1, 0, 1, 0]) (js := [0, 4, 0, 4]) hr (by kernel_rfl) (by kernel_rfl)

theorem kc21 : CheckIs ⟨#[83, 2, 49, 49, 48, 49, 1, 0, 6, 10, 1, 9, 6, 10, 1, 9, 6, 0, 1, 2, 0]⟩ 5 9 := by
  have hr : Ranged ⟨#[10, 1, 9, 6, 10, 1, 9, 6, 0, 1, 2, 0]⟩ := ranged_of (v := ⟨#[0]⟩) (n := 2) (by kernel_rfl)
  refine .inr ⟨by kernel_rfl, ?_⟩
  rw [show fCode ⟨#[83, 2, 49, 49, 48, 49, 1, 0, 6, 10, 1, 9, 6, 10, 1, 9, 6, 0, 1, 2, 0]⟩ = ⟨#[10, 1, 9, 6, 10, 1, 9, 6, 0, 1, 2, 0]⟩ from by kernel_rfl, show fVars ⟨#[83, 2, 49, 49, 48, 49, 1, 0, 6, 10, 1, 9, 6, 10, 1, 9, 6, 0, 1, 2, 0]⟩ = ⟨#[0]⟩ from by kernel_rfl, show fTab ⟨#[83, 2, 49, 49, 48, 49, 1, 0, 6, 10, 1, 9, 6, 10, 1, 9, 6, 0, 1, 2, 0]⟩ = ⟨#[49, 49, 48, 49]⟩ from by kernel_rfl, show bv ⟨#[83, 2, 49, 49, 48, 49, 1, 0, 6, 10, 1, 9, 6, 10, 1, 9, 6, 0, 1, 2, 0]⟩ 1 = 2 from by kernel_rfl]
  exact flow_answer (p := 5) (hs := [0, 1, 0, 1, 0, 1, 0]) (js := [0, 6, 0, 6, 0, 0]) hr (by kernel_rfl) (by kernel_rfl)

theorem kc22 : CheckIs ⟨#[83, 2, 49, 49, 48, 49, 1, 0, 6, 10, 1, 9, 4, 10, 1, 9, 4, 0, 1, 2, 0]⟩ 0 0 := by
  have hr : Ranged ⟨#[10, 1, 9, 4, 10, 1, 9, 4, 0, 1, 2, 0]⟩ := ranged_of (v := ⟨#[0]⟩) (n := 2) (by kernel_rfl)
  refine .inr ⟨by kernel_rfl, ?_⟩
  rw [show fCode ⟨#[83, 2, 49, 49, 48, 49, 1, 0, 6, 10, 1, 9, 4, 10, 1, 9, 4, 0, 1, 2, 0]⟩ = ⟨#[10, 1, 9, 4, 10, 1, 9, 4, 0, 1, 2, 0]⟩ from by kernel_rfl, show fVars ⟨#[83, 2, 49, 49, 48, 49, 1, 0, 6, 10, 1, 9, 4, 10, 1, 9, 4, 0, 1, 2, 0]⟩ = ⟨#[0]⟩ from by kernel_rfl, show fTab ⟨#[83, 2, 49, 49, 48, 49, 1, 0, 6, 10, 1, 9, 4, 10, 1, 9, 4, 0, 1, 2, 0]⟩ = ⟨#[49, 49, 48, 49]⟩ from by kernel_rfl, show bv ⟨#[83, 2, 49, 49, 48, 49, 1, 0, 6, 10, 1, 9, 4, 10, 1, 9, 4, 0, 1, 2, 0]⟩ 1 = 2 from by kernel_rfl]
  exact ok_answer (hs := [0, 1, 0, 1, 0, 1, 0]) (js := [0, 4, 0, 4, 0, 0]) hr (by kernel_rfl) (by kernel_rfl)

theorem kc23 : CheckIs ⟨#[83, 3, 49, 49, 49, 48, 49, 49, 48, 48, 49, 0, 2, 10, 1, 11, 2]⟩ 0 0 := by
  have hr : Ranged ⟨#[10, 1, 11, 2]⟩ := ranged_of (v := ⟨#[]⟩) (n := 3) (by kernel_rfl)
  refine .inr ⟨by kernel_rfl, ?_⟩
  rw [show fCode ⟨#[83, 3, 49, 49, 49, 48, 49, 49, 48, 48, 49, 0, 2, 10, 1, 11, 2]⟩ = ⟨#[10, 1, 11, 2]⟩ from by kernel_rfl, show fVars ⟨#[83, 3, 49, 49, 49, 48, 49, 49, 48, 48, 49, 0, 2, 10, 1, 11, 2]⟩ = ⟨#[]⟩ from by kernel_rfl, show fTab ⟨#[83, 3, 49, 49, 49, 48, 49, 49, 48, 48, 49, 0, 2, 10, 1, 11, 2]⟩ = ⟨#[49, 49, 49, 48, 49, 49, 48, 48, 49]⟩ from by kernel_rfl, show bv ⟨#[83, 3, 49, 49, 49, 48, 49, 49, 48, 48, 49, 0, 2, 10, 1, 11, 2]⟩ 1 = 3 from by kernel_rfl]
  exact ok_answer (hs := [0, 1, 0]) (js := [0, 0]) hr (by kernel_rfl) (by kernel_rfl)

theorem kc24 : CheckIs ⟨#[83, 3, 49, 49, 49, 48, 49, 49, 48, 48, 49, 0, 2, 10, 2, 11, 1]⟩ 1 9 := by
  have hr : Ranged ⟨#[10, 2, 11, 1]⟩ := ranged_of (v := ⟨#[]⟩) (n := 3) (by kernel_rfl)
  refine .inr ⟨by kernel_rfl, ?_⟩
  rw [show fCode ⟨#[83, 3, 49, 49, 49, 48, 49, 49, 48, 48, 49, 0, 2, 10, 2, 11, 1]⟩ = ⟨#[10, 2, 11, 1]⟩ from by kernel_rfl, show fVars ⟨#[83, 3, 49, 49, 49, 48, 49, 49, 48, 48, 49, 0, 2, 10, 2, 11, 1]⟩ = ⟨#[]⟩ from by kernel_rfl, show fTab ⟨#[83, 3, 49, 49, 49, 48, 49, 49, 48, 48, 49, 0, 2, 10, 2, 11, 1]⟩ = ⟨#[49, 49, 49, 48, 49, 49, 48, 48, 49]⟩ from by kernel_rfl, show bv ⟨#[83, 3, 49, 49, 49, 48, 49, 49, 48, 48, 49, 0, 2, 10, 2, 11, 1]⟩ 1 = 3 from by kernel_rfl]
  exact flow_answer (p := 1) (hs := [0, 1, 0]) (js := [0, 0]) hr (by kernel_rfl) (by kernel_rfl)

theorem kc25 : CheckIs ⟨#[83, 4, 49, 49, 49, 49, 48, 49, 48, 49, 48, 48, 49, 49, 48, 48, 48, 49, 0, 2, 10, 1, 11, 2]⟩ 1 9 := by
  have hr : Ranged ⟨#[10, 1, 11, 2]⟩ := ranged_of (v := ⟨#[]⟩) (n := 4) (by kernel_rfl)
  refine .inr ⟨by kernel_rfl, ?_⟩
  rw [show fCode ⟨#[83, 4, 49, 49, 49, 49, 48, 49, 48, 49, 48, 48, 49, 49, 48, 48, 48, 49, 0, 2, 10, 1, 11, 2]⟩ = ⟨#[10, 1, 11, 2]⟩ from by kernel_rfl, show fVars ⟨#[83, 4, 49, 49, 49, 49, 48, 49, 48, 49, 48, 48, 49, 49, 48, 48, 48, 49, 0, 2, 10, 1, 11, 2]⟩ = ⟨#[]⟩ from by kernel_rfl, show fTab ⟨#[83, 4, 49, 49, 49, 49, 48, 49, 48, 49, 48, 48, 49, 49, 48, 48, 48, 49, 0, 2, 10, 1, 11, 2]⟩ = ⟨#[49, 49, 49, 49, 48, 49, 48, 49, 48, 48, 49, 49, 48, 48, 48, 49]⟩ from by kernel_rfl, show bv ⟨#[83, 4, 49, 49, 49, 49, 48, 49, 48, 49, 48, 48, 49, 49, 48, 48, 48, 49, 0, 2, 10, 1, 11, 2]⟩ 1 = 4 from by kernel_rfl]
  exact flow_answer (p := 1) (hs := [0, 1, 0]) (js := [0, 0]) hr (by kernel_rfl) (by kernel_rfl)

theorem kc26 : CheckIs ⟨#[83, 4, 49, 49, 49, 49, 48, 49, 48, 49, 48, 48, 49, 49, 48, 48, 48, 49, 0, 4, 10, 1, 10, 2, 3, 0, 11, 3]⟩ 0 0 := by
  have hr : Ranged ⟨#[10, 1, 10, 2, 3, 0, 11, 3]⟩ := ranged_of (v := ⟨#[]⟩) (n := 4) (by kernel_rfl)
  refine .inr ⟨by kernel_rfl, ?_⟩
  rw [show fCode ⟨#[83, 4, 49, 49, 49, 49, 48, 49, 48, 49, 48, 48, 49, 49, 48, 48, 48, 49, 0, 4, 10, 1, 10, 2, 3, 0, 11, 3]⟩ = ⟨#[10, 1, 10, 2, 3, 0, 11, 3]⟩ from by kernel_rfl, show fVars ⟨#[83, 4, 49, 49, 49, 49, 48, 49, 48, 49, 48, 48, 49, 49, 48, 48, 48, 49, 0, 4, 10, 1, 10, 2, 3, 0, 11, 3]⟩ = ⟨#[]⟩ from by kernel_rfl, show fTab ⟨#[83, 4, 49, 49, 49, 49, 48, 49, 48, 49, 48, 48, 49, 49, 48, 48, 48, 49, 0, 4, 10, 1, 10, 2, 3, 0, 11, 3]⟩ = ⟨#[49, 49, 49, 49, 48, 49, 48, 49, 48, 48, 49, 49, 48, 48, 48, 49]⟩ from by kernel_rfl, show bv ⟨#[83, 4, 49, 49, 49, 49, 48, 49, 48, 49, 48, 48, 49, 49, 48, 48, 48, 49, 0, 4, 10, 1, 10, 2, 3, 0, 11, 3]⟩ 1 = 4 from by kernel_rfl]
  exact ok_answer (hs := [0, 1, 2, 1, 0]) (js := [0, 0, 0, 0]) hr (by kernel_rfl) (by kernel_rfl)

theorem kc27 : CheckIs ⟨#[83, 4, 49, 49, 49, 49, 48, 49, 48, 49, 48, 48, 49, 49, 48, 48, 48, 49, 0, 4, 10, 1, 10, 2, 3, 0, 11, 2]⟩ 3 9 := by
  have hr : Ranged ⟨#[10, 1, 10, 2, 3, 0, 11, 2]⟩ := ranged_of (v := ⟨#[]⟩) (n := 4) (by kernel_rfl)
  refine .inr ⟨by kernel_rfl, ?_⟩
  rw [show fCode ⟨#[83, 4, 49, 49, 49, 49, 48, 49, 48, 49, 48, 48, 49, 49, 48, 48, 48, 49, 0, 4, 10, 1, 10, 2, 3, 0, 11, 2]⟩ = ⟨#[10, 1, 10, 2, 3, 0, 11, 2]⟩ from by kernel_rfl, show fVars ⟨#[83, 4, 49, 49, 49, 49, 48, 49, 48, 49, 48, 48, 49, 49, 48, 48, 48, 49, 0, 4, 10, 1, 10, 2, 3, 0, 11, 2]⟩ = ⟨#[]⟩ from by kernel_rfl, show fTab ⟨#[83, 4, 49, 49, 49, 49, 48, 49, 48, 49, 48, 48, 49, 49, 48, 48, 48, 49, 0, 4, 10, 1, 10, 2, 3, 0, 11, 2]⟩ = ⟨#[49, 49, 49, 49, 48, 49, 48, 49, 48, 48, 49, 49, 48, 48, 48, 49]⟩ from by kernel_rfl, show bv ⟨#[83, 4, 49, 49, 49, 49, 48, 49, 48, 49, 48, 48, 49, 49, 48, 48, 48, 49, 0, 4, 10, 1, 10, 2, 3, 0, 11, 2]⟩ 1 = 4 from by kernel_rfl]
  exact flow_answer (p := 3) (hs := [0, 1, 2, 1, 0]) (js := [0, 0, 0, 0]) hr (by kernel_rfl) (by kernel_rfl)

end Go.Proofs.Ytcnbifdlkalimaa
