/-
  The answers of the files that the statement Known speaks of, by the document's words; no condition.
-/
import Derived.Test.YtcnbifdlkalimaaPlain15
namespace Go.Proofs.Ytcnbifdlkalimaa
open Go.RowKit
set_option maxRecDepth 100000

theorem kc0 : CheckIs ⟨#[83, 2, 49, 49, 48, 49, 1, 0, 4, 10, 1, 9, 4, 0, 1, 2, 0]⟩ 3 9 := by
  have hr : Ranged ⟨#[10, 1, 9, 4, 0, 1, 2, 0]⟩ := ranged_of (v := ⟨#[0]⟩) (n := 2) (by kernel_rfl)
  refine .inr ⟨by kernel_rfl, ?_⟩
  rw [show fCode ⟨#[83, 2, 49, 49, 48, 49, 1, 0, 4, 10, 1, 9, 4, 0, 1, 2, 0]⟩ = ⟨#[10, 1, 9, 4, 0, 1, 2, 0]⟩ from by kernel_rfl, show fVars ⟨#[83, 2, 49, 49, 48, 49, 1, 0, 4, 10, 1, 9, 4, 0, 1, 2, 0]⟩ = ⟨#[0]⟩ from by kernel_rfl, show fTab ⟨#[83, 2, 49, 49, 48, 49, 1, 0, 4, 10, 1, 9, 4, 0, 1, 2, 0]⟩ = ⟨#[49, 49, 48, 49]⟩ from by kernel_rfl, show bv ⟨#[83, 2, 49, 49, 48, 49, 1, 0, 4, 10, 1, 9, 4, 0, 1, 2, 0]⟩ 1 = 2 from by kernel_rfl]
  exact flow_answer (p := 3) (hs := [0, 1, 0, 1, 0]) (js := [0, 4, 0, 0]) hr (by kernel_rfl) (by kernel_rfl)

theorem kc1 : CheckIs ⟨#[83, 2, 49, 49, 48, 49, 1, 1, 4, 10, 1, 9, 4, 0, 1, 2, 0]⟩ 0 0 := by
  have hr : Ranged ⟨#[10, 1, 9, 4, 0, 1, 2, 0]⟩ := ranged_of (v := ⟨#[1]⟩) (n := 2) (by kernel_rfl)
  refine .inr ⟨by kernel_rfl, ?_⟩
  rw [show fCode ⟨#[83, 2, 49, 49, 48, 49, 1, 1, 4, 10, 1, 9, 4, 0, 1, 2, 0]⟩ = ⟨#[10, 1, 9, 4, 0, 1, 2, 0]⟩ from by kernel_rfl, show fVars ⟨#[83, 2, 49, 49, 48, 49, 1, 1, 4, 10, 1, 9, 4, 0, 1, 2, 0]⟩ = ⟨#[1]⟩ from by kernel_rfl, show fTab ⟨#[83, 2, 49, 49, 48, 49, 1, 1, 4, 10, 1, 9, 4, 0, 1, 2, 0]⟩ = ⟨#[49, 49, 48, 49]⟩ from by kernel_rfl, show bv ⟨#[83, 2, 49, 49, 48, 49, 1, 1, 4, 10, 1, 9, 4, 0, 1, 2, 0]⟩ 1 = 2 from by kernel_rfl]
  exact ok_answer (hs := [0, 1, 0, 1, 0]) (js := [0, 4, 0, 0]) hr (by kernel_rfl) (by kernel_rfl)

theorem kc2 : CheckIs ⟨#[83, 2, 49, 49, 48, 49, 0, 4, 10, 1, 9, 2, 0, 7, 11, 0]⟩ 0 0 := by
  have hr : Ranged ⟨#[10, 1, 9, 2, 0, 7, 11, 0]⟩ := ranged_of (v := ⟨#[]⟩) (n := 2) (by kernel_rfl)
  refine .inr ⟨by kernel_rfl, ?_⟩
  rw [show fCode ⟨#[83, 2, 49, 49, 48, 49, 0, 4, 10, 1, 9, 2, 0, 7, 11, 0]⟩ = ⟨#[10, 1, 9, 2, 0, 7, 11, 0]⟩ from by kernel_rfl, show fVars ⟨#[83, 2, 49, 49, 48, 49, 0, 4, 10, 1, 9, 2, 0, 7, 11, 0]⟩ = ⟨#[]⟩ from by kernel_rfl, show fTab ⟨#[83, 2, 49, 49, 48, 49, 0, 4, 10, 1, 9, 2, 0, 7, 11, 0]⟩ = ⟨#[49, 49, 48, 49]⟩ from by kernel_rfl, show bv ⟨#[83, 2, 49, 49, 48, 49, 0, 4, 10, 1, 9, 2, 0, 7, 11, 0]⟩ 1 = 2 from by kernel_rfl]
  exact ok_answer (hs := [0, 1, 0, 1, 0]) (js := [0, 2, 0, 0]) hr (by kernel_rfl) (by kernel_rfl)

theorem kc3 : CheckIs ⟨#[83, 2, 49, 49, 48, 49, 0, 4, 10, 1, 9, 4, 0, 7, 11, 0]⟩ 3 9 := by
  have hr : Ranged ⟨#[10, 1, 9, 4, 0, 7, 11, 0]⟩ := ranged_of (v := ⟨#[]⟩) (n := 2) (by kernel_rfl)
  refine .inr ⟨by kernel_rfl, ?_⟩
  rw [show fCode ⟨#[83, 2, 49, 49, 48, 49, 0, 4, 10, 1, 9, 4, 0, 7, 11, 0]⟩ = ⟨#[10, 1, 9, 4, 0, 7, 11, 0]⟩ from by kernel_rfl, show fVars ⟨#[83, 2, 49, 49, 48, 49, 0, 4, 10, 1, 9, 4, 0, 7, 11, 0]⟩ = ⟨#[]⟩ from by kernel_rfl, show fTab ⟨#[83, 2, 49, 49, 48, 49, 0, 4, 10, 1, 9, 4, 0, 7, 11, 0]⟩ = ⟨#[49, 49, 48, 49]⟩ from by kernel_rfl, show bv ⟨#[83, 2, 49, 49, 48, 49, 0, 4, 10, 1, 9, 4, 0, 7, 11, 0]⟩ 1 = 2 from by kernel_rfl]
  exact flow_answer (p := 3) (hs := [0, 1, 0, 1, 0]) (js := [0, 4, 0, 0]) hr (by kernel_rfl) (by kernel_rfl)

theorem kc4 : CheckIs ⟨#[83, 2, 49, 49, 48, 49, 0, 5, 10, 1, 9, 3, 0, 7, 0, 8, 11, 0]⟩ 0 8 := by
  have hr : Ranged ⟨#[10, 1, 9, 3, 0, 7, 0, 8, 11, 0]⟩ := ranged_of (v := ⟨#[]⟩) (n := 2) (by kernel_rfl)
  refine .inr ⟨by kernel_rfl, ?_⟩
  rw [show fCode ⟨#[83, 2, 49, 49, 48, 49, 0, 5, 10, 1, 9, 3, 0, 7, 0, 8, 11, 0]⟩ = ⟨#[10, 1, 9, 3, 0, 7, 0, 8, 11, 0]⟩ from by kernel_rfl, show fVars ⟨#[83, 2, 49, 49, 48, 49, 0, 5, 10, 1, 9, 3, 0, 7, 0, 8, 11, 0]⟩ = ⟨#[]⟩ from by kernel_rfl, show fTab ⟨#[83, 2, 49, 49, 48, 49, 0, 5, 10, 1, 9, 3, 0, 7, 0, 8, 11, 0]⟩ = ⟨#[49, 49, 48, 49]⟩ from by kernel_rfl, show bv ⟨#[83, 2, 49, 49, 48, 49, 0, 5, 10, 1, 9, 3, 0, 7, 0, 8, 11, 0]⟩ 1 = 2 from by kernel_rfl]
  exact part_yes (l := [1, 2, 3]) (l' := [1, 3]) hr (by kernel_rfl) (by kernel_rfl)

theorem kc5 : CheckIs ⟨#[83, 2, 49, 49, 48, 49, 0, 6, 10, 1, 9, 4, 0, 7, 8, 5, 0, 8, 11, 0]⟩ 5 9 := by
  have hr : Ranged ⟨#[10, 1, 9, 4, 0, 7, 8, 5, 0, 8, 11, 0]⟩ := ranged_of (v := ⟨#[]⟩) (n := 2) (by kernel_rfl)
  refine .inr ⟨by kernel_rfl, ?_⟩
  rw [show fCode ⟨#[83, 2, 49, 49, 48, 49, 0, 6, 10, 1, 9, 4, 0, 7, 8, 5, 0, 8, 11, 0]⟩ = ⟨#[10, 1, 9, 4, 0, 7, 8, 5, 0, 8, 11, 0]⟩ from by kernel_rfl, show fVars ⟨#[83, 2, 49, 49, 48, 49, 0, 6, 10, 1, 9, 4, 0, 7, 8, 5, 0, 8, 11, 0]⟩ = ⟨#[]⟩ from by kernel_rfl, show fTab ⟨#[83, 2, 49, 49, 48, 49, 0, 6, 10, 1, 9, 4, 0, 7, 8, 5, 0, 8, 11, 0]⟩ = ⟨#[49, 49, 48, 49]⟩ from by kernel_rfl, show bv ⟨#[83, 2, 49, 49, 48, 49, 0, 6, 10, 1, 9, 4, 0, 7, 8, 5, 0, 8, 11, 0]⟩ 1 = 2 from by kernel_rfl]
  exact flow_answer (p := 5) (hs := [0, 1, 0, 1, 0, 1, 0]) (js := [0, 5, 0, 0, 0, 0]) hr (by kernel_rfl) (by kernel_rfl)

theorem kc6 : CheckIs ⟨#[83, 2, 49, 49, 48, 49, 0, 6, 10, 1, 9, 4, 0, 7, 8, 5, 0, 8, 11, 1]⟩ 0 0 := by
  have hr : Ranged ⟨#[10, 1, 9, 4, 0, 7, 8, 5, 0, 8, 11, 1]⟩ := ranged_of (v := ⟨#[]⟩) (n := 2) (by kernel_rfl)
  refine .inr ⟨by kernel_rfl, ?_⟩
  rw [show fCode ⟨#[83, 2, 49, 49, 48, 49, 0, 6, 10, 1, 9, 4, 0, 7, 8, 5, 0, 8, 11, 1]⟩ = ⟨#[10, 1, 9, 4, 0, 7, 8, 5, 0, 8, 11, 1]⟩ from by kernel_rfl, show fVars ⟨#[83, 2, 49, 49, 48, 49, 0, 6, 10, 1, 9, 4, 0, 7, 8, 5, 0, 8, 11, 1]⟩ = ⟨#[]⟩ from by kernel_rfl, show fTab ⟨#[83, 2, 49, 49, 48, 49, 0, 6, 10, 1, 9, 4, 0, 7, 8, 5, 0, 8, 11, 1]⟩ = ⟨#[49, 49, 48, 49]⟩ from by kernel_rfl, show bv ⟨#[83, 2, 49, 49, 48, 49, 0, 6, 10, 1, 9, 4, 0, 7, 8, 5, 0, 8, 11, 1]⟩ 1 = 2 from by kernel_rfl]
  exact ok_answer (hs := [0, 1, 0, 1, 0, 1, 0]) (js := [0, 5, 0, 0, 0, 0]) hr (by kernel_rfl) (by kernel_rfl)

theorem kc7 : CheckIs ⟨#[83, 2, 49, 49, 48, 49, 0, 6, 0, 5, 10, 1, 9, 5, 0, 1, 11, 1, 11, 0]⟩ 0 0 := by
  have hr : Ranged ⟨#[0, 5, 10, 1, 9, 5, 0, 1, 11, 1, 11, 0]⟩ := ranged_of (v := ⟨#[]⟩) (n := 2) (by kernel_rfl)
  refine .inr ⟨by kernel_rfl, ?_⟩
  rw [show fCode ⟨#[83, 2, 49, 49, 48, 49, 0, 6, 0, 5, 10, 1, 9, 5, 0, 1, 11, 1, 11, 0]⟩ = ⟨#[0, 5, 10, 1, 9, 5, 0, 1, 11, 1, 11, 0]⟩ from by kernel_rfl, show fVars ⟨#[83, 2, 49, 49, 48, 49, 0, 6, 0, 5, 10, 1, 9, 5, 0, 1, 11, 1, 11, 0]⟩ = ⟨#[]⟩ from by kernel_rfl, show fTab ⟨#[83, 2, 49, 49, 48, 49, 0, 6, 0, 5, 10, 1, 9, 5, 0, 1, 11, 1, 11, 0]⟩ = ⟨#[49, 49, 48, 49]⟩ from by kernel_rfl, show bv ⟨#[83, 2, 49, 49, 48, 49, 0, 6, 0, 5, 10, 1, 9, 5, 0, 1, 11, 1, 11, 0]⟩ 1 = 2 from by kernel_rfl]
  exact ok_answer (hs := [0, 1, 2, 1, 2, 1, 0]) (js := [0, 0, 5, 0, 0, 0]) hr (by kernel_rfl) (by kernel_rfl)

theorem kc8 : CheckIs ⟨#[83, 2, 49, 49, 48, 49, 0, 5, 10, 1, 9, 3, 8, 0, 0, 7, 11, 0]⟩ 0 0 := by
  have hr : Ranged ⟨#[10, 1, 9, 3, 8, 0, 0, 7, 11, 0]⟩ := ranged_of (v := ⟨#[]⟩) (n := 2) (by kernel_rfl)
  refine .inr ⟨by kernel_rfl, ?_⟩
  rw [show fCode ⟨#[83, 2, 49, 49, 48, 49, 0, 5, 10, 1, 9, 3, 8, 0, 0, 7, 11, 0]⟩ = ⟨#[10, 1, 9, 3, 8, 0, 0, 7, 11, 0]⟩ from by kernel_rfl, show fVars ⟨#[83, 2, 49, 49, 48, 49, 0, 5, 10, 1, 9, 3, 8, 0, 0, 7, 11, 0]⟩ = ⟨#[]⟩ from by kernel_rfl, show fTab ⟨#[83, 2, 49, 49, 48, 49, 0, 5, 10, 1, 9, 3, 8, 0, 0, 7, 11, 0]⟩ = ⟨#[49, 49, 48, 49]⟩ from by kernel_rfl, show bv ⟨#[83, 2, 49, 49, 48, 49, 0, 5, 10, 1, 9, 3, 8, 0, 0, 7, 11, 0]⟩ 1 = 2 from by kernel_rfl]
  exact ok_answer (hs := [0, 1, 0, 0, 1, 0]) (js := [0, 3, 0, 0, 0]) hr (by kernel_rfl) (by kernel_rfl)

theorem kc9 : CheckIs ⟨#[83, 2, 49, 49, 48, 49, 0, 5, 10, 0, 11, 1, 10, 1, 9, 5, 8, 0]⟩ 0 9 := by
  have hr : Ranged ⟨#[10, 0, 11, 1, 10, 1, 9, 5, 8, 0]⟩ := ranged_of (v := ⟨#[]⟩) (n := 2) (by kernel_rfl)
  refine .inr ⟨by kernel_rfl, ?_⟩
  rw [show fCode ⟨#[83, 2, 49, 49, 48, 49, 0, 5, 10, 0, 11, 1, 10, 1, 9, 5, 8, 0]⟩ = ⟨#[10, 0, 11, 1, 10, 1, 9, 5, 8, 0]⟩ from by kernel_rfl, show fVars ⟨#[83, 2, 49, 49, 48, 49, 0, 5, 10, 0, 11, 1, 10, 1, 9, 5, 8, 0]⟩ = ⟨#[]⟩ from by kernel_rfl, show fTab ⟨#[83, 2, 49, 49, 48, 49, 0, 5, 10, 0, 11, 1, 10, 1, 9, 5, 8, 0]⟩ = ⟨#[49, 49, 48, 49]⟩ from by kernel_rfl, show bv ⟨#[83, 2, 49, 49, 48, 49, 0, 5, 10, 0, 11, 1, 10, 1, 9, 5, 8, 0]⟩ 1 = 2 from by kernel_rfl]
  exact flow_answer (p := 0) (hs := [0, 1, 0, 1, 0, 0]) (js := [0, 0, 0, 5, 0]) hr (by kernel_rfl) (by kernel_rfl)

theorem kc10 : CheckIs ⟨#[83, 2, 49, 49, 48, 49, 1, 0, 6, 1, 0, 9, 4, 10, 1, 11, 1, 10, 0, 2, 0]⟩ 0 0 := by
  have hr : Ranged ⟨#[1, 0, 9, 4, 10, 1, 11, 1, 10, 0, 2, 0]⟩ := ranged_of (v := ⟨#[0]⟩) (n := 2) (by kernel_rfl)
  refine .inr ⟨by kernel_rfl, ?_⟩
  rw [show fCode ⟨#[83, 2, 49, 49, 48, 49, 1, 0, 6, 1, 0, 9, 4, 10, 1, 11, 1, 10, 0, 2, 0]⟩ = ⟨#[1, 0, 9, 4, 10, 1, 11, 1, 10, 0, 2, 0]⟩ from by kernel_rfl, show fVars ⟨#[83, 2, 49, 49, 48, 49, 1, 0, 6, 1, 0, 9, 4, 10, 1, 11, 1, 10, 0, 2, 0]⟩ = ⟨#[0]⟩ from by kernel_rfl, show fTab ⟨#[83, 2, 49, 49, 48, 49, 1, 0, 6, 1, 0, 9, 4, 10, 1, 11, 1, 10, 0, 2, 0]⟩ = ⟨#[49, 49, 48, 49]⟩ from by kernel_rfl, show bv ⟨#[83, 2, 49, 49, 48, 49, 1, 0, 6, 1, 0, 9, 4, 10, 1, 11, 1, 10, 0, 2, 0]⟩ 1 = 2 from by kernel_rfl]
  exact ok_answer (hs := [0, 1, 0, 1, 0, 1, 0]) (js := [0, 4, 0, 0, 0, 0]) hr (by kernel_rfl) (by kernel_rfl)

theorem kc11 : CheckIs ⟨#[83, 2, 49, 49, 48, 49, 1, 1, 6, 10, 1, 2, 0, 1, 0, 0, 0, 3, 0, 11, 0]⟩ 5 9 := by
  have hr : Ranged ⟨#[10, 1, 2, 0, 1, 0, 0, 0, 3, 0, 11, 0]⟩ := ranged_of (v := ⟨#[1]⟩) (n := 2) (by kernel_rfl)
  refine .inr ⟨by kernel_rfl, ?_⟩
  rw [show fCode ⟨#[83, 2, 49, 49, 48, 49, 1, 1, 6, 10, 1, 2, 0, 1, 0, 0, 0, 3, 0, 11, 0]⟩ = ⟨#[10, 1, 2, 0, 1, 0, 0, 0, 3, 0, 11, 0]⟩ from by kernel_rfl, show fVars ⟨#[83, 2, 49, 49, 48, 49, 1, 1, 6, 10, 1, 2, 0, 1, 0, 0, 0, 3, 0, 11, 0]⟩ = ⟨#[1]⟩ from by kernel_rfl, show fTab ⟨#[83, 2, 49, 49, 48, 49, 1, 1, 6, 10, 1, 2, 0, 1, 0, 0, 0, 3, 0, 11, 0]⟩ = ⟨#[49, 49, 48, 49]⟩ from by kernel_rfl, show bv ⟨#[83, 2, 49, 49, 48, 49, 1, 1, 6, 10, 1, 2, 0, 1, 0, 0, 0, 3, 0, 11, 0]⟩ 1 = 2 from by kernel_rfl]
  exact flow_answer (p := 5) (hs := [0, 1, 0, 1, 2, 1, 0]) (js := [0, 0, 0, 0, 0, 0]) hr (by kernel_rfl) (by kernel_rfl)

theorem kc12 : CheckIs ⟨#[83, 2, 49, 49, 48, 49, 2, 0, 0, 6, 10, 1, 9, 4, 1, 0, 8, 5, 1, 1, 11, 0]⟩ 5 9 := by
  have hr : Ranged ⟨#[10, 1, 9, 4, 1, 0, 8, 5, 1, 1, 11, 0]⟩ := ranged_of (v := ⟨#[0, 0]⟩) (n := 2) (by kernel_rfl)
  refine .inr ⟨by kernel_rfl, ?_⟩
  rw [show fCode ⟨#[83, 2, 49, 49, 48, 49, 2, 0, 0, 6, 10, 1, 9, 4, 1, 0, 8, 5, 1, 1, 11, 0]⟩ = ⟨#[10, 1, 9, 4, 1, 0, 8, 5, 1, 1, 11, 0]⟩ from by kernel_rfl, show fVars ⟨#[83, 2, 49, 49, 48, 49, 2, 0, 0, 6, 10, 1, 9, 4, 1, 0, 8, 5, 1, 1, 11, 0]⟩ = ⟨#[0, 0]⟩ from by kernel_rfl, show fTab ⟨#[83, 2, 49, 49, 48, 49, 2, 0, 0, 6, 10, 1, 9, 4, 1, 0, 8, 5, 1, 1, 11, 0]⟩ = ⟨#[49, 49, 48, 49]⟩ from by kernel_rfl, show bv ⟨#[83, 2, 49, 49, 48, 49, 2, 0, 0, 6, 10, 1, 9, 4, 1, 0, 8, 5, 1, 1, 11, 0]⟩ 1 = 2 from by kernel_rfl]
  exact flow_answer (p := 5) (hs := [0, 1, 0, 1, 0, 1, 0]) (js := [0, 5, 0, 0, 0, 0]) hr (by kernel_rfl) (by kernel_rfl)

theorem kc13 : CheckIs ⟨#[83, 2, 49, 49, 48, 49, 0, 4, 10, 1, 0, 1, 11, 0, 11, 0]⟩ 3 9 := by
  have hr : Ranged ⟨#[10, 1, 0, 1, 11, 0, 11, 0]⟩ := ranged_of (v := ⟨#[]⟩) (n := 2) (by kernel_rfl)
  refine .inr ⟨by kernel_rfl, ?_⟩
  rw [show fCode ⟨#[83, 2, 49, 49, 48, 49, 0, 4, 10, 1, 0, 1, 11, 0, 11, 0]⟩ = ⟨#[10, 1, 0, 1, 11, 0, 11, 0]⟩ from by kernel_rfl, show fVars ⟨#[83, 2, 49, 49, 48, 49, 0, 4, 10, 1, 0, 1, 11, 0, 11, 0]⟩ = ⟨#[]⟩ from by kernel_rfl, show fTab ⟨#[83, 2, 49, 49, 48, 49, 0, 4, 10, 1, 0, 1, 11, 0, 11, 0]⟩ = ⟨#[49, 49, 48, 49]⟩ from by kernel_rfl, show bv ⟨#[83, 2, 49, 49, 48, 49, 0, 4, 10, 1, 0, 1, 11, 0, 11, 0]⟩ 1 = 2 from by kernel_rfl]
  exact flow_answer (p := 3) (hs := [0, 1, 2, 1, 0]) (js := [0, 0, 0, 0]) hr (by kernel_rfl) (by kernel_rfl)

theorem kc14 : CheckIs ⟨#[83, 2, 49, 49, 48, 49, 0, 7, 0, 5, 11, 1, 0, 6, 10, 1, 9, 6, 8, 1, 11, 0]⟩ 6 9 := by
  have hr : Ranged ⟨#[0, 5, 11, 1, 0, 6, 10, 1, 9, 6, 8, 1, 11, 0]⟩ := ranged_of (v := ⟨#[]⟩) (n := 2) (by kernel_rfl)
  refine .inr ⟨by kernel_rfl, ?_⟩
  rw [show fCode ⟨#[83, 2, 49, 49, 48, 49, 0, 7, 0, 5, 11, 1, 0, 6, 10, 1, 9, 6, 8, 1, 11, 0]⟩ = ⟨#[0, 5, 11, 1, 0, 6, 10, 1, 9, 6, 8, 1, 11, 0]⟩ from by kernel_rfl, show fVars ⟨#[83, 2, 49, 49, 48, 49, 0, 7, 0, 5, 11, 1, 0, 6, 10, 1, 9, 6, 8, 1, 11, 0]⟩ = ⟨#[]⟩ from by kernel_rfl, show fTab ⟨#[83, 2, 49, 49, 48, 49, 0, 7, 0, 5, 11, 1, 0, 6, 10, 1, 9, 6, 8, 1, 11, 0]⟩ = ⟨#[49, 49, 48, 49]⟩ from by kernel_rfl, show bv ⟨#[83, 2, 49, 49, 48, 49, 0, 7, 0, 5, 11, 1, 0, 6, 10, 1, 9, 6, 8, 1, 11, 0]⟩ 1 = 2 from by kernel_rfl]
  exact flow_answer (p := 6) (hs := [0, 1, 0, 1, 2, 1, 1, 0]) (js := [0, 0, 0, 0, 6, 0, 0]) hr (by kernel_rfl) (by kernel_rfl)
end Go.Proofs.Ytcnbifdlkalimaa
