/-
  The walks of the statement Known's own functions: the files that it makes; no condition.
-/
import Derived.Test.YtcnbifdlkalimaaLabB
import Derived.Test.YtcnbifdlkalimaaKn1
import Derived.Test.YtcnbifdlkalimaaKn2
import Derived.Test.YtcnbifdlkalimaaKn0
import Derived.Laws.IdiomStrings
namespace Go.Proofs.Ytcnbifdlkalimaa
open Go.RowKit
set_option linter.unusedVariables false
set_option maxRecDepth 100000

/-- the files that the statement speaks of, and what Check answers -/
def kFiles : List (ByteArray × Int × Int) := [
  (⟨#[83, 2, 49, 49, 48, 49, 1, 0, 4, 10, 1, 9, 4, 0, 1, 2, 0]⟩, 3, 9),
  (⟨#[83, 2, 49, 49, 48, 49, 1, 1, 4, 10, 1, 9, 4, 0, 1, 2, 0]⟩, 0, 0),
  (⟨#[83, 2, 49, 49, 48, 49, 0, 4, 10, 1, 9, 2, 0, 7, 11, 0]⟩, 0, 0),
  (⟨#[83, 2, 49, 49, 48, 49, 0, 4, 10, 1, 9, 4, 0, 7, 11, 0]⟩, 3, 9),
  (⟨#[83, 2, 49, 49, 48, 49, 0, 5, 10, 1, 9, 3, 0, 7, 0, 8, 11, 0]⟩, 0, 8),
  (⟨#[83, 2, 49, 49, 48, 49, 0, 6, 10, 1, 9, 4, 0, 7, 8, 5, 0, 8, 11, 0]⟩, 5, 9),
  (⟨#[83, 2, 49, 49, 48, 49, 0, 6, 10, 1, 9, 4, 0, 7, 8, 5, 0, 8, 11, 1]⟩, 0, 0),
  (⟨#[83, 2, 49, 49, 48, 49, 0, 6, 0, 5, 10, 1, 9, 5, 0, 1, 11, 1, 11, 0]⟩, 0, 0),
  (⟨#[83, 2, 49, 49, 48, 49, 0, 5, 10, 1, 9, 3, 8, 0, 0, 7, 11, 0]⟩, 0, 0),
  (⟨#[83, 2, 49, 49, 48, 49, 0, 5, 10, 0, 11, 1, 10, 1, 9, 5, 8, 0]⟩, 0, 9),
  (⟨#[83, 2, 49, 49, 48, 49, 1, 0, 6, 1, 0, 9, 4, 10, 1, 11, 1, 10, 0, 2, 0]⟩, 0, 0),
  (⟨#[83, 2, 49, 49, 48, 49, 1, 1, 6, 10, 1, 2, 0, 1, 0, 0, 0, 3, 0, 11, 0]⟩, 5, 9),
  (⟨#[83, 2, 49, 49, 48, 49, 2, 0, 0, 6, 10, 1, 9, 4, 1, 0, 8, 5, 1, 1, 11, 0]⟩, 5, 9),
  (⟨#[83, 2, 49, 49, 48, 49, 0, 4, 10, 1, 0, 1, 11, 0, 11, 0]⟩, 3, 9),
  (⟨#[83, 2, 49, 49, 48, 49, 0, 7, 0, 5, 11, 1, 0, 6, 10, 1, 9, 6, 8, 1, 11, 0]⟩, 6, 9),
  (⟨#[83, 2, 49, 49, 48, 49, 1, 0, 6, 0, 1, 10, 1, 9, 5, 2, 0, 8, 6, 11, 1]⟩, 3, 9),
  (⟨#[83, 2, 49, 49, 48, 49, 0, 2, 3, 0, 8, 0]⟩, 0, 7),
  (⟨#[83, 2, 49, 49, 48, 49, 0, 1, 8, 0]⟩, 0, 7),
  (⟨#[83, 2, 49, 49, 48, 49, 0, 3, 0, 1, 9, 3, 8, 2]⟩, 2, 7),
  (⟨#[83, 2, 49, 49, 48, 49, 0, 2, 8, 2, 3, 0]⟩, 0, 0),
  (⟨#[83, 2, 49, 49, 48, 49, 0, 4, 10, 1, 9, 4, 10, 1, 9, 4]⟩, 0, 0),
  (⟨#[83, 2, 49, 49, 48, 49, 1, 0, 6, 10, 1, 9, 6, 10, 1, 9, 6, 0, 1, 2, 0]⟩, 5, 9),
  (⟨#[83, 2, 49, 49, 48, 49, 1, 0, 6, 10, 1, 9, 4, 10, 1, 9, 4, 0, 1, 2, 0]⟩, 0, 0),
  (⟨#[83, 3, 49, 49, 49, 48, 49, 49, 48, 48, 49, 0, 2, 10, 1, 11, 2]⟩, 0, 0),
  (⟨#[83, 3, 49, 49, 49, 48, 49, 49, 48, 48, 49, 0, 2, 10, 2, 11, 1]⟩, 1, 9),
  (⟨#[83, 4, 49, 49, 49, 49, 48, 49, 48, 49, 48, 48, 49, 49, 48, 48, 48, 49, 0, 2, 10, 1, 11, 2]⟩, 1, 9),
  (⟨#[83, 4, 49, 49, 49, 49, 48, 49, 48, 49, 48, 48, 49, 49, 48, 48, 48, 49, 0, 4, 10, 1, 10, 2, 3, 0, 11, 3]⟩, 0, 0),
  (⟨#[83, 4, 49, 49, 49, 49, 48, 49, 48, 49, 48, 48, 49, 49, 48, 48, 48, 49, 0, 4, 10, 1, 10, 2, 3, 0, 11, 2]⟩, 3, 9)]

def kCells (x : ByteArray × Int × Int) : List Value := [.string x.1, .int .i64 x.2.1, .int .i64 x.2.2]

theorem flat3 : ∀ (l : List (ByteArray × Int × Int)) (i : Nat) (x : ByteArray × Int × Int), l[i]? = some x → (l.flatMap kCells)[i * 3]? = some (.string x.1) ∧ (l.flatMap kCells)[i * 3 + 1]? = some (.int .i64 x.2.1) ∧ (l.flatMap kCells)[i * 3 + 2]? = some (.int .i64 x.2.2) := by
  intro l
  induction l with
  | nil => intro i x h; simp at h
  | cons y l ih =>
    intro i x h
    cases i with
    | zero =>
      simp at h
      subst h
      simp [kCells]
    | succ i =>
      simp at h
      have := ih i x h
      rw [show (i + 1) * 3 = i * 3 + 3 from by omega]
      simpa [kCells, List.flatMap_cons] using this

/-- what making them leaves -/
def CasesPost (w : World) (e : Ending) (w' : World) : Prop :=
  ∃ g, e = .returned (.slice (some ⟨g, 0, none⟩) 28 28) ∧ (∀ (i : Nat) (x : ByteArray × Int × Int), kFiles[i]? = some x → w'.cell? ⟨g, i * 3, none⟩ = some (.string x.1) ∧ w'.cell? ⟨g, i * 3 + 1, none⟩ = some (.int .i64 x.2.1) ∧ w'.cell? ⟨g, i * 3 + 2, none⟩ = some (.int .i64 x.2.2)) ∧ Below w.heap.size w w'

set_option maxHeartbeats 8000000 in
theorem cases_any (w : World) : Calls Try.prog 25 #[] w (CasesPost w) := by
  have hB0 := Below.refl w.heap.size w
  go_enter Try.func25, Try.ntmps25
  go_wp2_with fail
  refine (two_any { data := #[0] } { data := #[10, 1, 9, 4, 0, 1, 2, 0] } _ (by decide) (by decide)).mono ?_
  rintro e w1 ⟨rfl, hb⟩
  rw [show twoF { data := #[0] } { data := #[10, 1, 9, 4, 0, 1, 2, 0] } = { data := #[83, 2, 49, 49, 48, 49, 1, 0, 4, 10, 1, 9, 4, 0, 1, 2, 0] } from by kernel_rfl]
  have hB1 := hB0.trans (hb.mono hB0.size)
  clear hb hB0
  go_wp2_with fail
  refine (two_any { data := #[1] } { data := #[10, 1, 9, 4, 0, 1, 2, 0] } _ (by decide) (by decide)).mono ?_
  rintro e w2 ⟨rfl, hb⟩
  rw [show twoF { data := #[1] } { data := #[10, 1, 9, 4, 0, 1, 2, 0] } = { data := #[83, 2, 49, 49, 48, 49, 1, 1, 4, 10, 1, 9, 4, 0, 1, 2, 0] } from by kernel_rfl]
  have hB2 := hB1.trans (hb.mono hB1.size)
  clear hb hB1
  go_wp2_with fail
  refine (two_any { data := #[] } { data := #[10, 1, 9, 2, 0, 7, 11, 0] } _ (by decide) (by decide)).mono ?_
  rintro e w3 ⟨rfl, hb⟩
  rw [show twoF { data := #[] } { data := #[10, 1, 9, 2, 0, 7, 11, 0] } = { data := #[83, 2, 49, 49, 48, 49, 0, 4, 10, 1, 9, 2, 0, 7, 11, 0] } from by kernel_rfl]
  have hB3 := hB2.trans (hb.mono hB2.size)
  clear hb hB2
  go_wp2_with fail
  refine (two_any { data := #[] } { data := #[10, 1, 9, 4, 0, 7, 11, 0] } _ (by decide) (by decide)).mono ?_
  rintro e w4 ⟨rfl, hb⟩
  rw [show twoF { data := #[] } { data := #[10, 1, 9, 4, 0, 7, 11, 0] } = { data := #[83, 2, 49, 49, 48, 49, 0, 4, 10, 1, 9, 4, 0, 7, 11, 0] } from by kernel_rfl]
  have hB4 := hB3.trans (hb.mono hB3.size)
  clear hb hB3
  go_wp2_with fail
  refine (two_any { data := #[] } { data := #[10, 1, 9, 3, 0, 7, 0, 8, 11, 0] } _ (by decide) (by decide)).mono ?_
  rintro e w5 ⟨rfl, hb⟩
  rw [show twoF { data := #[] } { data := #[10, 1, 9, 3, 0, 7, 0, 8, 11, 0] } = { data := #[83, 2, 49, 49, 48, 49, 0, 5, 10, 1, 9, 3, 0, 7, 0, 8, 11, 0] } from by kernel_rfl]
  have hB5 := hB4.trans (hb.mono hB4.size)
  clear hb hB4
  go_wp2_with fail
  refine (two_any { data := #[] } { data := #[10, 1, 9, 4, 0, 7, 8, 5, 0, 8, 11, 0] } _ (by decide) (by decide)).mono ?_
  rintro e w6 ⟨rfl, hb⟩
  rw [show twoF { data := #[] } { data := #[10, 1, 9, 4, 0, 7, 8, 5, 0, 8, 11, 0] } = { data := #[83, 2, 49, 49, 48, 49, 0, 6, 10, 1, 9, 4, 0, 7, 8, 5, 0, 8, 11, 0] } from by kernel_rfl]
  have hB6 := hB5.trans (hb.mono hB5.size)
  clear hb hB5
  go_wp2_with fail
  refine (two_any { data := #[] } { data := #[10, 1, 9, 4, 0, 7, 8, 5, 0, 8, 11, 1] } _ (by decide) (by decide)).mono ?_
  rintro e w7 ⟨rfl, hb⟩
  rw [show twoF { data := #[] } { data := #[10, 1, 9, 4, 0, 7, 8, 5, 0, 8, 11, 1] } = { data := #[83, 2, 49, 49, 48, 49, 0, 6, 10, 1, 9, 4, 0, 7, 8, 5, 0, 8, 11, 1] } from by kernel_rfl]
  have hB7 := hB6.trans (hb.mono hB6.size)
  clear hb hB6
  go_wp2_with fail
  refine (two_any { data := #[] } { data := #[0, 5, 10, 1, 9, 5, 0, 1, 11, 1, 11, 0] } _ (by decide) (by decide)).mono ?_
  rintro e w8 ⟨rfl, hb⟩
  rw [show twoF { data := #[] } { data := #[0, 5, 10, 1, 9, 5, 0, 1, 11, 1, 11, 0] } = { data := #[83, 2, 49, 49, 48, 49, 0, 6, 0, 5, 10, 1, 9, 5, 0, 1, 11, 1, 11, 0] } from by kernel_rfl]
  have hB8 := hB7.trans (hb.mono hB7.size)
  clear hb hB7
  go_wp2_with fail
  refine (two_any { data := #[] } { data := #[10, 1, 9, 3, 8, 0, 0, 7, 11, 0] } _ (by decide) (by decide)).mono ?_
  rintro e w9 ⟨rfl, hb⟩
  rw [show twoF { data := #[] } { data := #[10, 1, 9, 3, 8, 0, 0, 7, 11, 0] } = { data := #[83, 2, 49, 49, 48, 49, 0, 5, 10, 1, 9, 3, 8, 0, 0, 7, 11, 0] } from by kernel_rfl]
  have hB9 := hB8.trans (hb.mono hB8.size)
  clear hb hB8
  go_wp2_with fail
  refine (two_any { data := #[] } { data := #[10, 0, 11, 1, 10, 1, 9, 5, 8, 0] } _ (by decide) (by decide)).mono ?_
  rintro e w10 ⟨rfl, hb⟩
  rw [show twoF { data := #[] } { data := #[10, 0, 11, 1, 10, 1, 9, 5, 8, 0] } = { data := #[83, 2, 49, 49, 48, 49, 0, 5, 10, 0, 11, 1, 10, 1, 9, 5, 8, 0] } from by kernel_rfl]
  have hB10 := hB9.trans (hb.mono hB9.size)
  clear hb hB9
  go_wp2_with fail
  refine (two_any { data := #[0] } { data := #[1, 0, 9, 4, 10, 1, 11, 1, 10, 0, 2, 0] } _ (by decide) (by decide)).mono ?_
  rintro e w11 ⟨rfl, hb⟩
  rw [show twoF { data := #[0] } { data := #[1, 0, 9, 4, 10, 1, 11, 1, 10, 0, 2, 0] } = { data := #[83, 2, 49, 49, 48, 49, 1, 0, 6, 1, 0, 9, 4, 10, 1, 11, 1, 10, 0, 2, 0] } from by kernel_rfl]
  have hB11 := hB10.trans (hb.mono hB10.size)
  clear hb hB10
  go_wp2_with fail
  refine (two_any { data := #[1] } { data := #[10, 1, 2, 0, 1, 0, 0, 0, 3, 0, 11, 0] } _ (by decide) (by decide)).mono ?_
  rintro e w12 ⟨rfl, hb⟩
  rw [show twoF { data := #[1] } { data := #[10, 1, 2, 0, 1, 0, 0, 0, 3, 0, 11, 0] } = { data := #[83, 2, 49, 49, 48, 49, 1, 1, 6, 10, 1, 2, 0, 1, 0, 0, 0, 3, 0, 11, 0] } from by kernel_rfl]
  have hB12 := hB11.trans (hb.mono hB11.size)
  clear hb hB11
  go_wp2_with fail
  refine (two_any { data := #[0, 0] } { data := #[10, 1, 9, 4, 1, 0, 8, 5, 1, 1, 11, 0] } _ (by decide) (by decide)).mono ?_
  rintro e w13 ⟨rfl, hb⟩
  rw [show twoF { data := #[0, 0] } { data := #[10, 1, 9, 4, 1, 0, 8, 5, 1, 1, 11, 0] } = { data := #[83, 2, 49, 49, 48, 49, 2, 0, 0, 6, 10, 1, 9, 4, 1, 0, 8, 5, 1, 1, 11, 0] } from by kernel_rfl]
  have hB13 := hB12.trans (hb.mono hB12.size)
  clear hb hB12
  go_wp2_with fail
  refine (two_any { data := #[] } { data := #[10, 1, 0, 1, 11, 0, 11, 0] } _ (by decide) (by decide)).mono ?_
  rintro e w14 ⟨rfl, hb⟩
  rw [show twoF { data := #[] } { data := #[10, 1, 0, 1, 11, 0, 11, 0] } = { data := #[83, 2, 49, 49, 48, 49, 0, 4, 10, 1, 0, 1, 11, 0, 11, 0] } from by kernel_rfl]
  have hB14 := hB13.trans (hb.mono hB13.size)
  clear hb hB13
  go_wp2_with fail
  refine (two_any { data := #[] } { data := #[0, 5, 11, 1, 0, 6, 10, 1, 9, 6, 8, 1, 11, 0] } _ (by decide) (by decide)).mono ?_
  rintro e w15 ⟨rfl, hb⟩
  rw [show twoF { data := #[] } { data := #[0, 5, 11, 1, 0, 6, 10, 1, 9, 6, 8, 1, 11, 0] } = { data := #[83, 2, 49, 49, 48, 49, 0, 7, 0, 5, 11, 1, 0, 6, 10, 1, 9, 6, 8, 1, 11, 0] } from by kernel_rfl]
  have hB15 := hB14.trans (hb.mono hB14.size)
  clear hb hB14
  go_wp2_with fail
  refine (two_any { data := #[0] } { data := #[0, 1, 10, 1, 9, 5, 2, 0, 8, 6, 11, 1] } _ (by decide) (by decide)).mono ?_
  rintro e w16 ⟨rfl, hb⟩
  rw [show twoF { data := #[0] } { data := #[0, 1, 10, 1, 9, 5, 2, 0, 8, 6, 11, 1] } = { data := #[83, 2, 49, 49, 48, 49, 1, 0, 6, 0, 1, 10, 1, 9, 5, 2, 0, 8, 6, 11, 1] } from by kernel_rfl]
  have hB16 := hB15.trans (hb.mono hB15.size)
  clear hb hB15
  go_wp2_with fail
  refine (two_any { data := #[] } { data := #[3, 0, 8, 0] } _ (by decide) (by decide)).mono ?_
  rintro e w17 ⟨rfl, hb⟩
  rw [show twoF { data := #[] } { data := #[3, 0, 8, 0] } = { data := #[83, 2, 49, 49, 48, 49, 0, 2, 3, 0, 8, 0] } from by kernel_rfl]
  have hB17 := hB16.trans (hb.mono hB16.size)
  clear hb hB16
  go_wp2_with fail
  refine (two_any { data := #[] } { data := #[8, 0] } _ (by decide) (by decide)).mono ?_
  rintro e w18 ⟨rfl, hb⟩
  rw [show twoF { data := #[] } { data := #[8, 0] } = { data := #[83, 2, 49, 49, 48, 49, 0, 1, 8, 0] } from by kernel_rfl]
  have hB18 := hB17.trans (hb.mono hB17.size)
  clear hb hB17
  go_wp2_with fail
  refine (two_any { data := #[] } { data := #[0, 1, 9, 3, 8, 2] } _ (by decide) (by decide)).mono ?_
  rintro e w19 ⟨rfl, hb⟩
  rw [show twoF { data := #[] } { data := #[0, 1, 9, 3, 8, 2] } = { data := #[83, 2, 49, 49, 48, 49, 0, 3, 0, 1, 9, 3, 8, 2] } from by kernel_rfl]
  have hB19 := hB18.trans (hb.mono hB18.size)
  clear hb hB18
  go_wp2_with fail
  refine (two_any { data := #[] } { data := #[8, 2, 3, 0] } _ (by decide) (by decide)).mono ?_
  rintro e w20 ⟨rfl, hb⟩
  rw [show twoF { data := #[] } { data := #[8, 2, 3, 0] } = { data := #[83, 2, 49, 49, 48, 49, 0, 2, 8, 2, 3, 0] } from by kernel_rfl]
  have hB20 := hB19.trans (hb.mono hB19.size)
  clear hb hB19
  go_wp2_with fail
  refine (two_any { data := #[] } { data := #[10, 1, 9, 4, 10, 1, 9, 4] } _ (by decide) (by decide)).mono ?_
  rintro e w21 ⟨rfl, hb⟩
  rw [show twoF { data := #[] } { data := #[10, 1, 9, 4, 10, 1, 9, 4] } = { data := #[83, 2, 49, 49, 48, 49, 0, 4, 10, 1, 9, 4, 10, 1, 9, 4] } from by kernel_rfl]
  have hB21 := hB20.trans (hb.mono hB20.size)
  clear hb hB20
  go_wp2_with fail
  refine (two_any { data := #[0] } { data := #[10, 1, 9, 6, 10, 1, 9, 6, 0, 1, 2, 0] } _ (by decide) (by decide)).mono ?_
  rintro e w22 ⟨rfl, hb⟩
  rw [show twoF { data := #[0] } { data := #[10, 1, 9, 6, 10, 1, 9, 6, 0, 1, 2, 0] } = { data := #[83, 2, 49, 49, 48, 49, 1, 0, 6, 10, 1, 9, 6, 10, 1, 9, 6, 0, 1, 2, 0] } from by kernel_rfl]
  have hB22 := hB21.trans (hb.mono hB21.size)
  clear hb hB21
  go_wp2_with fail
  refine (two_any { data := #[0] } { data := #[10, 1, 9, 4, 10, 1, 9, 4, 0, 1, 2, 0] } _ (by decide) (by decide)).mono ?_
  rintro e w23 ⟨rfl, hb⟩
  rw [show twoF { data := #[0] } { data := #[10, 1, 9, 4, 10, 1, 9, 4, 0, 1, 2, 0] } = { data := #[83, 2, 49, 49, 48, 49, 1, 0, 6, 10, 1, 9, 4, 10, 1, 9, 4, 0, 1, 2, 0] } from by kernel_rfl]
  have hB23 := hB22.trans (hb.mono hB22.size)
  clear hb hB22
  go_wp2_with fail
  go_ret
  refine (show CasesPost w _ (w23.alloc (.cells (kFiles.flatMap kCells).toArray 46)) from ?_)
  refine ⟨w23.heap.size, rfl, fun i x hx => ?_, hB23.alloc hB23.size _⟩
  have h3 := flat3 kFiles i x hx
  have hg := heap_alloc_last w23 (.cells (kFiles.flatMap kCells).toArray 46)
  refine ⟨?_, ?_, ?_⟩
  · rw [cell_of_row _ _ (i * 3) _ _ (0, 0) hg, List.getElem?_toArray]; exact h3.1
  · rw [cell_of_row _ _ (i * 3 + 1) _ _ (0, 0) hg, List.getElem?_toArray]; exact h3.2.1
  · rw [cell_of_row _ _ (i * 3 + 2) _ _ (0, 0) hg, List.getElem?_toArray]; exact h3.2.2

/-- each of them is answered so -/
theorem known_all (i : Nat) (x : ByteArray × Int × Int) (h : kFiles[i]? = some x) : CheckIs x.1 x.2.1 x.2.2 := by
  match i, h with
  | 0, h => simp [kFiles] at h; subst h; exact kc0
  | 1, h => simp [kFiles] at h; subst h; exact kc1
  | 2, h => simp [kFiles] at h; subst h; exact kc2
  | 3, h => simp [kFiles] at h; subst h; exact kc3
  | 4, h => simp [kFiles] at h; subst h; exact kc4
  | 5, h => simp [kFiles] at h; subst h; exact kc5
  | 6, h => simp [kFiles] at h; subst h; exact kc6
  | 7, h => simp [kFiles] at h; subst h; exact kc7
  | 8, h => simp [kFiles] at h; subst h; exact kc8
  | 9, h => simp [kFiles] at h; subst h; exact kc9
  | 10, h => simp [kFiles] at h; subst h; exact kc10
  | 11, h => simp [kFiles] at h; subst h; exact kc11
  | 12, h => simp [kFiles] at h; subst h; exact kc12
  | 13, h => simp [kFiles] at h; subst h; exact kc13
  | 14, h => simp [kFiles] at h; subst h; exact kc14
  | 15, h => simp [kFiles] at h; subst h; exact kc15
  | 16, h => simp [kFiles] at h; subst h; exact kc16
  | 17, h => simp [kFiles] at h; subst h; exact kc17
  | 18, h => simp [kFiles] at h; subst h; exact kc18
  | 19, h => simp [kFiles] at h; subst h; exact kc19
  | 20, h => simp [kFiles] at h; subst h; exact kc20
  | 21, h => simp [kFiles] at h; subst h; exact kc21
  | 22, h => simp [kFiles] at h; subst h; exact kc22
  | 23, h => simp [kFiles] at h; subst h; exact kc23
  | 24, h => simp [kFiles] at h; subst h; exact kc24
  | 25, h => simp [kFiles] at h; subst h; exact kc25
  | 26, h => simp [kFiles] at h; subst h; exact kc26
  | 27, h => simp [kFiles] at h; subst h; exact kc27
  | i + 28, h => simp [kFiles] at h

theorem known_short (i : Nat) (x : ByteArray × Int × Int) (h : kFiles[i]? = some x) : x.1.size ≤ maxLen ∧ scanE x.1 = 0 := by
  have hm := List.mem_of_getElem? h
  have : (kFiles.all fun x => decide (x.1.size ≤ 100) && decide (scanE x.1 = 0)) = true := by kernel_rfl
  rw [List.all_eq_true] at this
  have h2 := this x hm
  rw [Bool.and_eq_true, decide_eq_true_iff, decide_eq_true_iff] at h2
  exact ⟨by unfold maxLen; omega, h2.2⟩

theorem known_one (i : Nat) (x : ByteArray × Int × Int) (h : kFiles[i]? = some x) (p e : Int) (hc : CheckIs x.1 p e) : p = x.2.1 ∧ e = x.2.2 := by
  have hs := known_short i x h
  exact check_one (fun _ => ranged_of (file_ok hs.1 hs.2).ok) hc (known_all i x h)

end Go.Proofs.Ytcnbifdlkalimaa
