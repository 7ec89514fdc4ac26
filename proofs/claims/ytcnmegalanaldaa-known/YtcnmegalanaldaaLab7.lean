/-
  The walks of the packages lattice and check: the bottom, and labels laid at the bottom; for every file that is scanned.
-/
import Derived.Test.YtcnmegalanaldaaLab6
namespace Go.Proofs.Ytcnmegalanaldaa
open Go.RowKit
set_option linter.unusedVariables false
set_option maxRecDepth 100000

def pBot (s : ByteArray) (n a : Int) : Bool := allTo (fun b => le s n a b) n.toNat

set_option maxHeartbeats 400000 in
theorem belowAll_any {s : ByteArray} {n : Int} (ht : Tab s n) (a : Int) (w : World) (ha : 0 ≤ a) (ha' : a < n) :
    Calls Try.prog 96 #[.agg #[.int .i64 n, .string s], .int .i64 a] w fun e w' => e = .returned (.bool (pBot s n a)) ∧ Below w.heap.size w w' := by
  obtain ⟨t1, t2, -⟩ := id ht
  go_enter Try.func96, Try.ntmps96
  go_wp2
  go_loopw [5] (fun c wr => ∃ k : Nat, (k : Int) ≤ n ∧ c = .int .i64 k ∧ Kp (∀ i : Nat, i < k → le s n a i = true) ∧ Box2 w wr (.int .i64 n) (.string s)) (fun c _ => n.toNat - (intOf c).toNat)
  case atStart => exact ⟨0, by omega, rfl, ⟨fun i hi => absurd hi (by omega)⟩, Box2.mk' w _ _ _⟩
  case round =>
    obtain ⟨k, hk, rfl, hall, hbox⟩ := hrel
    obtain ⟨q0, q1, q2, q3⟩ := id hbox
    by_cases hlt : (k : Int) < n
    · go_wp2_with fail
      refine (below_any ht a k wr ha ha' (by omega) hlt).mono ?_
      rintro e w1 ⟨rfl, hb1⟩
      replace hbox := hbox.step hb1
      clear q0 q1 q2 q3 hb1
      obtain ⟨q0, q1, q2, q3⟩ := id hbox
      obtain ⟨x, hx⟩ : ∃ x, le s n a k = x := ⟨_, rfl⟩
      rw [hx]
      replace hx : Kp _ := ⟨hx⟩
      cases x
      · go_wp2
        go_ret
        exact ⟨ret_bool (allTo_false (i := k) (by omega) hx.out).symm, q0⟩
      · go_wp2
        go_roundw
        case rel => exact ⟨k + 1, by omega, by go_num, ⟨all_more (p := fun b => le s n a b) hall.out hx.out⟩, hbox⟩
        case measure => simp [intOf]; omega
    · go_wp2
      go_ret
      exact ⟨ret_bool (allTo_true.2 (fun i hi => hall.out i (by omega))).symm, q0⟩

set_option maxHeartbeats 400000 in
theorem bottom_any {s : ByteArray} {n : Int} (ht : Tab s n) (w : World) :
    Calls Try.prog 78 #[.agg #[.int .i64 n, .string s]] w fun e w' => e = .returned (.int .i64 ((firstTo (pBot s n) n.toNat).getD 0)) ∧ Below w.heap.size w w' := by
  obtain ⟨t1, t2, -⟩ := id ht
  go_enter Try.func78, Try.ntmps78
  go_wp2
  go_loopw [3] (fun c wr => ∃ k : Nat, (k : Int) ≤ n ∧ c = .int .i64 k ∧ Kp (∀ i : Nat, i < k → pBot s n i = false) ∧ Box2 w wr (.int .i64 n) (.string s)) (fun c _ => n.toNat - (intOf c).toNat)
  case atStart => exact ⟨0, by omega, rfl, ⟨fun i hi => absurd hi (by omega)⟩, Box2.mk' w _ _ _⟩
  case round =>
    obtain ⟨k, hk, rfl, hall, hbox⟩ := hrel
    obtain ⟨q0, q1, q2, q3⟩ := id hbox
    by_cases hlt : (k : Int) < n
    · go_wp2_with fail
      refine (belowAll_any ht k wr (by omega) hlt).mono ?_
      rintro e w1 ⟨rfl, hb1⟩
      replace hbox := hbox.step hb1
      clear q0 q1 q2 q3 hb1
      obtain ⟨q0, q1, q2, q3⟩ := id hbox
      obtain ⟨x, hx⟩ : ∃ x, pBot s n k = x := ⟨_, rfl⟩
      rw [hx]
      replace hx : Kp _ := ⟨hx⟩
      cases x
      · go_wp2
        go_roundw
        case rel => exact ⟨k + 1, by omega, by go_num, ⟨none_more (p := pBot s n) hall.out hx.out⟩, hbox⟩
        case measure => simp [intOf]; omega
      · go_wp2
        go_ret
        exact ⟨ret_int (by rw [firstTo_some (i := k) (by omega) hall.out hx.out]; rfl), q0⟩
    · go_wp2
      go_ret
      exact ⟨ret_int (by rw [firstTo_none (fun i hi => hall.out i (by omega))]; rfl), q0⟩

/-- the bottom is one -/
theorem bot_is {s : ByteArray} {n : Int} (H : LatOk s n) : Lv n ((firstTo (pBot s n) n.toNat).getD 0) ∧ ∀ a, Lv n a → le s n ((firstTo (pBot s n) n.toNat).getD 0) a = true := by
  obtain ⟨b, hb, hall⟩ := H.bot
  have hp : pBot s n b = true := allTo_true.2 (fun i hi => hall i ⟨by omega, by omega⟩)
  cases hf : firstTo (pBot s n) n.toNat with
  | none =>
    exfalso
    have : ∀ k : Nat, firstTo (pBot s n) k = none → ∀ i : Nat, i < k → pBot s n i = false := by
      intro k hk i hi
      cases hx : pBot s n i
      · rfl
      · exfalso
        have h1 : ∃ j : Nat, j ≤ i ∧ pBot s n j = true ∧ ∀ q : Nat, q < j → pBot s n q = false := by
          have : ∀ d : Nat, ∀ i : Nat, i ≤ d → pBot s n i = true → ∃ j : Nat, j ≤ i ∧ pBot s n j = true ∧ ∀ q : Nat, q < j → pBot s n q = false := by
            intro d
            induction d with
            | zero => intro i hi hx; exact ⟨i, Nat.le_refl _, hx, fun q hq => by omega⟩
            | succ d ih =>
              intro i hi hx
              by_cases hq : ∃ q : Nat, q < i ∧ pBot s n q = true
              · obtain ⟨q, hq1, hq2⟩ := hq
                obtain ⟨j, j1, j2, j3⟩ := ih q (by omega) hq2
                exact ⟨j, by omega, j2, j3⟩
              · exact ⟨i, Nat.le_refl _, hx, fun q hq1 => by cases hz : pBot s n q; rfl; exact absurd ⟨q, hq1, hz⟩ hq⟩
          exact this i i (Nat.le_refl _) hx
        obtain ⟨j, j1, j2, j3⟩ := h1
        rw [firstTo_some (i := j) (by omega) j3 j2] at hk
        exact absurd hk (by simp)
    have h2 := this n.toNat hf b.toNat (by have := hb.1; have := hb.2; omega)
    rw [Int.toNat_of_nonneg hb.1, hp] at h2
    exact absurd h2 (by simp)
  | some x =>
    obtain ⟨x0, x1, x2⟩ := firstTo_lt hf
    refine ⟨⟨x0, by simp; omega⟩, fun a ha => ?_⟩
    have := allTo_true.1 x2 a.toNat (by have := ha.1; have := ha.2; omega)
    rw [Int.toNat_of_nonneg ha.1] at this
    exact this

/-- the cells of labels -/
def labCells (n : Int) (t v c : ByteArray) (hb : Nat) (R : Nat → Nat → Bool) (L : Int → Int → Int) (W : Nat → Bool) (j : Nat) : Value :=
  if j = 0 then .int .i64 n else if j = 1 then .string t else if j = 2 then .string v else if j = 3 then .string c else if j = 4 then .pointer (some ⟨hb, 0, none⟩)
  else if j < 40406 then .bool (R ((j - 5) / 201) ((j - 5) % 201)) else if j < 40607 then .int .i64 (L ((j : Int) - 40406) (-1))
  else if j < 42215 then .int .i64 (L (((j - 40607) / 8 : Nat) : Int) (((j - 40607) % 8 : Nat) : Int)) else .bool (W (j - 42215))

theorem built_lab (n : Int) (t v c : ByteArray) (hb : Nat) : Try.prog.built 112 [(0, .agg #[.int .i64 n, .string t, .string v, .string c]), (1, .pointer (some ⟨hb, 0, none⟩))] = some (big 42416 (labCells n t v c hb (fun _ _ => false) (fun _ _ => 0) (fun _ => false))) := by kernel_rfl
end Go.Proofs.Ytcnmegalanaldaa
