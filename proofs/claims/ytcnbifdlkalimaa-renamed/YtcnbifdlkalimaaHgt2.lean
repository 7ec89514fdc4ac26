/-
  The walks of the package check: all heights of a file; for every file whose places are places and whose operations are operations.
-/
import Derived.Test.YtcnbifdlkalimaaHgt1
import Derived.Test.YtcnbifdlkalimaaWay9
namespace Go.Proofs.Ytcnbifdlkalimaa
open Go.RowKit
set_option linter.unusedVariables false
set_option maxRecDepth 100000

/-- the cells of heights -/
def htCells (m : Nat → Bool) (h : Nat → Int) (j : Nat) : Value := if j < 201 then .bool (m j) else .int .i64 (h (j - 201))

theorem built_ht : Try.prog.built 120 [] = some (big 402 (htCells (fun _ => false) (fun _ => 0))) := by kernel_rfl

theorem ht_one (m : Nat → Bool) (h : Nat → Int) (j : Nat) : (htCells m h j).oneCell' = true := by
  unfold htCells
  split <;> rfl

theorem HtAt.cells {w : World} {b : Nat} {m : Nat → Bool} {h : Nat → Int} (H : HtAt w b m h) (j : Nat) (hj : j < 402) : w.cell? ⟨b, 0 + j, none⟩ = some (htCells m h j) := by
  unfold htCells
  split
  · exact H.s.c j (by omega)
  · have := H.a (j - 201) (by omega)
    rw [show 201 + (j - 201) = 0 + j from by omega] at this
    exact this

theorem htAt_new {w : World} {b : Nat} (R : Room w b 402) (m : Nat → Bool) (h : Nat → Int) : HtAt (w.setCells b 0 (big 402 (htCells m h)).toList) b m h := by
  have e : ∀ j, j < 402 → (w.setCells b 0 (big 402 (htCells m h)).toList).cell? ⟨b, 0 + j, none⟩ = some (htCells m h j) := fun j hj => st_big_cell w b 0 402 _ R.c j hj
  have f : ∀ j, j < 402 → (w.setCells b 0 (big 402 (htCells m h)).toList).frozen? ⟨b, 0 + j, none⟩ = false := fun j hj => by rw [World.frozen?_setCells]; exact R.f j hj
  refine ⟨⟨?_, fun j hj => ?_, fun j hj => f j (by omega)⟩, fun j hj => ?_, fun j hj => ?_⟩
  · have := (but_cells (But.refl b 0 w) (big 402 (htCells m h)).toList 0).size
    exact Nat.lt_of_lt_of_le R.lt this
  · rw [e j (by omega)]
    unfold htCells
    rw [if_pos hj]
  · have := e (201 + j) (by omega)
    rw [Nat.zero_add] at this
    rw [this]
    unfold htCells
    rw [if_neg (by omega), show 201 + j - 201 = j from by omega]
  · have := f (201 + j) (by omega)
    rwa [Nat.zero_add] at this

set_option maxHeartbeats 1600000 in
theorem heightsOf_any (n : Int) (t v c : ByteArray) (w : World) (hc : c.size ≤ maxLen) (hK : half c ≤ 200) (hr : Kp (Ranged c)) (hop : Kp (∀ i : Int, 0 ≤ i → i < half c → bv c (2 * i) ≤ 11)) :
    Calls Try.prog 73 #[.agg #[.int .i64 n, .string t, .string v, .string c]] w fun e w' =>
      ∃ (m : Nat → Bool) (h : Nat → Int), ((e = .returned (.tuple #[.agg (big 402 (htCells m h)), .bool true]) ∧ Kp (HeightsOk c h)) ∨ (e = .returned (.tuple #[.agg (big 402 (htCells m h)), .bool false]) ∧ Kp (¬ ∃ f, HeightsOk c f))) ∧ Below w.heap.size w w' := by
  have hh := (half_bd c).1
  obtain ⟨w0, hw0⟩ : ∃ w0, w0 = (((w.alloc (.cells #[.int .i64 n, .string t, .string v, .string c] 77)).alloc (.cells Try.zeroCells120 120)).alloc (.cells Try.zeroCells120 120)) := ⟨_, rfl⟩
  have hsz : w0.heap.size = w.heap.size + 3 := by rw [hw0]; simp
  have hR0 : Room w0 (w.heap.size + 1 + 1) 402 := by rw [hw0]; exact Room.of_row (row3 _ _ _ _) (by kernel_rfl)
  have hR1 : Room w0 (w.heap.size + 1) 402 := by rw [hw0]; exact Room.of_row (row2 _ _ _ _) (by kernel_rfl)
  have hO0 : Own w0 w.heap.size [.int .i64 n, .string t, .string v, .string c] := by rw [hw0]; exact ((Own.new4 w _ _ _ _ _).alloc _).alloc _
  have hB0 : Below w.heap.size w w0 := by rw [hw0]; exact (((Below.refl _ _).alloc (Nat.le_refl _) _).alloc (by simp) _).alloc (by simp; omega) _
  obtain ⟨w1, hw1⟩ : ∃ w1, w1 = w0.setCells (w.heap.size + 1 + 1) 0 (big 402 (htCells (fun _ => false) (fun _ => 0))).toList := ⟨_, rfl⟩
  have hB : But (w.heap.size + 1 + 1) w0.heap.size w0 w1 := by rw [hw1]; exact but_cells (But.refl _ _ _) _ _
  have H1 : HtAt w1 (w.heap.size + 1 + 1) (fun _ => false) (fun _ => 0) := by rw [hw1]; exact htAt_new hR0 _ _
  have hR2 := hR1.but hB (by omega)
  have hO1 := hO0.but hB (by omega)
  have hB1 : Below w.heap.size w w1 := hB0.trans ((hB.mono hB0.size).below (by omega))
  have hz1 := hB.size
  replace hw0 : Kp _ := ⟨hw0⟩
  replace hw1 : Kp _ := ⟨hw1⟩
  have q0 := hO1.c 0 _ rfl
  have q1 := hO1.c 1 _ rfl
  have q2 := hO1.c 2 _ rfl
  have q3 := hO1.c 3 _ rfl
  clear hO0 hR1 hB0 hB
  go_enter Try.func73, Try.ntmps73
  repeat (first | refine wp_build_big 120 #[] rfl _ built_ht ?_ | (refine wp_store_big 120 (.tmp 4) (.tmp 6) rfl (w.heap.size + 1 + 1) 0 402 (htCells (fun _ => false) (fun _ => 0)) rfl rfl (by kernel_rfl) (by rw [← hw0.out]; exact hR0.c) (by rw [← hw0.out]; exact hR0.f) (fun j _ => ht_one _ _ j) ?_; rw [← hw0.out, ← hw1.out]; dsimp only [Act.put]) | go_step)
  have I0 : LayIn c (fun _ => false) (fun _ => 0) 0 0 := ⟨by omega, Reach.start rfl (by omega), by omega, by omega, fun f hf => ⟨hf.zero, fun j hj => absurd hj (by simp)⟩⟩
  refine (lay_any n (w.heap.size + 1 + 1) t v c hc hK hr hop 201 (fun _ => false) (fun _ => 0) 0 0 w1 (cntF_bd _ _) H1 I0).mono ?_
  rintro e w2 ⟨ok, m, h, rfl, H2, hb2, hO2⟩
  have hR3 := hR2.but hb2 (by omega)
  have hB2 : Below w.heap.size w w2 := hB1.trans ((hb2.mono hB1.size).below (by omega))
  clear q0 q1 q2 q3 hO1 H1 hR2 hR0 hB1 hb2 hw0 hw1 I0
  cases ok with
  | true =>
    have hH : Kp (HeightsOk c h) := ⟨lay_heights hr.out (hO2.out.yes rfl).1 (hO2.out.yes rfl).2⟩
    clear hO2
    obtain ⟨w5, hw5⟩ : ∃ w5 : World, w2.setCells (w.heap.size + 1) 0 (big 402 (htCells m h)).toList = w5 := ⟨_, rfl⟩
    have hcell : Kp (∀ j, j < 402 → w5.cell? ⟨w.heap.size + 1, 0 + j, none⟩ = some (htCells m h j)) := ⟨by rw [← hw5]; exact st_big_cell w2 (w.heap.size + 1) 0 402 _ hR3.c⟩
    have hB5 : Below w.heap.size w w5 := by rw [← hw5]; exact below_cells hB2 (b := w.heap.size + 1) (by omega) _ 0
    replace hw5 : Kp _ := ⟨hw5⟩
    dsimp only
    repeat (first | refine wp_load_big 120 (.tmp 4) rfl (w.heap.size + 1 + 1) 0 402 (htCells m h) rfl _ Try.underlying120 rfl (by kernel_rfl) H2.cells ?_ | (refine wp_store_big 120 (.tmp 2) (.tmp 12) rfl (w.heap.size + 1) 0 402 (htCells m h) rfl rfl (by kernel_rfl) hR3.c hR3.f (fun j _ => ht_one _ _ j) ?_; rw [hw5.out]; dsimp only [Act.put]) | go_step)
    have hl := load_big (P := Try.prog) w5 120 _ (w.heap.size + 1) 0 402 (htCells m h) Try.underlying120 rfl (by kernel_rfl) hcell.out
    refine bodyPost_ret (v := .tuple #[.agg (big 402 (htCells m h)), .bool true]) (by simp [results, Try.results73, asAddr, hl]) rfl ⟨m, h, .inl ⟨rfl, hH⟩, hB5⟩
  | false =>
    have hH : Kp (¬ ∃ f, HeightsOk c f) := ⟨hO2.out.no rfl⟩
    clear hO2
    obtain ⟨w5, hw5⟩ : ∃ w5 : World, w2.setCells (w.heap.size + 1) 0 (big 402 (htCells (fun _ => false) (fun _ => 0))).toList = w5 := ⟨_, rfl⟩
    have hcell : Kp (∀ j, j < 402 → w5.cell? ⟨w.heap.size + 1, 0 + j, none⟩ = some (htCells (fun _ => false) (fun _ => 0) j)) := ⟨by rw [← hw5]; exact st_big_cell w2 (w.heap.size + 1) 0 402 _ hR3.c⟩
    have hB5 : Below w.heap.size w w5 := by rw [← hw5]; exact below_cells hB2 (b := w.heap.size + 1) (by omega) _ 0
    replace hw5 : Kp _ := ⟨hw5⟩
    dsimp only
    repeat (first | refine wp_build_big 120 #[] rfl _ built_ht ?_ | (refine wp_store_big 120 (.tmp 2) (.tmp 11) rfl (w.heap.size + 1) 0 402 (htCells (fun _ => false) (fun _ => 0)) rfl rfl (by kernel_rfl) hR3.c hR3.f (fun j _ => ht_one _ _ j) ?_; rw [hw5.out]; dsimp only [Act.put]) | go_step)
    have hl := load_big (P := Try.prog) w5 120 _ (w.heap.size + 1) 0 402 (htCells (fun _ => false) (fun _ => 0)) Try.underlying120 rfl (by kernel_rfl) hcell.out
    refine bodyPost_ret (v := .tuple #[.agg (big 402 (htCells (fun _ => false) (fun _ => 0))), .bool false]) (by simp [results, Try.results73, asAddr, hl]) rfl ⟨_, _, .inr ⟨rfl, hH⟩, hB5⟩
end Go.Proofs.Ytcnbifdlkalimaa
