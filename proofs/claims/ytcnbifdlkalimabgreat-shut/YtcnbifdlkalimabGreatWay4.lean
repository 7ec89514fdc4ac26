/-
  The walks of the package paths: the live places, the region of a choice; for every file whose places are places.
-/
import Derived.Test.YtcnbifdlkalimabGreatWayB
namespace Go.Proofs.YtcnbifdlkalimabGreat
open Go.RowKit
set_option linter.unusedVariables false
set_option maxRecDepth 100000

set_option maxHeartbeats 1600000 in
theorem live_any (n : Int) (t v c : ByteArray) (w : World) (hc : c.size ≤ maxLen) (hK : half c ≤ 200) (hr : Kp (Ranged c)) :
    Calls Tryz.prog 60 #[.agg #[.int .i64 n, .string t, .string v, .string c]] w fun e w' =>
      ∃ m : Nat → Bool, e = .returned (.agg (big 201 (fun j => .bool (m j)))) ∧ Kp (∀ j : Nat, m j = true ↔ (j : Int) ≤ half c ∧ Live c j) ∧ Below w.heap.size w w' := by
  have hone : Tryz.zeroCells134.all (·.oneCell') = true := by rw [zero_set]; exact one_rep _ _ rfl
  go_enter Tryz.func60, Tryz.ntmps60
  go_wp2_with fail
  rw [store_same _ _ _ 134 (row3 _ _ _ _) hone]
  obtain ⟨w0, hw0⟩ : ∃ w0, w0 = (((w.alloc (.cells #[.int .i64 n, .string t, .string v, .string c] 76)).alloc (.cells Tryz.zeroCells134 134)).alloc (.cells Tryz.zeroCells134 134)) := ⟨_, rfl⟩
  rw [← hw0]
  have hsz : w0.heap.size = w.heap.size + 3 := by rw [hw0]; simp
  have hS0 : SetAt w0 (w.heap.size + 1 + 1) 0 (fun _ => false) := by rw [hw0]; exact SetAt.of_row (t := 134) (by rw [row3, zero_set])
  have hS1 : SetAt w0 (w.heap.size + 1) 0 (fun _ => false) := by rw [hw0]; exact SetAt.of_row (t := 134) (by rw [row2, zero_set])
  have hO0 : Own w0 w.heap.size [.int .i64 n, .string t, .string v, .string c] := by
    rw [hw0]; exact ((Own.new4 w _ _ _ _ _).alloc _).alloc _
  have hB0 : Below w.heap.size w w0 := by rw [hw0]; exact (((Below.refl _ _).alloc (Nat.le_refl _) _).alloc (by simp) _).alloc (by simp; omega) _
  clear hw0 hone
  have q0 := hO0.c 0 _ rfl
  have q1 := hO0.c 1 _ rfl
  have q2 := hO0.c 2 _ rfl
  have q3 := hO0.c 3 _ rfl
  go_wp2_with fail
  have hF := follow_any n (-1) (w.heap.size + 1 + 1) 0 t v c hc hK hr 201 (fun _ => false) 0 w0 (cntF_bd _ _) hS0 (by have := (half_bd c).1; omega)
  refine hF.mono ?_
  rintro e w1 ⟨rfl, m, hS2, hB2, hF2⟩
  have hS3 := hS1.but hB2 (by omega)
  have hB3 : Below w.heap.size w w1 := hB0.trans ((hB2.mono (by omega)).below (by omega))
  have hlive : Kp (∀ j : Nat, m j = true ↔ (j : Int) ≤ half c ∧ Live c j) := ⟨fun j => hF2.iff hr.out (fun x hx => by have hx : x = ((0 : Nat) : Int) := hx; omega) j⟩
  clear q0 q1 q2 q3 hS0 hS1 hO0 hB0 hB2 hF2 hF
  have hw2 : ∃ w2 : World, w1.setCells (w.heap.size + 1) 0 (big 201 (fun j => .bool (m j))).toList = w2 := ⟨_, rfl⟩
  obtain ⟨w2, hw2⟩ := hw2
  have hcell : Kp (∀ j, j < 201 → w2.cell? ⟨w.heap.size + 1, 0 + j, none⟩ = some (.bool (m j))) := ⟨by rw [← hw2]; exact st_big_cell w1 (w.heap.size + 1) 0 201 (fun j => .bool (m j)) (fun j hj => by rw [hS3.c j hj]; rfl)⟩
  have hB4 : Below w.heap.size w w2 := by rw [← hw2]; exact below_cells hB3 (b := w.heap.size + 1) (by omega) (big 201 (fun j => .bool (m j))).toList 0
  replace hw2 : Kp _ := ⟨hw2⟩
  rename_i K1 a1 K0 a0
  refine a0 _ _ ?_
  repeat (first | refine wp_load_big 134 (.tmp 3) rfl (w.heap.size + 1 + 1) 0 201 (fun j => .bool (m j)) rfl _ Tryz.underlying134 rfl (by kernel_rfl) hS2.c ?_ | (refine wp_store_big 134 (.tmp 2) (.tmp 7) rfl (w.heap.size + 1) 0 201 (fun j => .bool (m j)) rfl rfl (by kernel_rfl) (fun j hj => by rw [hS3.c j hj]; rfl) hS3.f (fun _ _ => rfl) ?_; rw [hw2.out]) | go_step)
  refine bodyPost_ret (v := .agg (big 201 (fun j => .bool (m j)))) (results_cell_big rfl _ w2 (w.heap.size + 1) 0 201 (fun j => .bool (m j)) _ rfl Tryz.underlying134 rfl (by kernel_rfl) hcell.out) rfl ⟨m, rfl, hlive, hB4⟩

theorem row4 (w w1 : World) (o1 o2 o3 : Obj) (hb : Below ((w.alloc o1).alloc o2).heap.size ((w.alloc o1).alloc o2) w1) : (w1.alloc o3).heap[w.heap.size + 1]? = some o2 := by
  have hsz := hb.size
  rw [Below.heap_alloc w1 o3 (w.heap.size + 1) (by simp at hsz; omega), hb.block _ (by simp)]
  have h := heap_alloc_last (w.alloc o1) o2
  rw [show (w.alloc o1).heap.size = w.heap.size + 1 from by simp] at h
  exact h

set_option maxHeartbeats 1600000 in
theorem region_any (n jn : Int) (i : Nat) (t v c : ByteArray) (w : World) (hc : c.size ≤ maxLen) (hK : half c ≤ 200) (hr : Kp (Ranged c)) (hi : (i : Int) < half c) :
    Calls Tryz.prog 124 #[.agg #[.int .i64 n, .string t, .string v, .string c], .int .i64 i, .int .i64 jn] w fun e w' =>
      ∃ m : Nat → Bool, e = .returned (.agg (big 201 (fun j => .bool (m j)))) ∧ Kp (∀ j : Nat, m j = true ↔ (j : Int) ≤ half c ∧ Reach c (fun x => x ∈ nxt c i) jn j) ∧ Below w.heap.size w w' := by
  have hone : Tryz.zeroCells134.all (·.oneCell') = true := by rw [zero_set]; exact one_rep _ _ rfl
  obtain ⟨⟨n1, n2⟩, n3, n4⟩ := nx_in hr.out (k := i) (by omega) (by omega)
  have e1 : Kp (nx1 c i = ((nx1 c i).toNat : Nat)) := ⟨by omega⟩
  have e2 : Kp (nx2 c i = ((nx2 c i).toNat : Nat)) := ⟨by omega⟩
  go_enter Tryz.func124, Tryz.ntmps124
  go_wp2_with fail
  refine (behind_any n i t v c _ hc hK (by omega) (by omega)).mono ?_
  rintro e w1 ⟨rfl, hb1⟩
  have hsz1 := hb1.size
  have hO1 := ((Own.new4 w (.int .i64 n) (.string t) (.string v) (.string c) 76).alloc (.cells Tryz.zeroCells134 134)).step hb1
  have hR1 := fun o3 => row4 w w1 _ _ o3 hb1
  have hB1 : Below w.heap.size w w1 := (((Below.refl _ _).alloc (Nat.le_refl _) _).alloc (by simp) _).trans (hb1.mono (by simp; omega))
  clear hb1
  rw [show (((w.alloc (.cells #[.int .i64 n, .string t, .string v, .string c] 76)).alloc (.cells Tryz.zeroCells134 134)).heap.size) = w.heap.size + 2 from by simp] at hsz1
  go_wp2_with fail
  rw [store_same _ _ _ 134 (heap_alloc_last w1 _) hone]
  obtain ⟨w0, hw0⟩ : ∃ w0, w0 = w1.alloc (.cells Tryz.zeroCells134 134) := ⟨_, rfl⟩
  have hS0 : SetAt w0 w1.heap.size 0 (fun _ => false) := by rw [hw0]; exact SetAt.of_row (t := 134) (by rw [heap_alloc_last, zero_set])
  have hS1 : SetAt w0 (w.heap.size + 1) 0 (fun _ => false) := by rw [hw0]; exact SetAt.of_row (t := 134) (by rw [hR1, zero_set])
  have hO0 := hO1.alloc (.cells Tryz.zeroCells134 134)
  have hB0 : Below w.heap.size w w0 := by rw [hw0]; exact hB1.alloc hB1.size _
  rw [← hw0] at hO0 ⊢
  clear hw0 hone hR1 hO1 hB1
  have q0 := hO0.c 0 _ rfl
  have q1 := hO0.c 1 _ rfl
  have q2 := hO0.c 2 _ rfl
  have q3 := hO0.c 3 _ rfl
  go_wp2_with fail
  rw [e1.out]
  refine (follow_any n jn w1.heap.size 0 t v c hc hK hr 201 (fun _ => false) (nx1 c i).toNat w0 (cntF_bd _ _) hS0 (by omega)).mono ?_
  rintro e w2 ⟨rfl, m2, hS2, hB2, hF2⟩
  have hO2 := hO0.but hB2 (by omega)
  have hS12 := hS1.but hB2 (by omega)
  have hBB2 : Below w.heap.size w w2 := hB0.trans ((hB2.mono hB0.size).below (by omega))
  replace hF2 : Kp _ := ⟨hF2⟩
  clear q0 q1 q2 q3 hO0 hS0 hS1 hB2 hB0
  have q0 := hO2.c 0 _ rfl
  have q1 := hO2.c 1 _ rfl
  have q2 := hO2.c 2 _ rfl
  have q3 := hO2.c 3 _ rfl
  go_wp2_with fail
  rw [e2.out]
  refine (follow_any n jn w1.heap.size 0 t v c hc hK hr 201 m2 (nx2 c i).toNat w2 (cntF_bd _ _) hS2 (by omega)).mono ?_
  rintro e w3 ⟨rfl, m, hS3, hB3, hF3⟩
  have hS13 := hS12.but hB3 (by omega)
  have hBB3 : Below w.heap.size w w3 := hBB2.trans ((hB3.mono hBB2.size).below (by omega))
  have hreg : Kp (∀ j : Nat, m j = true ↔ (j : Int) ≤ half c ∧ Reach c (fun x => x ∈ nxt c i) jn j) := ⟨fun j => by
    have hu := (hF2.out.union hF3).iff hr.out (fun x hx => by rcases hx with hx | hx <;> (have hx : x = _ := hx; omega)) j
    rw [hu]
    have hS : ∀ x, (One ((nx1 c i).toNat : Nat) x ∨ One ((nx2 c i).toNat : Nat) x) ↔ x ∈ nxt c i := fun x => by
      rw [mem_nxt hi]
      show (x = _ ∨ x = _) ↔ _
      rw [← e1.out, ← e2.out]
    constructor
    · rintro ⟨h1, h2⟩; exact ⟨h1, h2.congr (fun x hx => (hS x).1 hx)⟩
    · rintro ⟨h1, h2⟩; exact ⟨h1, h2.congr (fun x hx => (hS x).2 hx)⟩⟩
  clear q0 q1 q2 q3 hO2 hS2 hS12 hBB2 hB3 hF2 hF3
  obtain ⟨w4, hw4⟩ : ∃ w4 : World, w3.setCells (w.heap.size + 1) 0 (big 201 (fun j => .bool (m j))).toList = w4 := ⟨_, rfl⟩
  have hcell : Kp (∀ j, j < 201 → w4.cell? ⟨w.heap.size + 1, 0 + j, none⟩ = some (.bool (m j))) := ⟨by rw [← hw4]; exact st_big_cell w3 (w.heap.size + 1) 0 201 (fun j => .bool (m j)) (fun j hj => by rw [hS13.c j hj]; rfl)⟩
  have hB4 : Below w.heap.size w w4 := by rw [← hw4]; exact below_cells hBB3 (b := w.heap.size + 1) (by omega) (big 201 (fun j => .bool (m j))).toList 0
  replace hw4 : Kp _ := ⟨hw4⟩
  dsimp only
  repeat (first | refine wp_load_big 134 (.tmp 9) rfl w1.heap.size 0 201 (fun j => .bool (m j)) rfl _ Tryz.underlying134 rfl (by kernel_rfl) hS3.c ?_ | (refine wp_store_big 134 (.tmp 6) (.tmp 25) rfl (w.heap.size + 1) 0 201 (fun j => .bool (m j)) rfl rfl (by kernel_rfl) (fun j hj => by rw [hS13.c j hj]; rfl) hS13.f (fun _ _ => rfl) ?_; rw [hw4.out]) | go_step)
  refine bodyPost_ret (v := .agg (big 201 (fun j => .bool (m j)))) (results_cell_big rfl _ w4 (w.heap.size + 1) 0 201 (fun j => .bool (m j)) _ rfl Tryz.underlying134 rfl (by kernel_rfl) hcell.out) rfl ⟨m, rfl, hreg, hB4⟩
end Go.Proofs.YtcnbifdlkalimabGreat
