import Derived.Test.YtcnbifdlkalimabGreatTrn3
import Derived.Test.YtcnbifdlkalimabGreatSrcB
import Derived.Test.YtcnbifdlkalimabGreatWayB
import Derived.Laws.OwnMore
import Derived.Test.YtcnbifdlkalimabGreatTrn4

/-
  The walks of pairs of levels; for every order of at most six levels.
-/
namespace Go.Proofs.YtcnbifdlkalimabGreat
open Go.RowKit
set_option linter.unusedVariables false
set_option maxRecDepth 100000

/-- at offset o of block b lie pairs -/
structure PrAt (w : World) (b o : Nat) (n : Int) (f : Nat → Nat → Bool) : Prop where
  lt : b < w.heap.size
  c0 : w.cell? ⟨b, o, none⟩ = some (.int .i64 n)
  c : ∀ i j : Nat, i < 6 → j < 6 → w.cell? ⟨b, o + 1 + 6 * i + j, none⟩ = some (.bool (f i j))
  f : ∀ k : Nat, k < 37 → w.frozen? ⟨b, o + k, none⟩ = false

/-- nothing but the pairs has changed -/
structure PrTo (w w' : World) (b o : Nat) : Prop where
  os : w'.os = w.os
  tape : w'.tape = w.tape
  output : w'.output = w.output
  size : w'.heap.size = w.heap.size
  block : ∀ k, k ≠ b → w'.heap[k]? = w.heap[k]?
  cell : ∀ k, (k ≤ o ∨ o + 37 ≤ k) → w'.cell? ⟨b, k, none⟩ = w.cell? ⟨b, k, none⟩
  frozen : ∀ k, w'.frozen? ⟨b, k, none⟩ = w.frozen? ⟨b, k, none⟩
theorem PrTo.refl (w : World) (b o : Nat) : PrTo w w b o := ⟨rfl, rfl, rfl, rfl, fun _ _ => rfl, fun _ _ => rfl, fun _ => rfl⟩
theorem PrTo.set {x w : World} {b o k : Nat} (h : PrTo x w b o) (hk : o < k ∧ k < o + 37) (v : Value) : PrTo x (w.setCell ⟨b, k, none⟩ v) b o :=
  ⟨h.os, h.tape, h.output, by simpa using h.size, fun i hi => (Below.heap_setCell w ⟨b, k, none⟩ _ i hi).trans (h.block i hi), fun i hi => (coff _ _ _ _ _ (by omega)).trans (h.cell i hi), fun i => (World.frozen?_setCell ..).trans (h.frozen i)⟩

theorem PrAt.set {w : World} {b o i j : Nat} {n : Int} {f : Nat → Nat → Bool} (H : PrAt w b o n f) (hi : i < 6) (hj : j < 6) (v : Bool) : PrAt (w.setCell ⟨b, o + 1 + 6 * i + j, none⟩ (.bool v)) b o n (fun x y => if x = i ∧ y = j then v else f x y) := by
  refine ⟨by simpa using H.lt, (coff _ _ _ _ _ (by omega)).trans H.c0, fun x y hx hy => ?_, fun k hk => by rw [World.frozen?_setCell]; exact H.f k hk⟩
  by_cases e : x = i ∧ y = j
  · obtain ⟨rfl, rfl⟩ := e
    rw [World.cell?_setCell_same _ _ _ (H.c x y hx hy), if_pos ⟨rfl, rfl⟩]
  · rw [coff _ _ _ _ _ (by omega), if_neg e]
    exact H.c x y hx hy
theorem PrAt.congr {w : World} {b o : Nat} {n : Int} {f g : Nat → Nat → Bool} (H : PrAt w b o n f) (h : ∀ i j, i < 6 → j < 6 → f i j = g i j) : PrAt w b o n g :=
  ⟨H.lt, H.c0, fun i j hi hj => by rw [← h i j hi hj]; exact H.c i j hi hj, H.f⟩
theorem PrAt.step {w w' : World} {b o : Nat} {n : Int} {f : Nat → Nat → Bool} (H : PrAt w b o n f) (hb : Below w.heap.size w w') : PrAt w' b o n f :=
  ⟨Nat.lt_of_lt_of_le H.lt hb.size, by rw [hb.cell (p := ⟨b, o, none⟩) H.lt]; exact H.c0, fun i j hi hj => by rw [hb.cell (p := ⟨b, o + 1 + 6 * i + j, none⟩) H.lt]; exact H.c i j hi hj, fun k hk => by rw [hb.frozen (p := ⟨b, o + k, none⟩) H.lt]; exact H.f k hk⟩

set_option maxHeartbeats 400000 in
theorem pHas_any (b o i j : Nat) (n : Int) (f : Nat → Nat → Bool) (w : World) (H : PrAt w b o n f) (hi : i < 6) (hj : j < 6) :
    Calls Tryz.prog 96 #[.pointer (some ⟨b, o, none⟩), .int .i64 i, .int .i64 j] w fun e w' => e = .returned (.bool (f i j)) ∧ w' = w := by
  have hc := H.c i j hi hj
  have hi2 : (i : Int) < 6 := by omega
  have hj2 : (j : Int) < 6 := by omega
  generalize f i j = v at *
  rw [show o + 1 + 6 * i + j = o + 1 + i * 6 + j from by omega] at hc
  clear H
  go_enter Tryz.func96, Tryz.ntmps96
  go_wp2
  go_ret
  exact ⟨rfl, rfl⟩

/-- what is laid when so many pairs of levels have been looked at -/
def updP (f : Nat → Nat → Bool) (a c i j : Nat) : Nat → Nat → Bool := fun x y => if x < i ∨ (x = i ∧ y < j) then f x y || (f x a && f c y) else f x y
theorem updP_a (f : Nat → Nat → Bool) (a c i j x : Nat) : updP f a c i j x a = f x a := by
  unfold updP
  split
  · cases f x a <;> simp
  · rfl
theorem updP_c (f : Nat → Nat → Bool) (a c i j y : Nat) : updP f a c i j c y = f c y := by
  unfold updP
  split
  · cases f c y <;> simp
  · rfl
theorem updP_next (f : Nat → Nat → Bool) (a c i j : Nat) : (fun x y => if x = i ∧ y = j then f i j || (f i a && f c j) else updP f a c i j x y) = updP f a c i (j + 1) := by
  funext x y
  unfold updP
  by_cases e : x = i ∧ y = j
  · obtain ⟨rfl, rfl⟩ := e
    rw [if_pos ⟨rfl, rfl⟩, if_pos (by omega)]
  · rw [if_neg e]
    by_cases e2 : x < i ∨ (x = i ∧ y < j)
    · rw [if_pos e2, if_pos (by omega)]
    · rw [if_neg e2, if_neg (by omega)]
theorem updP_at (f : Nat → Nat → Bool) (a c i j : Nat) : updP f a c i j i j = f i j := by
  unfold updP
  rw [if_neg (by omega)]
theorem updP_row (f : Nat → Nat → Bool) (a c i : Nat) : ∀ x y, x < 6 → y < 6 → updP f a c i 6 x y = updP f a c (i + 1) 0 x y := by
  intro x y _ hy
  unfold updP
  by_cases e : x < i ∨ (x = i ∧ y < 6)
  · rw [if_pos e, if_pos (by omega)]
  · rw [if_neg e, if_neg (by omega)]
theorem updP_zero (f : Nat → Nat → Bool) (a c : Nat) : updP f a c 0 0 = f := by
  funext x y
  unfold updP
  rw [if_neg (by omega)]
theorem updP_end (f : Nat → Nat → Bool) (a c : Nat) : ∀ x y, x < 6 → y < 6 → updP f a c 6 0 x y = (f x y || (f x a && f c y)) := by
  intro x y hx _
  unfold updP
  rw [if_pos (by omega)]

set_option maxHeartbeats 1600000 in
theorem addP_any (b o a c : Nat) (n : Int) (f : Nat → Nat → Bool) (w : World) (H : PrAt w b o n f) (ha : (a : Int) < n) (hc : (c : Int) < n) (hn : n ≤ 6) :
    Calls Tryz.prog 91 #[.pointer (some ⟨b, o, none⟩), .int .i64 a, .int .i64 c] w fun e w' => e = .returned (.tuple #[]) ∧ PrAt w' b o n (fun x y => f x y || (f x a && f c y)) ∧ PrTo w w' b o := by
  have c0 := H.c0
  have H0 : Kp (PrAt w b o n (updP f a c 0 0)) := ⟨by rw [updP_zero]; exact H⟩
  have ha6 : a < 6 := by omega
  have hc6 : c < 6 := by omega
  clear H
  go_enter Tryz.func91, Tryz.ntmps91
  go_wp2_with fail
  go_loopw [30] (fun iv wr => ∃ i : Nat, i ≤ 6 ∧ iv = .int .i64 i ∧ Kp (PrAt wr b o n (updP f a c i 0)) ∧ Kp (PrTo w wr b o)) (fun iv _ => 6 - (intOf iv).toNat)
  case atStart => exact ⟨0, by omega, rfl, H0, ⟨PrTo.refl _ _ _⟩⟩
  case round =>
    clear H0 c0
    obtain ⟨i, hi, rfl, hA, hT⟩ := hrel
    by_cases hi6 : i < 6
    · have hii : (i : Int) < 6 := by omega
      obtain ⟨wq, hwq⟩ : ∃ x, x = wr := ⟨_, rfl⟩
      go_wp2_with fail
      go_loopw [33] (fun jv wr => ∃ j : Nat, j ≤ 6 ∧ jv = .int .i64 j ∧ Kp (PrAt wr b o n (updP f a c i j)) ∧ Kp (PrTo w wr b o)) (fun jv _ => 6 - (intOf jv).toNat)
      case atStart => exact ⟨0, by omega, rfl, hA, hT⟩
      case round =>
        clear hA hT hwq
        obtain ⟨j, hj, rfl, hA, hT⟩ := hrel
        by_cases hj6 : j < 6
        · have hjj : (j : Int) < 6 := by omega
          have h1 := pHas_any b o i a n _ wr hA.out hi6 ha6
          rw [updP_a] at h1
          have h2 := pHas_any b o c j n _ wr hA.out hc6 hj6
          rw [updP_c] at h2
          have cij := hA.out.c i j hi6 hj6
          have fij := hA.out.f (1 + 6 * i + j) (by omega)
          rw [show o + (1 + 6 * i + j) = o + 1 + i * 6 + j from by omega] at fij
          rw [show o + 1 + 6 * i + j = o + 1 + i * 6 + j from by omega] at cij
          replace h1 : Kp _ := ⟨h1⟩
          replace h2 : Kp _ := ⟨h2⟩
          by_cases hq : (f i a && f c j) = true
          · have A2 : Kp (PrAt (wr.setCell ⟨b, o + 1 + i * 6 + j, none⟩ (.bool true)) b o n (updP f a c i (j + 1))) := ⟨by
              have := hA.out.set hi6 hj6 true
              rw [show o + 1 + 6 * i + j = o + 1 + i * 6 + j from by omega] at this
              rw [← updP_next, hq, Bool.or_true]
              exact this⟩
            have T2 : Kp (PrTo w (wr.setCell ⟨b, o + 1 + i * 6 + j, none⟩ (.bool true)) b o) := ⟨hT.out.set (by omega) _⟩
            rw [Bool.and_eq_true] at hq
            rw [hq.1] at h1
            rw [hq.2] at h2
            clear hA hT hq
            go_wp2_with fail
            refine h1.out.mono ?_
            rintro e w2 ⟨rfl, hw⟩
            subst hw
            go_wp2_with fail
            refine h2.out.mono ?_
            rintro e w2 ⟨rfl, hw⟩
            subst hw
            go_wp2_with fail
            go_roundw
            case rel => exact ⟨j + 1, by omega, by go_num, A2, T2⟩
            case measure => simp [intOf]; omega
          · have hq2 : (f i a && f c j) = false := by simpa using hq
            have A2 : Kp (PrAt wr b o n (updP f a c i (j + 1))) := ⟨by
              rw [← updP_next, hq2, Bool.or_false]
              refine hA.out.congr fun x y _ _ => ?_
              by_cases e : x = i ∧ y = j
              · obtain ⟨rfl, rfl⟩ := e
                rw [if_pos ⟨rfl, rfl⟩, updP_at]
              · rw [if_neg e]⟩
            clear hA
            cases h3 : f i a with
            | false =>
              rw [h3] at h1
              clear hq hq2
              go_wp2_with fail
              refine h1.out.mono ?_
              rintro e w2 ⟨rfl, hw⟩
              subst hw
              go_wp2_with fail
              go_roundw
              case rel => exact ⟨j + 1, by omega, by go_num, A2, hT⟩
              case measure => simp [intOf]; omega
            | true =>
              rw [h3] at h1 hq2
              rw [show f c j = false from by simpa using hq2] at h2
              clear hq hq2
              go_wp2_with fail
              refine h1.out.mono ?_
              rintro e w2 ⟨rfl, hw⟩
              subst hw
              go_wp2_with fail
              refine h2.out.mono ?_
              rintro e w2 ⟨rfl, hw⟩
              subst hw
              go_wp2_with fail
              go_roundw
              case rel => exact ⟨j + 1, by omega, by go_num, A2, hT⟩
              case measure => simp [intOf]; omega
        · have hje : j = 6 := by omega
          subst hje
          have A2 : Kp (PrAt wr b o n (updP f a c (i + 1) 0)) := ⟨hA.out.congr (updP_row f a c i)⟩
          clear hA hj6
          go_wp2_with fail
          go_roundw
          case rel => exact ⟨i + 1, by omega, by go_num, A2, hT⟩
          case measure => simp [intOf]; omega
    · have hie : i = 6 := by omega
      subst hie
      have A2 : Kp (PrAt wr b o n (fun x y => f x y || (f x a && f c y))) := ⟨hA.out.congr (updP_end f a c)⟩
      clear hA hi6
      go_wp2_with fail
      first | go_end0 | refine bodyPost_ret (results_none rfl _ _ _) rfl ?_
      exact ⟨rfl, A2.out, hT.out⟩
end Go.Proofs.YtcnbifdlkalimabGreat

/-
  The walks of pairs of levels: no pair so far; for every number of levels up to six.
-/
namespace Go.Proofs.YtcnbifdlkalimabGreat
open Go.RowKit
set_option linter.unusedVariables false
set_option maxRecDepth 100000

/-- the cells of pairs -/
def prCells (n : Int) (f : Nat → Nat → Bool) (k : Nat) : Value := if k = 0 then .int .i64 n else .bool (f ((k - 1) / 6) ((k - 1) % 6))
theorem pr_one (n : Int) (f : Nat → Nat → Bool) (k : Nat) : (prCells n f k).oneCell' = true := by unfold prCells; split <;> rfl
theorem built_pr : Tryz.prog.built 100 [] = some (big 37 (prCells 0 (fun _ _ => false))) := by kernel_rfl

theorem rowA (w : World) (o1 o2 : Obj) : ((w.alloc o1).alloc o2).heap[w.heap.size]? = some o1 := by
  rw [Below.heap_alloc (w.alloc o1) o2 w.heap.size (by simp)]
  exact heap_alloc_new w o1
theorem rowB (w : World) (o1 o2 : Obj) : ((w.alloc o1).alloc o2).heap[w.heap.size + 1]? = some o2 := by
  have := heap_alloc_new (w.alloc o1) o2
  simpa using this

theorem PrAt.of_cells {w : World} {b o : Nat} {n : Int} {f : Nat → Nat → Bool} (hl : b < w.heap.size) (h : ∀ j, j < 37 → w.cell? ⟨b, o + j, none⟩ = some (prCells n f j)) (hf : ∀ j, j < 37 → w.frozen? ⟨b, o + j, none⟩ = false) : PrAt w b o n f := by
  refine ⟨hl, by have := h 0 (by omega); simpa [prCells] using this, fun i j hi hj => ?_, hf⟩
  have := h (1 + 6 * i + j) (by omega)
  rw [show o + (1 + 6 * i + j) = o + 1 + 6 * i + j from by omega] at this
  rw [this]
  unfold prCells
  rw [if_neg (by omega), show (1 + 6 * i + j - 1) / 6 = i from by omega, show (1 + 6 * i + j - 1) % 6 = j from by omega]
theorem PrAt.cells {w : World} {b o : Nat} {n : Int} {f : Nat → Nat → Bool} (H : PrAt w b o n f) (k : Nat) (hk : k < 37) : w.cell? ⟨b, o + k, none⟩ = some (prCells n f k) := by
  unfold prCells
  by_cases e : k = 0
  · subst e
    rw [if_pos rfl]
    exact H.c0
  · rw [if_neg e]
    have := H.c ((k - 1) / 6) ((k - 1) % 6) (by omega) (by omega)
    rw [show o + 1 + 6 * ((k - 1) / 6) + (k - 1) % 6 = o + k from by omega] at this
    exact this

set_option maxHeartbeats 1600000 in
theorem newPairs_any (n : Int) (w : World) (h0 : 0 ≤ n) (h6 : n ≤ 6) :
    Calls Tryz.prog 88 #[.int .i64 n] w fun e w' => e = .returned (.agg (big 37 (prCells n (fun i j => decide (i = j ∧ i < 6))))) ∧ Below w.heap.size w w' := by
  obtain ⟨w0, hw0⟩ : ∃ w0, w0 = ((w.alloc (.cells #[.int .i64 0, .bool false, .bool false, .bool false, .bool false, .bool false, .bool false, .bool false, .bool false, .bool false, .bool false, .bool false, .bool false, .bool false, .bool false, .bool false, .bool false, .bool false, .bool false, .bool false, .bool false, .bool false, .bool false, .bool false, .bool false, .bool false, .bool false, .bool false, .bool false, .bool false, .bool false, .bool false, .bool false, .bool false, .bool false, .bool false, .bool false] 100)).alloc (.cells #[.int .i64 0, .bool false, .bool false, .bool false, .bool false, .bool false, .bool false, .bool false, .bool false, .bool false, .bool false, .bool false, .bool false, .bool false, .bool false, .bool false, .bool false, .bool false, .bool false, .bool false, .bool false, .bool false, .bool false, .bool false, .bool false, .bool false, .bool false, .bool false, .bool false, .bool false, .bool false, .bool false, .bool false, .bool false, .bool false, .bool false, .bool false] 100)) := ⟨_, rfl⟩
  have hsz : w0.heap.size = w.heap.size + 2 := by rw [hw0]; simp
  have hR0 : Room w0 (w.heap.size + 1) 37 := by rw [hw0]; exact Room.of_row (rowB _ _ _) (by kernel_rfl)
  have hR1 : Room w0 w.heap.size 37 := by rw [hw0]; exact Room.of_row (rowA _ _ _) (by kernel_rfl)
  have hB0 : Below w.heap.size w w0 := by rw [hw0]; exact ((Below.refl _ _).alloc (Nat.le_refl _) _).alloc (by simp) _
  obtain ⟨w1, hw1⟩ : ∃ w1, w1 = w0.setCells (w.heap.size + 1) 0 (big 37 (prCells 0 (fun _ _ => false))).toList := ⟨_, rfl⟩
  have hB : But (w.heap.size + 1) w0.heap.size w0 w1 := by rw [hw1]; exact but_cells (But.refl _ _ _) _ _
  have H1 : PrAt w1 (w.heap.size + 1) 0 0 (fun _ _ => false) := PrAt.of_cells (by have := hB.size; omega) (by rw [hw1]; exact st_big_cell w0 _ 0 37 _ hR0.c) (fun j hj => by rw [hw1, World.frozen?_setCells]; exact hR0.f j hj)
  have hR2 := hR1.but hB (by omega)
  have hB1 : Below w.heap.size w w1 := hB0.trans ((hB.mono hB0.size).below (by omega))
  obtain ⟨g, hg⟩ : ∃ g, g = w.heap.size + 1 := ⟨_, rfl⟩
  have hgw : w.heap.size < g := by omega
  rw [← hg] at hR0 hw1 H1
  have d0 : w1.cell? ⟨w.heap.size + 1, 0, none⟩ = some (.int .i64 0) := by rw [← hg]; exact H1.c0
  have e0 : w1.frozen? ⟨w.heap.size + 1, 0, none⟩ = false := by rw [← hg]; exact H1.f 0 (by omega)
  obtain ⟨w2, hw2⟩ : ∃ w2, w2 = w1.setCell ⟨g, 0, none⟩ (.int .i64 n) := ⟨_, rfl⟩
  have H2 : PrAt w2 g 0 n (fun i j => decide (i = j ∧ i < 0)) := by
    rw [hw2]
    refine ⟨by simpa using H1.lt, World.cell?_setCell_same _ _ _ H1.c0, fun i j hi hj => ?_, fun k hk => by rw [World.frozen?_setCell]; exact H1.f k hk⟩
    rw [coff _ _ _ _ _ (by omega), H1.c i j hi hj]
    simp
  have hB2 : Below w.heap.size w w2 := by rw [hw2]; exact hB1.setCell (by show w.heap.size ≤ g; omega) _
  have hR3 : Room w2 w.heap.size 37 := hR2.but (by rw [hw2]; exact (But.refl g _ _).setCell _ _) (by omega)
  replace hw0 : Kp _ := ⟨hw0⟩
  replace hw1 : Kp _ := ⟨hw1⟩
  replace hw2 : Kp _ := ⟨hw2⟩
  replace hg : Kp _ := ⟨hg⟩
  replace H2 : Kp _ := ⟨H2⟩
  replace hB2 : Kp _ := ⟨hB2⟩
  replace hR3 : Kp _ := ⟨hR3⟩
  clear hR1 hB0 hB H1 hR2 hB1 hsz
  go_enter Tryz.func88, Tryz.ntmps88
  repeat (first | refine wp_build_big 100 #[] rfl _ built_pr ?_ | (refine wp_store_big 100 (.tmp 3) (.tmp 5) rfl g 0 37 (prCells 0 (fun _ _ => false)) (by rw [hg.out]; rfl) rfl (by kernel_rfl) (by rw [← hw0.out]; exact hR0.c) (by rw [← hw0.out]; exact hR0.f) (fun j _ => pr_one _ _ j) ?_; rw [← hw0.out, ← hw1.out]; dsimp only [Act.put]) | go_step)
  rw [← hg.out, ← hw2.out]
  clear d0 e0 hw0 hw1 hw2 hR0
  go_loopw [15] (fun iv wr => ∃ k : Nat, k ≤ 6 ∧ iv = .int .i64 k ∧ Kp (PrAt wr g 0 n (fun i j => decide (i = j ∧ i < k))) ∧ Kp (Below w.heap.size w wr) ∧ Kp (Room wr w.heap.size 37)) (fun iv _ => 6 - (intOf iv).toNat)
  case atStart => exact ⟨0, by omega, rfl, H2, hB2, hR3⟩
  case round =>
    clear H2 hB2 hR3
    obtain ⟨k, hk, rfl, hA, hB, hR⟩ := hrel
    by_cases hk6 : k < 6
    · have hkk : (k : Int) < 6 := by omega
      have ckk := hA.out.c k k hk6 hk6
      have fkk := hA.out.f (1 + 6 * k + k) (by omega)
      rw [show 0 + (1 + 6 * k + k) = 1 + k * 6 + k from by omega] at fkk
      rw [show 0 + 1 + 6 * k + k = 1 + k * 6 + k from by omega] at ckk
      have A2 : Kp (PrAt (wr.setCell ⟨g, 1 + k * 6 + k, none⟩ (.bool true)) g 0 n (fun i j => decide (i = j ∧ i < k + 1))) := ⟨by
        have := hA.out.set hk6 hk6 true
        rw [show 0 + 1 + 6 * k + k = 1 + k * 6 + k from by omega] at this
        refine this.congr fun i j _ _ => ?_
        by_cases e : i = k ∧ j = k
        · obtain ⟨rfl, rfl⟩ := e
          rw [if_pos ⟨rfl, rfl⟩]
          exact (decide_eq_true ⟨rfl, by omega⟩).symm
        · rw [if_neg e]
          apply Bool.eq_iff_iff.2
          rw [decide_eq_true_eq, decide_eq_true_eq]
          omega⟩
      have B2 : Kp (Below w.heap.size w (wr.setCell ⟨g, 1 + k * 6 + k, none⟩ (.bool true))) := ⟨hB.out.setCell (by show w.heap.size ≤ g; omega) _⟩
      have R2 : Kp (Room (wr.setCell ⟨g, 1 + k * 6 + k, none⟩ (.bool true)) w.heap.size 37) := ⟨hR.out.but ((But.refl g _ _).setCell _ _) (by omega)⟩
      clear hA hB hR
      go_wp2_with fail
      go_roundw
      case rel => exact ⟨k + 1, by omega, by go_num, A2, B2, R2⟩
      case measure => simp [intOf]; omega
    · have hke : k = 6 := by omega
      subst hke
      obtain ⟨w5, hw5⟩ : ∃ w5 : World, wr.setCells w.heap.size 0 (big 37 (prCells n (fun i j => decide (i = j ∧ i < 6)))).toList = w5 := ⟨_, rfl⟩
      have hcell : Kp (∀ j, j < 37 → w5.cell? ⟨w.heap.size, 0 + j, none⟩ = some (prCells n (fun i j => decide (i = j ∧ i < 6)) j)) := ⟨by rw [← hw5]; exact st_big_cell wr w.heap.size 0 37 _ hR.out.c⟩
      have hB5 : Below w.heap.size w w5 := by rw [← hw5]; exact below_cells hB.out (b := w.heap.size) (by omega) _ 0
      replace hw5 : Kp _ := ⟨hw5⟩
      have hcs := hA.out.cells
      clear hk6
      repeat (first | refine wp_load_big 100 (.tmp 3) rfl g 0 37 (prCells n (fun i j => decide (i = j ∧ i < 6))) rfl _ Tryz.underlying100 rfl (by kernel_rfl) hcs ?_ | (refine wp_store_big 100 (.tmp 2) (.tmp 24) rfl w.heap.size 0 37 (prCells n (fun i j => decide (i = j ∧ i < 6))) rfl rfl (by kernel_rfl) hR.out.c hR.out.f (fun j _ => pr_one _ _ j) ?_; rw [hw5.out]; dsimp only [Act.put]) | go_step)
      refine bodyPost_ret (results_cell_big (by rfl) _ _ w.heap.size 0 37 _ _ rfl Tryz.underlying100 rfl (by kernel_rfl) hcell.out) rfl ⟨rfl, hB5⟩
end Go.Proofs.YtcnbifdlkalimabGreat

/-
  The walks of pairs of levels: their table as a text; for every order of at most six levels.
-/
namespace Go.Proofs.YtcnbifdlkalimabGreat
open Go.RowKit
set_option linter.unusedVariables false
set_option maxRecDepth 100000

/-- the first cells of a table -/
def cellsTo (f : Nat → Nat → Bool) (m k : Nat) : List Int := (List.range k).map fun i => if f (i / m) (i % m) = true then 49 else 48
theorem cellsTo_len (f : Nat → Nat → Bool) (m k : Nat) : (cellsTo f m k).length = k := by simp [cellsTo]
theorem cellsTo_all (f : Nat → Nat → Bool) (m : Nat) : cellsTo f m (m * m) = cells f m := rfl
theorem cellsTo_next (f : Nat → Nat → Bool) {m a c : Nat} (hc : c < m) : cellsTo f m (a * m + c + 1) = cellsTo f m (a * m + c) ++ [if f a c = true then 49 else 48] := by
  unfold cellsTo
  rw [List.range_succ, List.map_append]
  have h1 : (a * m + c) / m = a := by rw [Nat.mul_comm, Nat.mul_add_div (by omega), Nat.div_eq_of_lt hc]; omega
  have h2 : (a * m + c) % m = c := by rw [Nat.mul_comm, Nat.mul_add_mod, Nat.mod_eq_of_lt hc]
  simp [h1, h2]
theorem sq_bd {m a c : Nat} (hm : m ≤ 6) (ha : a ≤ m) (hc : c ≤ m) : a * m + c ≤ 42 := by
  have := Nat.mul_le_mul ha hm
  have : m * 6 ≤ 36 := by omega
  omega

theorem Own.grow {w w' : World} {b : Nat} {vs : List Value} {row : Option Nat} (h : Own w b vs) (hg : w.grownBy w' row) (hne : some b ≠ row) : Own w' b vs :=
  ⟨Nat.lt_of_lt_of_le h.lt hg.size, fun i v hv => by rw [World.cell?_of_block (w := w) (hg.block b h.lt hne)]; exact h.c i v hv, fun i v hv => by rw [World.frozen?_of_block (w := w) (hg.block b h.lt hne)]; exact h.f i v hv⟩

set_option maxHeartbeats 1600000 in
theorem textP_any (b o m : Nat) (f : Nat → Nat → Bool) (w : World) (H : PrAt w b o m f) (hm : m ≤ 6) :
    Calls Tryz.prog 40 #[.pointer (some ⟨b, o, none⟩)] w fun e w' => e = .returned (.string (bs (cells f m))) ∧ Below w.heap.size w w' := by
  have hlt := H.lt
  obtain ⟨i0, hi0, hz0, hz1, hz2⟩ := infoParts info_u8
  obtain ⟨w0, hw0⟩ : ∃ w0, w0 = w.alloc (.cells #[] 5) := ⟨_, rfl⟩
  have W0 : Kp (w0.ownsRow w.heap.size 5 1 (.slice (some ⟨w.heap.size, 0, none⟩) 0 0) 0 ((cellsTo f m 0).map (Value.int .u8))) := ⟨by
    rw [hw0]
    have := World.ownsRow_lit (base := w.heap.size) (e := 5) (size := 1) w #[] 0 (by omega) (by unfold maxLen; omega) rfl
    simpa [cellsTo] using this⟩
  have B0 : Kp (Below w.heap.size w w0) := ⟨by rw [hw0]; exact (Below.refl _ _).alloc (Nat.le_refl _) _⟩
  have H' : Kp _ := ⟨H⟩
  replace hw0 : Kp _ := ⟨hw0⟩
  have hmi : (m : Int) ≤ 6 := by omega
  clear H
  go_enter Tryz.func40, Tryz.ntmps40
  go_wp2_with fail
  rw [← hw0.out]
  go_loopw [3, 4] (fun tv av wr => ∃ a : Nat, a ≤ m ∧ av = .int .i64 a ∧ Kp (wr.ownsRow w.heap.size 5 1 tv (a * m) ((cellsTo f m (a * m)).map (Value.int .u8))) ∧ Kp (Below w.heap.size w wr)) (fun _ av _ => m - (intOf av).toNat)
  case atStart => exact ⟨0, by omega, rfl, by rw [Nat.zero_mul]; exact W0, B0⟩
  case round =>
    clear W0 B0
    obtain ⟨a, ha, rfl, hrow, hB⟩ := hrel
    have P1 := H'.out.step hB.out
    have c0 := P1.c0
    by_cases ham : a < m
    · have hai : (a : Int) < (m : Int) := by omega
      obtain ⟨wq, hwq⟩ : ∃ x, x = wr := ⟨_, rfl⟩
      clear P1
      go_wp2_with fail
      go_loopw [3, 5] (fun tv cv wr => ∃ c : Nat, c ≤ m ∧ cv = .int .i64 c ∧ Kp (wr.ownsRow w.heap.size 5 1 tv (a * m + c) ((cellsTo f m (a * m + c)).map (Value.int .u8))) ∧ Kp (Below w.heap.size w wr)) (fun _ cv _ => m - (intOf cv).toNat)
      case atStart => exact ⟨0, by omega, rfl, hrow, hB⟩
      case round =>
        clear hrow hB c0 hwq
        obtain ⟨c, hc, rfl, hrow, hB⟩ := hrel
        have P1 := H'.out.step hB.out
        have c0 := P1.c0
        by_cases hcm : c < m
        · have hci : (c : Int) < (m : Int) := by omega
          have hh := pHas_any b o a c m f wr P1 (by omega) (by omega)
          have hnx := cellsTo_next f (a := a) hcm
          have hsz := sq_bd hm ha hc
          have hws := hB.out.size
          replace hh : Kp _ := ⟨hh⟩
          replace hnx : Kp _ := ⟨hnx⟩
          clear P1
          cases hf : f a c
          all_goals
            rw [hf] at hh hnx
            go_wp2_with fail
            refine hh.out.mono ?_
            rintro e w2 ⟨rfl, hw⟩
            subst hw
          · go_wp2_with (at_builtin; refine wpList_append_own _ rfl _ _ 56 rfl w.heap.size 5 i0 (.int .u8 0) 1 1 Tryz.underlying56 hi0 hz0 hz1 hz2 rfl (by decide) _ _ _ rfl (hrow.out.alloc _) ⟨w2.heap.size, 0, none⟩ 1 1 [.int .u8 48] rfl rfl ?a1 ?a2 ?a3 ?a4 ?a5 ?_)
            case a1 =>
              intro j u hj
              match j, hj with
              | 0, hj => simp at hj; subst hj; simp [Addr.add]
            case a2 => intro u hu; simp at hu; subst hu; rfl
            case a3 => unfold maxLen; omega
            case a4 => omega
            case a5 => simp; omega
            intro v' w3 hown3 hgrow _
            have hrow3 : Kp (w3.ownsRow w.heap.size 5 1 v' (a * m + (c + 1)) ((cellsTo f m (a * m + (c + 1))).map (Value.int .u8))) := ⟨by rw [← Nat.add_assoc, hnx.out, List.map_append]; exact hown3⟩
            have hB3 : Kp (Below w.heap.size w w3) := ⟨(hB.out.alloc hws _).grown hgrow (by simp; omega) (fun j hj => (hrow.out.lt j hj).1)⟩
            clear hown3 hgrow hrow hB hnx
            go_wp2_with fail
            go_roundw
            case rel => exact ⟨c + 1, by omega, by go_num, hrow3, hB3⟩
            case measure => simp [intOf]; omega
          · go_wp2_with (at_builtin; refine wpList_append_own _ rfl _ _ 56 rfl w.heap.size 5 i0 (.int .u8 0) 1 1 Tryz.underlying56 hi0 hz0 hz1 hz2 rfl (by decide) _ _ _ rfl (hrow.out.alloc _) ⟨w2.heap.size, 0, none⟩ 1 1 [.int .u8 49] rfl rfl ?a1 ?a2 ?a3 ?a4 ?a5 ?_)
            case a1 =>
              intro j u hj
              match j, hj with
              | 0, hj => simp at hj; subst hj; simp [Addr.add]
            case a2 => intro u hu; simp at hu; subst hu; rfl
            case a3 => unfold maxLen; omega
            case a4 => omega
            case a5 => simp; omega
            intro v' w3 hown3 hgrow _
            have hrow3 : Kp (w3.ownsRow w.heap.size 5 1 v' (a * m + (c + 1)) ((cellsTo f m (a * m + (c + 1))).map (Value.int .u8))) := ⟨by rw [← Nat.add_assoc, hnx.out, List.map_append]; exact hown3⟩
            have hB3 : Kp (Below w.heap.size w w3) := ⟨(hB.out.alloc hws _).grown hgrow (by simp; omega) (fun j hj => (hrow.out.lt j hj).1)⟩
            clear hown3 hgrow hrow hB hnx
            go_wp2_with fail
            go_roundw
            case rel => exact ⟨c + 1, by omega, by go_num, hrow3, hB3⟩
            case measure => simp [intOf]; omega
        · have hce : c = m := by omega
          subst hce
          have e1 : a * c + c = (a + 1) * c := by rw [Nat.add_mul, Nat.one_mul]
          rw [e1] at hrow
          have hci : ¬ (c : Int) < (c : Int) := by omega
          clear P1 hcm
          go_wp2_with fail
          go_roundw
          case rel => exact ⟨a + 1, by omega, by go_num, hrow, hB⟩
          case measure => simp [intOf]; omega
    · have hae : a = m := by omega
      subst hae
      have hcv := conv_row (cellsTo f a (a * a)) (by rw [cellsTo_len]; exact hrow.out)
      rw [cellsTo_all] at hcv
      obtain ⟨y, hy⟩ : ∃ y, bs (cells f a) = y := ⟨_, rfl⟩
      rw [hy] at hcv
      replace hy : Kp _ := ⟨hy⟩
      have hai : ¬ (a : Int) < (a : Int) := by omega
      clear P1 ham hrow
      go_wp2_with fail
      go_ret
      exact ⟨by rw [hy.out]; rfl, hB.out⟩
end Go.Proofs.YtcnbifdlkalimabGreat
