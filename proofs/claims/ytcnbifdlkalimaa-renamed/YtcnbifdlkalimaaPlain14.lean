/-
  The plain mathematics of the answer of Check, decided: a computation whose outcome, where it comes out true, is the answer that the document's words give; no condition but those that stand in each lemma.
-/
import Derived.Test.YtcnbifdlkalimaaPlain10
namespace Go.Proofs.Ytcnbifdlkalimaa
open Go.RowKit
set_option linter.unusedVariables false

/-- entry j of a list of marks -/
def mk (l : List Bool) (j : Nat) : Bool := l.getD j false

theorem mk_map {f : Nat → Bool} {N j : Nat} : mk ((List.range N).map f) j = (decide (j < N) && f j) := by
  unfold mk
  by_cases h : j < N
  · simp [List.getD, h]
  · simp [List.getD, h]

/-- places of code -/
def pl (c : ByteArray) : Nat := (half c).toNat

/-- one step of what can be reached -/
def rStep (c : ByteArray) (wall : Int) (l : List Bool) : List Bool :=
  (List.range (pl c + 1)).map fun j => mk l j || (decide ((j : Int) ≠ wall) && (List.range (pl c)).any fun i => mk l i && decide ((j : Int) ∈ nxt c i))
def rIter (c : ByteArray) (wall : Int) : Nat → List Bool → List Bool
  | 0, l => l
  | k + 1, l => rIter c wall k (rStep c wall l)
def reachL (c : ByteArray) (S : Nat → Bool) (wall : Int) : List Bool := rIter c wall (pl c + 1) ((List.range (pl c + 1)).map fun j => S j && decide ((j : Int) ≠ wall))

theorem pl_eq (c : ByteArray) : ((pl c : Nat) : Int) = half c := Int.toNat_of_nonneg (half_bd c).1

theorem rStep_sound {c : ByteArray} {S : Nat → Bool} {wall : Int} {l : List Bool} (h : ∀ j : Nat, mk l j = true → j < pl c + 1 ∧ Reach c (Marked c S) wall j) : ∀ j : Nat, mk (rStep c wall l) j = true → j < pl c + 1 ∧ Reach c (Marked c S) wall j := by
  intro j hj
  unfold rStep at hj
  rw [mk_map, Bool.and_eq_true, decide_eq_true_iff, Bool.or_eq_true, Bool.and_eq_true, decide_eq_true_iff, List.any_eq_true] at hj
  refine ⟨hj.1, ?_⟩
  rcases hj.2 with k | ⟨k1, i, hi, k2⟩
  · exact (h j k).2
  · rw [Bool.and_eq_true, decide_eq_true_iff] at k2
    have hi2 : i < pl c := List.mem_range.1 hi
    have := pl_eq c
    exact (h i k2.1).2.step ⟨by omega, by omega, k2.2⟩ k1

theorem rIter_sound {c : ByteArray} {S : Nat → Bool} {wall : Int} (k : Nat) : ∀ l : List Bool, (∀ j : Nat, mk l j = true → j < pl c + 1 ∧ Reach c (Marked c S) wall j) → ∀ j : Nat, mk (rIter c wall k l) j = true → j < pl c + 1 ∧ Reach c (Marked c S) wall j := by
  induction k with
  | zero => exact fun l h => h
  | succ k ih => exact fun l h => ih _ (rStep_sound h)

theorem rIter_more {c : ByteArray} {wall : Int} (k : Nat) : ∀ l : List Bool, ∀ j : Nat, j < pl c + 1 → mk l j = true → mk (rIter c wall k l) j = true := by
  induction k with
  | zero => exact fun l j _ h => h
  | succ k ih =>
    intro l j hj h
    refine ih _ j hj ?_
    unfold rStep
    rw [mk_map, Bool.and_eq_true, Bool.or_eq_true]
    exact ⟨decide_eq_true hj, .inl h⟩

theorem reach_some {c : ByteArray} {S : Nat → Bool} {wall : Int} {j : Nat} (h : mk (reachL c S wall) j = true) : Reach c (Marked c S) wall j := by
  refine (rIter_sound (pl c + 1) _ (fun j hj => ?_) j h).2
  rw [mk_map, Bool.and_eq_true, Bool.and_eq_true, decide_eq_true_iff, decide_eq_true_iff] at hj
  have := pl_eq c
  exact ⟨hj.1, Reach.start ⟨by omega, by omega, by rw [Int.toNat_natCast]; exact hj.2.1⟩ hj.2.2⟩

/-- nothing more is reached -/
def shutL (c : ByteArray) (S : Nat → Bool) (wall : Int) : Bool := rStep c wall (reachL c S wall) == reachL c S wall

theorem reach_iff {c : ByteArray} {S : Nat → Bool} {wall : Int} (hr : Ranged c) (ok : shutL c S wall = true) (j : Nat) (hj : (j : Int) ≤ half c) : mk (reachL c S wall) j = true ↔ Reach c (Marked c S) wall j := by
  refine ⟨reach_some, fun hR => ?_⟩
  have e : rStep c wall (reachL c S wall) = reachL c S wall := by simpa [shutL] using ok
  have hpl := pl_eq c
  have := hR (fun x => 0 ≤ x ∧ x ≤ half c ∧ mk (reachL c S wall) x.toNat = true) (fun x hx hw => ⟨hx.1, hx.2.1, ?_⟩) (fun x y hx he hw => ?_)
  · have h := this.2.2
    rwa [Int.toNat_natCast] at h
  · have h0 := hx.1
    have h1 := hx.2.1
    refine rIter_more _ _ _ (by omega) ?_
    rw [mk_map, Bool.and_eq_true, Bool.and_eq_true]
    exact ⟨decide_eq_true (by omega), hx.2.2, decide_eq_true (by rw [Int.toNat_of_nonneg h0]; exact hw)⟩
  · have hy := hr x y he
    refine ⟨hy.1, hy.2, ?_⟩
    rw [← e]
    unfold rStep
    rw [mk_map, Bool.and_eq_true, Bool.or_eq_true, Bool.and_eq_true, List.any_eq_true]
    have he0 := he.1
    have he1 := he.2.1
    refine ⟨decide_eq_true (by omega), .inr ⟨decide_eq_true (by rw [Int.toNat_of_nonneg hy.1]; exact hw), x.toNat, List.mem_range.2 (by omega), ?_⟩⟩
    rw [Bool.and_eq_true, Int.toNat_of_nonneg hy.1, Int.toNat_of_nonneg he.1]
    exact ⟨hx.2.2, decide_eq_true he.2.2⟩

def isI (i : Nat) : Nat → Bool := fun j => decide (j = i)
def isN (c : ByteArray) (i : Nat) : Nat → Bool := fun j => decide ((j : Int) ∈ nxt c i)

theorem next_marked {c : ByteArray} {i : Nat} (hr : Ranged c) (hi : (i : Int) < half c) (wall p : Int) : Reach c (Marked c (isN c i)) wall p ↔ Reach c (fun x => x ∈ nxt c i) wall p := by
  constructor
  · refine Reach.congr (fun x hx => ?_)
    have h2 := of_decide_eq_true hx.2.2
    rw [Int.toNat_of_nonneg hx.1] at h2
    exact h2
  · refine Reach.congr (fun x hx => ?_)
    have h2 := hr i x ⟨by omega, hi, hx⟩
    exact ⟨h2.1, h2.2, decide_eq_true (by rw [Int.toNat_of_nonneg h2.1]; exact hx)⟩

/-- which places are live; from which the end is reached -/
def liveL (c : ByteArray) : List Bool := reachL c (isI 0) (-1)
def endsB (c : ByteArray) (i : Nat) : Bool := mk (reachL c (isI i) (-1)) (pl c)

theorem live_iff {c : ByteArray} (hr : Ranged c) (ok : shutL c (isI 0) (-1) = true) (j : Nat) (hj : (j : Int) ≤ half c) : mk (liveL c) j = true ↔ Live c j := by
  unfold liveL
  rw [reach_iff hr ok j hj]
  exact marked_one (i := 0) (by have := (half_bd c).1; omega) (-1) j

theorem ends_some {c : ByteArray} {i : Nat} (hi : (i : Int) ≤ half c) (h : endsB c i = true) : Reach c (One i) (-1) (half c) := by
  have := reach_some h
  rw [pl_eq] at this
  exact (marked_one hi (-1) _).1 this

theorem ends_none {c : ByteArray} {i : Nat} (hr : Ranged c) (hi : (i : Int) ≤ half c) (ok : shutL c (isI i) (-1) = true) (h : endsB c i = false) : ¬ Reach c (One i) (-1) (half c) := fun hR => by
  have h2 := (reach_iff hr ok (pl c) (by rw [pl_eq]; exact Int.le_refl _)).2 (by rw [pl_eq]; exact (marked_one hi (-1) _).2 hR)
  unfold endsB at h
  rw [h2] at h
  exact absurd h (by simp)

def all (N : Nat) (f : Nat → Bool) : Bool := (List.range N).all f
theorem all_iff {N : Nat} {f : Nat → Bool} : all N f = true ↔ ∀ i, i < N → f i = true := by
  unfold all
  rw [List.all_eq_true]
  exact ⟨fun h i hi => h i (List.mem_range.2 hi), fun h i hi => h i (List.mem_range.1 hi)⟩

/-- P5's first error, at place p -/
def loopB (c : ByteArray) (p : Nat) : Bool :=
  shutL c (isI 0) (-1) && (decide (p < pl c + 1) && (mk (liveL c) p && (!(endsB c p) && (shutL c (isI p) (-1) && all p fun q => !(mk (liveL c) q) || endsB c q))))

theorem loop_yes {c v t : ByteArray} {n : Int} {p : Nat} (hr : Ranged c) (h : loopB c p = true) : CodeIs c v t n p 7 := by
  unfold loopB at h
  simp only [Bool.and_eq_true, decide_eq_true_iff, Bool.not_eq_true'] at h
  obtain ⟨h1, h2, h3, h4, h5, h6⟩ := h
  have hpl := pl_eq c
  have hpK : (p : Int) ≤ half c := by omega
  refine .inl ⟨rfl, ⟨⟨by omega, hpK⟩, (live_iff hr h1 p hpK).1 h3, ends_none hr hpK h5 h4⟩, fun q hq ht => ?_⟩
  have e : ((q.toNat : Nat) : Int) = q := Int.toNat_of_nonneg ht.1.1
  have h7 := all_iff.1 h6 q.toNat (by omega)
  rw [Bool.or_eq_true, Bool.not_eq_true'] at h7
  rcases h7 with h7 | h7
  · have := (live_iff hr h1 q.toNat (by rw [e]; exact ht.1.2)).2 (by rw [e]; exact ht.2.1)
    rw [h7] at this
    exact absurd this (by simp)
  · have := ends_some (i := q.toNat) (by rw [e]; exact ht.1.2) h7
    rw [e] at this
    exact ht.2.2 this

/-- no place is a trap -/
def freeB (c : ByteArray) : Bool := shutL c (isI 0) (-1) && all (pl c + 1) fun q => !(mk (liveL c) q) || endsB c q

theorem free_yes {c : ByteArray} (hr : Ranged c) (h : freeB c = true) : ∀ q, ¬ Trap c q := by
  unfold freeB at h
  rw [Bool.and_eq_true] at h
  intro q ht
  have hpl := pl_eq c
  have h0 := ht.1.1
  have h1 := ht.1.2
  have e : ((q.toNat : Nat) : Int) = q := Int.toNat_of_nonneg h0
  have h7 := all_iff.1 h.2 q.toNat (by omega)
  rw [Bool.or_eq_true, Bool.not_eq_true'] at h7
  rcases h7 with h7 | h7
  · have := (live_iff hr h.1 q.toNat (by rw [e]; exact h1)).2 (by rw [e]; exact ht.2.1)
    rw [h7] at this
    exact absurd this (by simp)
  · have := ends_some (i := q.toNat) (by rw [e]; exact h1) h7
    rw [e] at this
    exact ht.2.2 this

/-- a path, and the height that it leads to -/
def walkH (c : ByteArray) : Nat → Int → List Nat → Option (Nat × Int)
  | p, y, [] => some (p, y)
  | p, y, q :: l => if decide (p < pl c) && decide ((q : Int) ∈ nxt c p) then walkH c q (y - takesAt c p + givesAt c p) l else none

theorem walk_h {c : ByteArray} {f : Nat → Int} (hf : HeightsOk c f) : ∀ (l : List Nat) (p : Nat) (y : Int) (q : Nat) (z : Int), Live c p → f p = y → walkH c p y l = some (q, z) → f q = z := by
  intro l
  induction l with
  | nil =>
    intro p y q z _ hy h
    simp only [walkH, Option.some.injEq, Prod.mk.injEq] at h
    rw [← h.1, ← h.2]; exact hy
  | cons x l ih =>
    intro p y q z hl hy h
    simp only [walkH] at h
    split at h
    · rename_i k
      rw [Bool.and_eq_true, decide_eq_true_iff, decide_eq_true_iff] at k
      have hpl := pl_eq c
      have hlt : (p : Int) < half c := by omega
      refine ih x _ q z (hl.step ⟨by omega, hlt, k.2⟩ (by omega)) ?_ h
      have := hf.step p hlt hl x k.2
      rw [Int.toNat_natCast] at this
      rw [this, hy]
    · exact absurd h (by simp)

/-- two paths to one place, with unlike heights -/
def partB (c : ByteArray) (l l' : List Nat) : Bool :=
  match walkH c 0 0 l, walkH c 0 0 l' with
  | some (q, z), some (q', z') => decide (q = q') && decide (z ≠ z')
  | _, _ => false

theorem part_yes {c v t : ByteArray} {n : Int} {l l' : List Nat} (hr : Ranged c) (h1 : freeB c = true) (h : partB c l l' = true) : CodeIs c v t n 0 8 := by
  refine .inr ⟨free_yes hr h1, .inl ⟨rfl, rfl, ?_⟩⟩
  rintro ⟨f, hf⟩
  have h0 : Live c ((0 : Nat) : Int) := Reach.start rfl (by omega)
  unfold partB at h
  split at h
  · rename_i q z q' z' e1 e2
    rw [Bool.and_eq_true, decide_eq_true_iff, decide_eq_true_iff] at h
    have a1 := walk_h hf l 0 0 q z h0 hf.zero e1
    have a2 := walk_h hf l' 0 0 q' z' h0 hf.zero e2
    rw [← h.1] at a2
    exact h.2 (by rw [← a1, ← a2])
  · exact absurd h (by simp)
end Go.Proofs.Ytcnbifdlkalimaa
