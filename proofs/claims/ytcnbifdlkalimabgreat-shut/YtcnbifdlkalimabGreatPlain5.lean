/-
  The plain mathematics of places: paths, and what can be reached with a place walled up; no condition but those that stand in each lemma.
-/
import Derived.Test.YtcnbifdlkalimabGreatPlain4
namespace Go.Proofs.YtcnbifdlkalimabGreat
open Go.RowKit

/-- the places behind place i -/
def nxt (c : ByteArray) (i : Int) : List Int :=
  if bv c (2 * i) = 8 then [bv c (2 * i + 1)] else if bv c (2 * i) = 9 ∧ bv c (2 * i + 1) ≠ i + 1 then [i + 1, bv c (2 * i + 1)] else [i + 1]

theorem nxt_len (c : ByteArray) (i : Int) : (nxt c i).length ≤ 2 := by
  unfold nxt
  split
  · simp
  · split <;> simp

/-- place j is behind place i -/
def Edge (c : ByteArray) (i j : Int) : Prop := 0 ≤ i ∧ i < half c ∧ j ∈ nxt c i

/-- there is a path to j from one of the places S, which does not meet the wall -/
def Reach (c : ByteArray) (S : Int → Prop) (wall j : Int) : Prop :=
  ∀ P : Int → Prop, (∀ i, S i → i ≠ wall → P i) → (∀ i k, P i → Edge c i k → k ≠ wall → P k) → P j

theorem Reach.start {c : ByteArray} {S : Int → Prop} {wall i : Int} (h : S i) (hw : i ≠ wall) : Reach c S wall i := fun _ h0 _ => h0 i h hw
theorem Reach.step {c : ByteArray} {S : Int → Prop} {wall i k : Int} (h : Reach c S wall i) (he : Edge c i k) (hw : k ≠ wall) : Reach c S wall k :=
  fun P h0 h1 => h1 i k (h P h0 h1) he hw

/-- places behind a place are places -/
def Ranged (c : ByteArray) : Prop := ∀ i j : Int, Edge c i j → 0 ≤ j ∧ j ≤ half c

/-- marks as a set of places -/
def Marked (c : ByteArray) (mk : Nat → Bool) (i : Int) : Prop := 0 ≤ i ∧ i ≤ half c ∧ mk i.toNat = true

/-- what is kept while marks spread: only what can be reached is marked, and what one begins with -/
structure Spreads (c : ByteArray) (mk : Nat → Bool) (wall : Int) (m : Nat → Bool) : Prop where
  sound : ∀ j : Nat, (j : Int) ≤ half c → m j = true → Reach c (Marked c mk) wall j
  begun : ∀ j : Nat, (j : Int) ≤ half c → mk j = true → (j : Int) ≠ wall → m j = true

/-- the marks go on along all ways from the places below k -/
def ClosedTo (c : ByteArray) (wall : Int) (m : Nat → Bool) (k : Nat) : Prop := ∀ i : Nat, i < k → m i = true → ∀ j : Int, j ∈ nxt c i → j ≠ wall → m j.toNat = true

theorem spread_done {c : ByteArray} {mk m : Nat → Bool} {wall : Int} (hr : Ranged c) (h : Spreads c mk wall m) (hc : ClosedTo c wall m (half c).toNat) :
    ∀ j : Nat, (j : Int) ≤ half c → (m j = true ↔ Reach c (Marked c mk) wall j) := by
  intro j hj
  refine ⟨h.sound j hj, fun hR => ?_⟩
  have := hR (fun x => 0 ≤ x ∧ x ≤ half c ∧ m x.toNat = true) (fun i hi hw => ⟨hi.1, hi.2.1, h.begun i.toNat (by have := hi.1; have := hi.2.1; omega) hi.2.2 (by have := hi.1; omega)⟩) (fun i k hi he hw => ?_)
  · have h2 := this.2.2
    rw [Int.toNat_natCast] at h2
    exact h2
  · have hk := hr i k he
    refine ⟨hk.1, hk.2, ?_⟩
    have he0 := he.1
    have he1 := he.2.1
    exact hc i.toNat (by omega) hi.2.2 k (by rw [Int.toNat_of_nonneg he0]; exact he.2.2) hw

/-- how many of the first k are not marked -/
def cntF (m : Nat → Bool) : Nat → Nat
  | 0 => 0
  | k + 1 => cntF m k + (if m k then 0 else 1)

theorem cntF_same {m m' : Nat → Bool} {k : Nat} (h : ∀ i, i < k → m i = m' i) : cntF m k = cntF m' k := by
  induction k with
  | zero => rfl
  | succ k ih => simp only [cntF, ih (fun i hi => h i (by omega)), h k (by omega)]

theorem cntF_set {m : Nat → Bool} {k j : Nat} (hj : j < k) (h : m j = false) : cntF (fun x => if x = j then true else m x) k + 1 = cntF m k := by
  induction k with
  | zero => omega
  | succ k ih =>
    by_cases e : j = k
    · subst e
      have hs : cntF (fun x => if x = j then true else m x) j = cntF m j := cntF_same (fun i hi => by rw [if_neg (by omega)])
      simp only [cntF, hs, if_true, h]
      simp
    · have := ih (by omega)
      have e2 : (if k = j then true else m k) = m k := if_neg (fun h => e h.symm)
      simp only [cntF, e2]
      omega

theorem spread_more {c : ByteArray} {mk m : Nat → Bool} {wall : Int} {i xn : Nat} (h : Spreads c mk wall m) (hi : (i : Int) < half c) (hm : m i = true) (hx : (xn : Int) ∈ nxt c i) (hw : (xn : Int) ≠ wall) :
    Spreads c mk wall (fun x => if x = xn then true else m x) := by
  refine ⟨fun j hj hmj => ?_, fun j hj hmk hjw => ?_⟩
  · by_cases e : j = xn
    · subst e
      exact (h.sound i (by omega) hm).step ⟨by omega, hi, hx⟩ hw
    · simp only [if_neg e] at hmj
      exact h.sound j hj hmj
  · by_cases e : j = xn
    · simp [e]
    · simp only [if_neg e]
      exact h.begun j hj hmk hjw
end Go.Proofs.YtcnbifdlkalimabGreat
