/-
  The plain mathematics of a walk that follows all places behind a place, up to a barrier; no condition but those that stand in each lemma.
-/
import Derived.Test.YtcnbifdlkalimaaPlain6
namespace Go.Proofs.Ytcnbifdlkalimaa
open Go.RowKit

/-- what was followed from p on, up to the barrier: m before, m' behind -/
structure Fol (c : ByteArray) (bar : Int) (S : Int → Prop) (m m' : Nat → Bool) : Prop where
  more : ∀ j, m j = true → m' j = true
  sound : ∀ j : Nat, m' j = true → m j = true ∨ ((j : Int) ≤ half c ∧ Reach c S bar j)
  begun : ∀ p : Nat, S p → (p : Int) ≠ bar → m' p = true
  shut : ∀ i : Nat, m' i = true → m i = false → ∀ j : Int, (i : Int) < half c → j ∈ nxt c i → j ≠ bar → m' j.toNat = true

theorem Fol.nothing {c : ByteArray} {bar : Int} {p : Nat} {m : Nat → Bool} (h : (p : Int) ≠ bar → m p = true) : Fol c bar (One p) m m :=
  ⟨fun _ h => h, fun _ h => .inl h, fun q hq hb => by have e : (q : Int) = p := hq; have e2 : q = p := by omega
                                                      subst e2; exact h hb, fun i h1 h2 => by rw [h1] at h2; exact absurd h2 (by simp)⟩

theorem Fol.union {c : ByteArray} {bar : Int} {S T : Int → Prop} {m m' m'' : Nat → Bool} (h : Fol c bar S m m') (k : Fol c bar T m' m'') : Fol c bar (fun x => S x ∨ T x) m m'' := by
  refine ⟨fun j hj => k.more j (h.more j hj), fun j hj => ?_, fun p hp hb => ?_, fun i h1 h2 j hi hj hb => ?_⟩
  · rcases k.sound j hj with h1 | ⟨h1, h2⟩
    · rcases h.sound j h1 with h3 | ⟨h3, h4⟩
      · exact .inl h3
      · exact .inr ⟨h3, h4.congr (fun _ hx => .inl hx)⟩
    · exact .inr ⟨h1, h2.congr (fun _ hx => .inr hx)⟩
  · rcases hp with hp | hp
    · exact k.more p (h.begun p hp hb)
    · exact k.begun p hp hb
  · cases hm : m' i
    · exact k.shut i h1 hm j hi hj hb
    · exact k.more _ (h.shut i hm h2 j hi hj hb)

/-- a new place, and then all behind it -/
theorem Fol.step {c : ByteArray} {bar : Int} {p : Nat} {m m' : Nat → Bool} {S : Int → Prop} (hr : Ranged c) (hp : (p : Int) ≤ half c) (hb : (p : Int) ≠ bar) (hS : ∀ x, S x → ((p : Int) < half c ∧ x ∈ nxt c p) ∨ x = p) (hS2 : (p : Int) < half c → ∀ x, x ∈ nxt c p → S x)
    (h : Fol c bar S (fun j => if j = p then true else m j) m') : Fol c bar (One p) m m' := by
  have hpm : m' p = true := h.more p (by simp)
  refine ⟨fun j hj => h.more j (by simp [hj]), fun j hj => ?_, fun q hq _ => ?_, fun i h1 h2 j hi hj hjb => ?_⟩
  · rcases h.sound j hj with h1 | ⟨h1, h2⟩
    · by_cases e : j = p
      · subst e; exact .inr ⟨hp, Reach.start rfl hb⟩
      · simp only [if_neg e] at h1; exact .inl h1
    · refine .inr ⟨h1, h2 (fun x => Reach c (One p) bar x) (fun x hx hxb => ?_) (fun _ _ hx he hw => hx.step he hw)⟩
      rcases hS x hx with ⟨hlt, hm⟩ | hx
      · exact (Reach.start (S := One p) rfl hb).step ⟨by omega, hlt, hm⟩ hxb
      · rw [hx]; exact Reach.start rfl hb
  · have e : (q : Int) = p := hq
    have e2 : q = p := by omega
    subst e2
    exact hpm
  · by_cases e : i = p
    · subst e
      have hj2 := hr i j ⟨by omega, hi, hj⟩
      have := h.begun j.toNat (by rw [Int.toNat_of_nonneg hj2.1]; exact hS2 hi j hj) (by rw [Int.toNat_of_nonneg hj2.1]; exact hjb)
      exact this
    · exact h.shut i h1 (by simp only [if_neg e]; exact h2) j hi hj hjb

theorem Fol.done {c : ByteArray} {bar : Int} {S : Int → Prop} {m : Nat → Bool} (hr : Ranged c) (hS : ∀ x, S x → 0 ≤ x) (h : Fol c bar S (fun _ => false) m) (j : Nat) : m j = true ↔ (j : Int) ≤ half c ∧ Reach c S bar j ∨ (m j = true ∧ ¬ (j : Int) ≤ half c) := by
  constructor
  · intro hj
    rcases h.sound j hj with h1 | h1
    · exact absurd h1 (by simp)
    · exact .inl h1
  · rintro (⟨h1, h2⟩ | h1)
    · have := h2 (fun x => 0 ≤ x ∧ m x.toNat = true) (fun x hx hb => ?_) (fun x y hx he hb => ?_)
      · have h3 := this.2; rw [Int.toNat_natCast] at h3; exact h3
      · have h0 := hS x hx
        exact ⟨h0, h.begun x.toNat (by rw [Int.toNat_of_nonneg h0]; exact hx) (by rw [Int.toNat_of_nonneg h0]; exact hb)⟩
      · have e : ((x.toNat : Nat) : Int) = x := Int.toNat_of_nonneg hx.1
        exact ⟨(hr x y he).1, h.shut x.toNat hx.2 rfl y (by rw [e]; exact he.2.1) (by rw [e]; exact he.2.2) hb⟩
    · exact h1.1

theorem Fol.iff {c : ByteArray} {bar : Int} {S : Int → Prop} {m : Nat → Bool} (hr : Ranged c) (hS : ∀ x, S x → 0 ≤ x) (h : Fol c bar S (fun _ => false) m) (j : Nat) : m j = true ↔ (j : Int) ≤ half c ∧ Reach c S bar j := by
  constructor
  · intro hj
    rcases h.sound j hj with h1 | h1
    · exact absurd h1 (by simp)
    · exact h1
  · intro hj
    exact (h.done hr hS j).2 (.inl hj)
end Go.Proofs.Ytcnbifdlkalimaa
