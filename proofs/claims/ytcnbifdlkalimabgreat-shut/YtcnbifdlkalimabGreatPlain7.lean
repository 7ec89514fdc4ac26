/-
  The plain mathematics of heights: what a program's heights are, and that spreading them from place 0 finds them where there are any; no condition but those that stand in each lemma.
-/
import Derived.Test.YtcnbifdlkalimabGreatPlain6
namespace Go.Proofs.YtcnbifdlkalimabGreat
open Go.RowKit

/-- how many values an instruction pops, and pushes -/
def takesF (op : Int) : Int := if op = 2 ∨ op = 9 ∨ op = 11 then 1 else if op = 0 ∨ op = 1 ∨ op = 8 ∨ op = 10 then 0 else 2
def givesF (op : Int) : Int := if op = 2 ∨ op = 9 ∨ op = 11 ∨ op = 8 then 0 else 1
def takesAt (c : ByteArray) (i : Int) : Int := takesF (bv c (2 * i))
def givesAt (c : ByteArray) (i : Int) : Int := givesF (bv c (2 * i))

theorem delta_bd (c : ByteArray) (i : Int) : (0 ≤ takesAt c i ∧ takesAt c i ≤ 2) ∧ (0 ≤ givesAt c i ∧ givesAt c i ≤ 1) ∧ -1 ≤ givesAt c i - takesAt c i := by
  unfold takesAt givesAt takesF givesF
  refine ⟨?_, ?_, ?_⟩
  · split
    · omega
    · split <;> omega
  · split <;> omega
  · by_cases h1 : bv c (2 * i) = 2 ∨ bv c (2 * i) = 9 ∨ bv c (2 * i) = 11
    · rw [if_pos h1, if_pos (by omega)]; omega
    · rw [if_neg h1]
      by_cases h2 : bv c (2 * i) = 8
      · rw [if_pos (by omega), if_pos (by omega)]; omega
      · rw [if_neg (by omega)]
        split <;> omega

/-- place i is live -/
def Live (c : ByteArray) (i : Int) : Prop := Reach c (One 0) (-1) i

/-- these are heights of the live places -/
structure HeightsOk (c : ByteArray) (h : Nat → Int) : Prop where
  zero : h 0 = 0
  rng : ∀ i : Nat, (i : Int) ≤ half c → Live c i → 0 ≤ h i ∧ h i ≤ 8
  fin : Live c (half c) → h (half c).toNat = 0
  pops : ∀ i : Nat, (i : Int) < half c → Live c i → takesAt c i ≤ h i
  step : ∀ i : Nat, (i : Int) < half c → Live c i → ∀ j : Int, j ∈ nxt c i → h j.toNat = h i - takesAt c i + givesAt c i

/-- what is kept while heights spread -/
structure HSpread (c : ByteArray) (m : Nat → Bool) (h : Nat → Int) : Prop where
  sound : ∀ j : Nat, (j : Int) ≤ half c → m j = true → Live c j
  begun : m 0 = true ∧ h 0 = 0
  fits : ∀ f : Nat → Int, HeightsOk c f → ∀ j : Nat, (j : Int) ≤ half c → m j = true → h j = f j
  small : ∀ j : Nat, (j : Int) ≤ half c → -(((half c).toNat + 1 : Nat) - cntF m ((half c).toNat + 1) : Int) ≤ h j ∧ h j ≤ (((half c).toNat + 1 : Nat) - cntF m ((half c).toNat + 1) : Int)

theorem hspread_more {c : ByteArray} {m : Nat → Bool} {h : Nat → Int} {i xn : Nat} (hr : Ranged c) (H : HSpread c m h) (hi : (i : Int) < half c) (hm : m i = true) (hx : (xn : Int) ∈ nxt c i) (hnx : m xn = false) :
    HSpread c (fun x => if x = xn then true else m x) (fun x => if x = xn then h i - takesAt c i + givesAt c i else h x) := by
  have hxr := hr i xn ⟨by omega, hi, hx⟩
  have hcnt := cntF_set (k := (half c).toNat + 1) (j := xn) (by omega) hnx
  obtain ⟨d1, d2, d3⟩ := delta_bd c i
  refine ⟨fun j hj hmj => ?_, ?_, fun f hf j hj hmj => ?_, fun j hj => ?_⟩
  · by_cases e : j = xn
    · subst e
      exact (H.sound i (by omega) hm).step ⟨by omega, hi, hx⟩ (by omega)
    · simp only [if_neg e] at hmj
      exact H.sound j hj hmj
  · have e : (0 : Nat) ≠ xn := fun e => by rw [← e, H.begun.1] at hnx; exact absurd hnx (by simp)
    simp only [if_neg e]
    exact H.begun
  · by_cases e : j = xn
    · subst e
      simp only [if_true]
      have := hf.step i hi (H.sound i (by omega) hm) j hx
      rw [Int.toNat_natCast] at this
      rw [this, H.fits f hf i (by omega) hm]
    · simp only [if_neg e] at hmj ⊢
      exact H.fits f hf j hj hmj
  · have hs := H.small j hj
    have hsi := H.small i (by omega)
    by_cases e : j = xn
    · simp only [if_pos e]
      omega
    · simp only [if_neg e]
      omega

theorem hspread_done {c : ByteArray} {m : Nat → Bool} {h : Nat → Int} (hr : Ranged c) (H : HSpread c m h) (hc : ClosedTo c (-1) m (half c).toNat) : ∀ j : Nat, (j : Int) ≤ half c → (m j = true ↔ Live c j) := by
  intro j hj
  refine ⟨H.sound j hj, fun hR => ?_⟩
  have := hR (fun x => 0 ≤ x ∧ x ≤ half c ∧ m x.toNat = true) (fun i hi hw => ?_) (fun i k hi he hw => ?_)
  · have h2 := this.2.2
    rw [Int.toNat_natCast] at h2
    exact h2
  · have hi : i = 0 := hi
    subst hi
    exact ⟨by omega, by have := (half_bd c).1; omega, H.begun.1⟩
  · have hk := hr i k he
    refine ⟨hk.1, hk.2, ?_⟩
    have he0 := he.1
    have he1 := he.2.1
    exact hc i.toNat (by omega) hi.2.2 k (by rw [Int.toNat_of_nonneg he0]; exact he.2.2) hw

/-- the checks that are made of the heights at place i -/
def HAt (c : ByteArray) (h : Nat → Int) (i : Nat) : Prop :=
  (0 ≤ h i ∧ h i ≤ 8) ∧ ((i : Int) = half c → h i = 0) ∧ ((i : Int) < half c → takesAt c i ≤ h i ∧ ∀ j : Int, j ∈ nxt c i → h j.toNat = h i - takesAt c i + givesAt c i)

theorem heights_of {c : ByteArray} {m : Nat → Bool} {h : Nat → Int} (H : HSpread c m h) (hall : ∀ i : Nat, (i : Int) ≤ half c → Live c i → HAt c h i) : HeightsOk c h := by
  have hh := (half_bd c).1
  refine ⟨H.begun.2, fun i hi hl => (hall i hi hl).1, fun hl => ?_, fun i hi hl => ((hall i (by omega) hl).2.2 hi).1, fun i hi hl => ((hall i (by omega) hl).2.2 hi).2⟩
  have e : ((half c).toNat : Int) = half c := Int.toNat_of_nonneg hh
  exact (hall (half c).toNat (by omega) (by rw [e]; exact hl)).2.1 e

theorem no_heights {c : ByteArray} {m : Nat → Bool} {h : Nat → Int} {i : Nat} (hr : Ranged c) (H : HSpread c m h) (hlive : ∀ j : Nat, (j : Int) ≤ half c → (m j = true ↔ Live c j)) (hi : (i : Int) ≤ half c) (hl : Live c i) (hbad : ¬ HAt c h i) : ¬ ∃ f, HeightsOk c f := by
  rintro ⟨f, hf⟩
  refine hbad ?_
  have same : ∀ j : Nat, (j : Int) ≤ half c → Live c j → h j = f j := fun j hj hlj => H.fits f hf j hj ((hlive j hj).2 hlj)
  have e := same i hi hl
  refine ⟨by rw [e]; exact hf.rng i hi hl, fun hK => ?_, fun hlt => ⟨by rw [e]; exact hf.pops i hlt hl, fun j hj => ?_⟩⟩
  · have e2 : i = (half c).toNat := by omega
    rw [e, e2]
    exact hf.fin (by rw [← hK]; exact hl)
  · have hjr := hr i j ⟨by omega, hlt, hj⟩
    have hlj : Live c j := hl.step ⟨by omega, hlt, hj⟩ (by omega)
    rw [same j.toNat (by omega) (by rw [Int.toNat_of_nonneg hjr.1]; exact hlj), e]
    exact hf.step i hlt hl j hj
end Go.Proofs.YtcnbifdlkalimabGreat
