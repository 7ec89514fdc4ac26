/-
  The plain mathematics of heights laid by following all places behind a place; no condition but those that stand in each lemma.
-/
import Derived.Test.YtcnbifdlkalimaaPlain7
namespace Go.Proofs.Ytcnbifdlkalimaa
open Go.RowKit

/-- what is known of place p, to which height y is to be laid -/
structure LayIn (c : ByteArray) (m : Nat → Bool) (h : Nat → Int) (p : Nat) (y : Int) : Prop where
  hi : (p : Int) ≤ half c
  live : Live c p
  lo : 0 ≤ y
  up : y ≤ 9
  fit : ∀ f, HeightsOk c f → f p = y ∧ ∀ j, m j = true → h j = f j

/-- heights at place i are as they must be, and those behind it too -/
structure LayAt (c : ByteArray) (m : Nat → Bool) (h : Nat → Int) (i : Nat) : Prop where
  hi : (i : Int) ≤ half c
  lo : 0 ≤ h i
  up : h i ≤ 8
  fin : (i : Int) = half c → h i = 0
  pops : (i : Int) < half c → takesAt c i ≤ h i
  step : (i : Int) < half c → ∀ j : Int, j ∈ nxt c i → m j.toNat = true ∧ h j.toNat = h i - takesAt c i + givesAt c i

/-- what was laid -/
structure LayOk (c : ByteArray) (m : Nat → Bool) (h : Nat → Int) (m' : Nat → Bool) (h' : Nat → Int) : Prop where
  more : ∀ j, m j = true → m' j = true
  same : ∀ j, m j = true → h' j = h j
  shut : ∀ i, m' i = true → m i = false → LayAt c m' h' i
  fit : ∀ f, HeightsOk c f → ∀ j, m' j = true → h' j = f j

structure LayOut (c : ByteArray) (m : Nat → Bool) (h : Nat → Int) (p : Nat) (y : Int) (m' : Nat → Bool) (h' : Nat → Int) (ok : Bool) : Prop where
  yes : ok = true → LayOk c m h m' h' ∧ m' p = true ∧ h' p = y
  no : ok = false → ¬ ∃ f, HeightsOk c f

theorem LayAt.mono {c : ByteArray} {m m' : Nat → Bool} {h h' : Nat → Int} {i : Nat} (H : LayAt c m h i) (hi : m i = true) (more : ∀ j, m j = true → m' j = true) (same : ∀ j, m j = true → h' j = h j) : LayAt c m' h' i := by
  have e := same i hi
  refine ⟨H.hi, by rw [e]; exact H.lo, by rw [e]; exact H.up, fun k => by rw [e]; exact H.fin k, fun k => by rw [e]; exact H.pops k, fun k j hj => ?_⟩
  have := H.step k j hj
  exact ⟨more _ this.1, by rw [same _ this.1, this.2, e]⟩

theorem LayOk.trans {c : ByteArray} {m m' m'' : Nat → Bool} {h h' h'' : Nat → Int} (H : LayOk c m h m' h') (K : LayOk c m' h' m'' h'') : LayOk c m h m'' h'' := by
  refine ⟨fun j hj => K.more j (H.more j hj), fun j hj => by rw [K.same j (H.more j hj), H.same j hj], fun i h1 h2 => ?_, K.fit⟩
  cases hm : m' i
  · exact K.shut i h1 hm
  · exact (H.shut i hm h2).mono hm K.more K.same

theorem lay_old {c : ByteArray} {m : Nat → Bool} {h : Nat → Int} {p : Nat} {y : Int} (I : LayIn c m h p y) (hm : m p = true) : LayOut c m h p y m h (h p == y) := by
  refine ⟨fun e => ⟨⟨fun _ h => h, fun _ _ => rfl, fun i h1 h2 => by rw [h1] at h2; exact absurd h2 (by simp), fun f hf => (I.fit f hf).2⟩, hm, by simpa using e⟩, fun e => ?_⟩
  rintro ⟨f, hf⟩
  have := I.fit f hf
  have h2 := this.2 p hm
  rw [this.1] at h2
  simp [h2] at e

def setH (h : Nat → Int) (p : Nat) (y : Int) : Nat → Int := fun j => if j = p then y else h j
def setM (m : Nat → Bool) (p : Nat) : Nat → Bool := fun j => if j = p then true else m j

theorem lay_end {c : ByteArray} {m : Nat → Bool} {h : Nat → Int} {p : Nat} {y : Int} (I : LayIn c m h p y) (hm : m p = false) (hK : (p : Int) = half c) : LayOut c m h p y (setM m p) (setH h p y) (y == 0) := by
  have fitp : ∀ f, HeightsOk c f → y = 0 := fun f hf => by
    have h1 := hf.fin (by rw [← hK]; exact I.live)
    rw [← (I.fit f hf).1]
    rw [← hK] at h1
    exact h1
  refine ⟨fun e => ?_, fun e => ?_⟩
  · have e : y = 0 := by simpa using e
    subst e
    refine ⟨⟨fun j hj => by simp [setM, hj], fun j hj => ?_, fun i h1 h2 => ?_, fun f hf j hj => ?_⟩, by simp [setM], by simp [setH]⟩
    · have : j ≠ p := fun k => by rw [k, hm] at hj; exact absurd hj (by simp)
      simp [setH, this]
    · by_cases k : i = p
      · subst k
        have e0 : setH h i 0 i = 0 := by simp [setH]
        exact ⟨I.hi, by rw [e0]; omega, by rw [e0]; omega, fun _ => e0, fun k => by omega, fun k => by omega⟩
      · simp [setM, k, h2] at h1
    · by_cases k : j = p
      · subst k; simp [setH, (I.fit f hf).1]
      · simp [setM, k] at hj
        simp [setH, k, (I.fit f hf).2 j hj]
  · rintro ⟨f, hf⟩
    have := fitp f hf
    simp [this] at e

theorem lay_bad {c : ByteArray} {m : Nat → Bool} {h : Nat → Int} {p : Nat} {y : Int} {m' : Nat → Bool} {h' : Nat → Int} (I : LayIn c m h p y) (hK : (p : Int) < half c) (hb : 8 < y ∨ y - takesAt c p < 0) : LayOut c m h p y m' h' false := by
  refine ⟨fun e => absurd e (by simp), fun _ => ?_⟩
  rintro ⟨f, hf⟩
  have h1 := (I.fit f hf).1
  have h2 := hf.rng p I.hi I.live
  have h3 := hf.pops p hK I.live
  omega

theorem lay_next {c : ByteArray} {m : Nat → Bool} {h : Nat → Int} {p : Nat} {y : Int} {m1 : Nat → Bool} {h1 : Nat → Int} (hr : Ranged c) (I : LayIn c m h p y) (hK : (p : Int) < half c) (hg : y ≤ 8 ∧ takesAt c p ≤ y) (hf : ∀ f, HeightsOk c f → ∀ j, m1 j = true → h1 j = f j) {q : Nat} (hq : (q : Int) ∈ nxt c p) : LayIn c m1 h1 q (y - takesAt c p + givesAt c p) := by
  obtain ⟨d1, d2, d3⟩ := delta_bd c p
  have he : Edge c p q := ⟨by omega, hK, hq⟩
  have hrq := hr p q he
  refine ⟨hrq.2, I.live.step he (by omega), by omega, by omega, fun f hfo => ⟨?_, hf f hfo⟩⟩
  have := hfo.step p hK I.live q hq
  rw [Int.toNat_natCast] at this
  rw [this, (I.fit f hfo).1]

theorem lay_set_fit {c : ByteArray} {m : Nat → Bool} {h : Nat → Int} {p : Nat} {y : Int} (I : LayIn c m h p y) : ∀ f, HeightsOk c f → ∀ j, setM m p j = true → setH h p y j = f j := by
  intro f hf j hj
  by_cases k : j = p
  · subst k; simp [setH, (I.fit f hf).1]
  · simp [setM, k] at hj
    simp [setH, k, (I.fit f hf).2 j hj]

theorem lay_all {c : ByteArray} {m : Nat → Bool} {h : Nat → Int} {p : Nat} {y : Int} {m2 m3 : Nat → Bool} {h2 h3 : Nat → Int} {q1 q2 : Nat} (I : LayIn c m h p y) (hm : m p = false) (hK : (p : Int) < half c) (hg : y ≤ 8 ∧ takesAt c p ≤ y)
    (hq : ∀ j : Int, j ∈ nxt c p → j = q1 ∨ j = q2) (H1 : LayOk c (setM m p) (setH h p y) m2 h2) (e1 : m2 q1 = true ∧ h2 q1 = y - takesAt c p + givesAt c p) (H2 : LayOk c m2 h2 m3 h3) (e2 : m3 q2 = true ∧ h3 q2 = y - takesAt c p + givesAt c p) : LayOut c m h p y m3 h3 true := by
  have H := H1.trans H2
  have hp : h3 p = y := by rw [H.same p (by simp [setM])]; simp [setH]
  refine ⟨fun _ => ⟨⟨fun j hj => H.more j (by simp [setM, hj]), fun j hj => ?_, fun i k1 k2 => ?_, H.fit⟩, H.more p (by simp [setM]), hp⟩, fun e => absurd e (by simp)⟩
  · have k : j ≠ p := fun k => by rw [k, hm] at hj; exact absurd hj (by simp)
    rw [H.same j (by simp [setM, hj])]
    simp [setH, k]
  · by_cases k : i = p
    · subst k
      refine ⟨I.hi, by rw [hp]; exact I.lo, by rw [hp]; exact hg.1, fun k => by omega, fun _ => by rw [hp]; exact hg.2, fun _ j hj => ?_⟩
      rw [hp]
      rcases hq j hj with e | e
      · subst e
        rw [Int.toNat_natCast]
        exact ⟨H2.more _ e1.1, by rw [H2.same _ e1.1]; exact e1.2⟩
      · subst e
        rw [Int.toNat_natCast]
        exact e2
    · exact H.shut i k1 (by simp [setM, k, k2])

theorem lay_heights {c : ByteArray} {m : Nat → Bool} {h : Nat → Int} (hr : Ranged c) (H : LayOk c (fun _ => false) (fun _ => 0) m h) (h0 : m 0 = true ∧ h 0 = 0) : HeightsOk c h := by
  have hh := (half_bd c).1
  have hl : ∀ i : Int, Live c i → 0 ≤ i ∧ m i.toNat = true := fun i hl => by
    refine hl (fun x => 0 ≤ x ∧ m x.toNat = true) (fun x hx _ => ?_) (fun x y hx he _ => ?_)
    · have hx : x = 0 := hx
      subst hx
      exact ⟨by omega, h0.1⟩
    · have hA := H.shut x.toNat hx.2 rfl
      have e : ((x.toNat : Nat) : Int) = x := Int.toNat_of_nonneg hx.1
      exact ⟨(hr x y he).1, (hA.step (by rw [e]; exact he.2.1) y (by rw [e]; exact he.2.2)).1⟩
  have hA : ∀ i : Nat, Live c i → LayAt c m h i := fun i k => by
    have := (hl i k).2
    rw [Int.toNat_natCast] at this
    exact H.shut i this rfl
  refine ⟨h0.2, fun i _ k => ⟨(hA i k).lo, (hA i k).up⟩, fun k => ?_, fun i h1 k => (hA i k).pops h1, fun i h1 k j hj => ((hA i k).step h1 j hj).2⟩
  have e : (((half c).toNat : Nat) : Int) = half c := Int.toNat_of_nonneg hh
  exact (hA (half c).toNat (by rw [e]; exact k)).fin e
end Go.Proofs.Ytcnbifdlkalimaa
