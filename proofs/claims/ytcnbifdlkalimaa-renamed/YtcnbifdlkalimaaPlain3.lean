/-
  The plain mathematics of tables, third part: what joins and meets of a lattice are; no condition but those that stand in each lemma.
-/
import Derived.Test.YtcnbifdlkalimaaPlain2
namespace Go.Proofs.Ytcnbifdlkalimaa
open Go.RowKit

theorem order_facts {s : ByteArray} {n : Int} (h : rOrder s n = true) :
    (∀ a : Int, 0 ≤ a → a < n → le s n a a = true) ∧ (∀ a b : Int, 0 ≤ a → a < n → 0 ≤ b → b < n → le s n a b = true → le s n b a = true → a = b) := by
  have hp : pOrder s n = true := by rw [order_same]; exact h
  constructor
  · intro a ha ha'
    have := refl_of hp a.toNat (by omega)
    rw [Int.toNat_of_nonneg ha] at this
    exact this
  · intro a b ha ha' hb hb' h1 h2
    unfold rOrder at h
    rw [allTo_true] at h
    have h3 := h a.toNat (by omega)
    rw [allTo_true] at h3
    have h4 := h3 b.toNat (by omega)
    rw [Int.toNat_of_nonneg ha, Int.toNat_of_nonneg hb] at h4
    unfold rOrdAt at h4
    rw [h1, h2, Bool.and_eq_true] at h4
    have h5 := h4.1
    by_cases e : a = b
    · exact e
    · have e1 : (a == b) = false := by simpa using e
      have e2 : (a != b) = true := by simpa using e
      rw [e1, e2] at h5
      exact absurd h5 (by decide)

theorem isJoin_iff {s : ByteArray} {n a b j : Int} : rIsJoin s n a b j = true ↔ (le s n a j = true ∧ le s n b j = true) ∧ ∀ c : Int, 0 ≤ c → c < n → le s n a c = true → le s n b c = true → le s n j c = true := by
  unfold rIsJoin pAbove
  simp only [Bool.and_eq_true, allTo_true, Bool.or_eq_true, Bool.not_eq_true']
  constructor
  · rintro ⟨h1, h2⟩
    refine ⟨h1, fun c hc hc' ha hb => ?_⟩
    have := h2 c.toNat (by omega)
    rw [Int.toNat_of_nonneg hc, ha, hb] at this
    simpa using this
  · rintro ⟨h1, h2⟩
    refine ⟨h1, fun c hc => ?_⟩
    cases ha : le s n a c with
    | false => simp
    | true =>
      cases hb : le s n b c with
      | false => simp
      | true => simp [h2 c (by omega) (by omega) ha hb]

theorem isMeet_iff {s : ByteArray} {n a b j : Int} : rIsMeet s n a b j = true ↔ (le s n j a = true ∧ le s n j b = true) ∧ ∀ c : Int, 0 ≤ c → c < n → le s n c a = true → le s n c b = true → le s n c j = true := by
  unfold rIsMeet pBelow
  simp only [Bool.and_eq_true, allTo_true, Bool.or_eq_true, Bool.not_eq_true']
  constructor
  · rintro ⟨h1, h2⟩
    refine ⟨h1, fun c hc hc' ha hb => ?_⟩
    have := h2 c.toNat (by omega)
    rw [Int.toNat_of_nonneg hc, ha, hb] at this
    simpa using this
  · rintro ⟨h1, h2⟩
    refine ⟨h1, fun c hc => ?_⟩
    cases ha : le s n c a with
    | false => simp
    | true =>
      cases hb : le s n c b with
      | false => simp
      | true => simp [h2 c (by omega) (by omega) ha hb]

theorem askJ_is {s : ByteArray} (h : levE s = 0) {x y : Int} (hx : 0 ≤ x ∧ x < tabN s) (hy : 0 ≤ y ∧ y < tabN s) : (0 ≤ askJ s x y ∧ askJ s x y < tabN s) ∧ rIsJoin s (tabN s) x y (askJ s x y) = true ∧ askE s x y = 0 := by
  have h1 := ask_in h ⟨hx.1, hx.2, hy.1, hy.2⟩
  have h2 := firstTo_lt h1.2.1
  exact ⟨⟨h2.1, by omega⟩, h2.2.2, h1.1⟩

theorem askM_is {s : ByteArray} (h : levE s = 0) {x y : Int} (hx : 0 ≤ x ∧ x < tabN s) (hy : 0 ≤ y ∧ y < tabN s) : (0 ≤ askM s x y ∧ askM s x y < tabN s) ∧ rIsMeet s (tabN s) x y (askM s x y) = true ∧ askE s x y = 0 := by
  have h1 := ask_in h ⟨hx.1, hx.2, hy.1, hy.2⟩
  have h2 := firstTo_lt h1.2.2
  exact ⟨⟨h2.1, by omega⟩, h2.2.2, h1.1⟩

/-- all that the statement Lattice asks of a table that is let through -/
theorem lat_facts {s : ByteArray} (h : levE s = 0) (x y z : Int) (hx : 0 ≤ x ∧ x < tabN s) (hy : 0 ≤ y ∧ y < tabN s) (hz : 0 ≤ z ∧ z < tabN s) :
    ∃ j m : Int, askJ s x y = j ∧ askM s x y = m ∧ askJ s y x = j ∧ (0 ≤ j ∧ j < tabN s) ∧ (0 ≤ m ∧ m < tabN s) ∧
      (le s (tabN s) x j = true ∧ le s (tabN s) y j = true ∧ le s (tabN s) m x = true ∧ le s (tabN s) m y = true) ∧
      (le s (tabN s) x z = true → le s (tabN s) y z = true → le s (tabN s) j z = true) ∧ (le s (tabN s) z x = true → le s (tabN s) z y = true → le s (tabN s) z m = true) ∧
      askM s x j = x ∧ askJ s x m = x ∧ askE s x y = 0 ∧ askE s y x = 0 ∧ askE s x j = 0 ∧ askE s x m = 0 := by
  obtain ⟨refl, anti⟩ := order_facts (levE_0 h).2.1
  obtain ⟨j1, j2, e1⟩ := askJ_is h hx hy
  obtain ⟨i1, i2, e2⟩ := askJ_is h hy hx
  obtain ⟨m1, m2, -⟩ := askM_is h hx hy
  have jj := isJoin_iff.1 j2
  have ii := isJoin_iff.1 i2
  have mm := isMeet_iff.1 m2
  obtain ⟨s1, s2, e3⟩ := askM_is h hx j1
  obtain ⟨t1, t2, e4⟩ := askJ_is h hx m1
  have ss := isMeet_iff.1 s2
  have tt := isJoin_iff.1 t2
  refine ⟨askJ s x y, askM s x y, rfl, rfl, ?_, j1, m1, ⟨jj.1.1, jj.1.2, mm.1.1, mm.1.2⟩, jj.2 z hz.1 hz.2, mm.2 z hz.1 hz.2, ?_, ?_, e1, e2, e3, e4⟩
  · exact anti _ _ i1.1 i1.2 j1.1 j1.2 (ii.2 _ j1.1 j1.2 jj.1.2 jj.1.1) (jj.2 _ i1.1 i1.2 ii.1.2 ii.1.1)
  · exact anti _ _ s1.1 s1.2 hx.1 hx.2 ss.1.1 (ss.2 x hx.1 hx.2 (refl x hx.1 hx.2) jj.1.1)
  · exact anti _ _ t1.1 t1.2 hx.1 hx.2 (tt.2 x hx.1 hx.2 (refl x hx.1 hx.2) mm.1.1) tt.1.1
end Go.Proofs.Ytcnbifdlkalimaa
