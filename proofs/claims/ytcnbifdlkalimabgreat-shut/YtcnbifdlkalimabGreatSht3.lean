/-
  The plain mathematics of translated code: how one passes through the code of an expression, a statement, a row of statements; no condition but those that stand in each lemma.
-/
import Derived.Test.YtcnbifdlkalimabGreatSht1
namespace Go.Proofs.YtcnbifdlkalimabGreat
open Go.RowKit
set_option linter.unusedVariables false

theorem nxt_jump {c : ByteArray} {i : Nat} {t : Int} (h : Ins c i 8 t) : nxt c i = [t] := by unfold nxt; rw [if_pos h.1, h.2]
theorem nxt_zero {c : ByteArray} {i : Nat} {t : Int} (h : Ins c i 9 t) (j : Int) : j ∈ nxt c i ↔ j = i + 1 ∨ j = t := by
  unfold nxt
  rw [if_neg (by rw [h.1]; omega)]
  by_cases e : t = (i : Int) + 1
  · rw [if_neg (by rw [h.2]; omega)]
    simp only [List.mem_singleton]
    omega
  · rw [if_pos ⟨h.1, by rw [h.2]; exact e⟩, h.2]
    simp
theorem nxt_on {c : ByteArray} {i : Nat} (h8 : bv c (2 * (i : Int)) ≠ 8) (h9 : bv c (2 * (i : Int)) ≠ 9) : nxt c i = [(i : Int) + 1] := by
  unfold nxt
  rw [if_neg h8, if_neg (fun k => h9 k.1)]

/-- one passes through the places from a to b: in at a, out at b -/
structure Pas (c : ByteArray) (a b : Nat) : Prop where
  le : a ≤ b
  stay : ∀ i : Nat, a ≤ i → i < b → ∀ j : Int, j ∈ nxt c i → (a : Int) ≤ j ∧ j ≤ b
  fwd : ∀ w : Int, ¬ ((a : Int) ≤ w ∧ w < b) → ∀ p : Int, (a : Int) ≤ p → p < b → Reach c (One a) w p
  out : ∀ w : Int, (w < a ∨ (b : Int) < w) → ∀ p : Int, (a : Int) ≤ p → p ≤ b → Reach c (One p) w b

theorem Pas.thr {c : ByteArray} {a b : Nat} (h : Pas c a b) {w : Int} (hw : w < a ∨ (b : Int) < w) : Reach c (One a) w b := h.out w hw a (Int.le_refl _) (by have := h.le; omega)

theorem pas_nil (c : ByteArray) (a : Nat) : Pas c a a :=
  ⟨Nat.le_refl _, fun i h1 h2 => by omega, fun w h p h1 h2 => by omega, fun w h p h1 h2 => by rw [show p = a from by omega]; exact Reach.start rfl (by omega)⟩
theorem pas_one {c : ByteArray} {i : Nat} (hi : (i : Int) < half c) (h8 : bv c (2 * (i : Int)) ≠ 8) (h9 : bv c (2 * (i : Int)) ≠ 9) : Pas c i (i + 1) := by
  have hn := nxt_on h8 h9
  refine ⟨by omega, fun k h1 h2 j hj => ?_, fun w h p h1 h2 => ?_, fun w h p h1 h2 => ?_⟩
  · rw [show k = i from by omega, hn, List.mem_singleton] at hj
    omega
  · rw [show p = i from by omega]; exact Reach.start rfl (by omega)
  · by_cases e : p = i
    · rw [e]
      have := (Reach.start (c := c) (S := One (i : Int)) (wall := w) (i := (i : Int)) rfl (by omega)).step (k := ((i + 1 : Nat) : Int)) ⟨by omega, hi, by rw [hn, List.mem_singleton]; omega⟩ (by omega)
      exact this
    · rw [show p = ((i + 1 : Nat) : Int) from by omega]; exact Reach.start rfl (by omega)
theorem pas_app {c : ByteArray} {a m b : Nat} (h : Pas c a m) (k : Pas c m b) : Pas c a b := by
  have l1 := h.le
  have l2 := k.le
  refine ⟨by omega, fun i h1 h2 j hj => ?_, fun w hw p h1 h2 => ?_, fun w hw p h1 h2 => ?_⟩
  · by_cases e : i < m
    · have := h.stay i h1 e j hj; omega
    · have := k.stay i (by omega) h2 j hj; omega
  · by_cases e : p < m
    · exact h.fwd w (by omega) p h1 e
    · exact (h.thr (w := w) (by omega)).trans (k.fwd w (by omega) p (by omega) h2)
  · by_cases e : p ≤ m
    · exact (h.out w (by omega) p h1 e).trans (k.thr (by omega))
    · exact k.out w (by omega) p (by omega) h2

theorem start1 {c : ByteArray} {a w j : Int} (hw : a ≠ w) (he : Edge c a j) (hj : j ≠ w) : Reach c (One a) w j := (Reach.start (S := One a) rfl hw).step he hj

/-- a choice of one block, from its ZERO on -/
theorem pas_cho1 {c : ByteArray} {u b : Nat} (hb : (b : Int) ≤ half c) (hI : Ins c u 9 (b : Nat)) (h : Pas c (u + 1) b) : Pas c u b := by
  have l1 := h.le
  have hn := nxt_zero hI
  have E1 : Edge c u ((u + 1 : Nat) : Int) := ⟨by omega, by omega, (hn _).2 (.inl (by omega))⟩
  have E2 : Edge c u b := ⟨by omega, by omega, (hn _).2 (.inr rfl)⟩
  refine ⟨by omega, fun i h1 h2 j hj => ?_, fun w hw p h1 h2 => ?_, fun w hw p h1 h2 => ?_⟩
  · by_cases e : i = u
    · rw [e] at hj
      have := (hn j).1 hj
      omega
    · have := h.stay i (by omega) h2 j hj; omega
  · by_cases e : p = u
    · rw [e]; exact Reach.start rfl (by omega)
    · exact (start1 (by omega) E1 (by omega)).trans (h.fwd w (by omega) p (by omega) h2)
  · by_cases e : p = u
    · rw [e]; exact start1 (by omega) E2 (by omega)
    · exact h.out w (by omega) p (by omega) h2
/-- a choice of two blocks, from its ZERO on -/
theorem pas_cho2 {c : ByteArray} {u t b : Nat} (hb : (b : Int) ≤ half c) (hI : Ins c u 9 (t + 1 : Nat)) (h : Pas c (u + 1) t) (hJ : Ins c t 8 (b : Nat)) (k : Pas c (t + 1) b) : Pas c u b := by
  have l1 := h.le
  have l2 := k.le
  have hn := nxt_zero hI
  have hm := nxt_jump hJ
  have E1 : Edge c u ((u + 1 : Nat) : Int) := ⟨by omega, by omega, (hn _).2 (.inl (by omega))⟩
  have E2 : Edge c u ((t + 1 : Nat) : Int) := ⟨by omega, by omega, (hn _).2 (.inr rfl)⟩
  have E3 : Edge c t b := ⟨by omega, by omega, by rw [hm]; simp⟩
  refine ⟨by omega, fun i h1 h2 j hj => ?_, fun w hw p h1 h2 => ?_, fun w hw p h1 h2 => ?_⟩
  · by_cases e : i = u
    · rw [e] at hj
      have := (hn j).1 hj
      omega
    · by_cases e2 : i < t
      · have := h.stay i (by omega) e2 j hj; omega
      · by_cases e3 : i = t
        · rw [e3, hm, List.mem_singleton] at hj
          omega
        · have := k.stay i (by omega) h2 j hj; omega
  · by_cases e : p = u
    · rw [e]; exact Reach.start rfl (by omega)
    · by_cases e2 : p < t
      · exact (start1 (by omega) E1 (by omega)).trans (h.fwd w (by omega) p (by omega) e2)
      · by_cases e3 : p = t
        · rw [e3]; exact (start1 (by omega) E1 (by omega)).trans (h.thr (by omega))
        · exact (start1 (by omega) E2 (by omega)).trans (k.fwd w (by omega) p (by omega) h2)
  · by_cases e : p = u
    · rw [e]; exact (start1 (by omega) E2 (by omega)).trans (k.thr (by omega))
    · by_cases e2 : p ≤ t
      · exact (h.out w (by omega) p (by omega) e2).trans (start1 (by omega) E3 (by omega))
      · exact k.out w (by omega) p (by omega) h2
/-- a loop -/
theorem pas_rep {c : ByteArray} {a u t : Nat} (hb : ((t + 1 : Nat) : Int) ≤ half c) (g : Pas c a u) (hI : Ins c u 9 (t + 1 : Nat)) (h : Pas c (u + 1) t) (hJ : Ins c t 8 (a : Nat)) : Pas c a (t + 1) := by
  have l0 := g.le
  have l1 := h.le
  have hn := nxt_zero hI
  have hm := nxt_jump hJ
  have E1 : Edge c u ((u + 1 : Nat) : Int) := ⟨by omega, by omega, (hn _).2 (.inl (by omega))⟩
  have E2 : Edge c u ((t + 1 : Nat) : Int) := ⟨by omega, by omega, (hn _).2 (.inr rfl)⟩
  have E3 : Edge c t a := ⟨by omega, by omega, by rw [hm]; simp⟩
  refine ⟨by omega, fun i h1 h2 j hj => ?_, fun w hw p h1 h2 => ?_, fun w hw p h1 h2 => ?_⟩
  · by_cases e : i < u
    · have := g.stay i h1 e j hj; omega
    · by_cases e1 : i = u
      · rw [e1] at hj
        have := (hn j).1 hj
        omega
      · by_cases e2 : i < t
        · have := h.stay i (by omega) e2 j hj; omega
        · rw [show i = t from by omega, hm, List.mem_singleton] at hj
          omega
  · by_cases e : p < u
    · exact g.fwd w (by omega) p h1 e
    · have G := g.thr (w := w) (by omega)
      by_cases e1 : p = u
      · rw [e1]; exact G
      · have G2 := G.trans (start1 (by omega) E1 (by omega))
        by_cases e2 : p < t
        · exact G2.trans (h.fwd w (by omega) p (by omega) e2)
        · rw [show p = t from by omega]
          exact G2.trans (h.thr (by omega))
  · by_cases e : p ≤ u
    · exact (g.out w (by omega) p h1 e).trans (start1 (by omega) E2 (by omega))
    · by_cases e2 : p ≤ t
      · exact (((h.out w (by omega) p (by omega) e2).trans (start1 (by omega) E3 (by omega))).trans (g.thr (by omega))).trans (start1 (by omega) E2 (by omega))
      · rw [show p = ((t + 1 : Nat) : Int) from by omega]; exact Reach.start rfl (by omega)

section
variable {c : ByteArray} {ex : List Ex} {sm : List Sm} {n : Int} {m : Nat}
theorem ex_pas (hE : ExOk ex) (hX : ExB n m ex) (hn : n ≤ 6) (hm : m ≤ 8) : ∀ e a b, ExAt c ex e a b → (b : Int) ≤ half c → Pas c a b ∧ a < b :=
  ex_laid hE hX hn hm (fun e a b => (b : Int) ≤ half c → Pas c a b ∧ a < b) (fun e x a hx hl hb hI h => ⟨pas_one (by omega) (by rw [hI.1]; omega) (by rw [hI.1]; omega), by omega⟩)
    (fun e x a u t hx hop A1 A2 hI i1 i2 h => by
      obtain ⟨g2, l2⟩ := i2 (by omega)
      obtain ⟨g1, l1⟩ := i1 (by omega)
      exact ⟨pas_app (pas_app g1 g2) (pas_one (by omega) (by rw [hI.1]; omega) (by rw [hI.1]; omega)), by omega⟩)
theorem st_pas (hE : ExOk ex) (hS : SmOk ex sm) (hX : ExB n m ex) (hB : ∀ x, x ∈ sm → SB n m x) (hn : n ≤ 6) (hm : m ≤ 8) :
    (∀ i a b, b ≤ 200 → StAt c ex sm i a b → (b : Int) ≤ half c → Pas c a b ∧ a < b) ∧ (∀ l a b, b ≤ 200 → LsAt c ex sm l a b → (b : Int) ≤ half c → Pas c a b) := by
  have X := ex_pas (c := c) hE hX hn hm
  refine st_laid hE hS hB hn hm (fun i a b => (b : Int) ≤ half c → Pas c a b ∧ a < b) (fun l a b => (b : Int) ≤ half c → Pas c a b) (fun a _ => pas_nil c a) (fun i l a u b A B P Q h => ?_) (fun i x a u hx hk A hI h => ?_) (fun i x a u hx hk A hI h => ?_)
    (fun i x a u b hx hk h2 A hI B Q h => ?_) (fun i x a u t b hx hk h2 A hI B hJ D Q R h => ?_) (fun i x a u t hx hk A hI B hJ Q h => ?_)
  · have q := Q h
    have := q.le
    exact pas_app (P (by omega)).1 q
  · obtain ⟨g, l⟩ := X _ _ _ A (by omega)
    exact ⟨pas_app g (pas_one (by omega) (by rw [hI.1]; omega) (by rw [hI.1]; omega)), by omega⟩
  · obtain ⟨g, l⟩ := X _ _ _ A (by omega)
    exact ⟨pas_app g (pas_one (by omega) (by rw [hI.1]; omega) (by rw [hI.1]; omega)), by omega⟩
  · have q := Q h
    have := q.le
    obtain ⟨g, l⟩ := X _ _ _ A (by omega)
    exact ⟨pas_app g (pas_cho1 h hI q), by omega⟩
  · have r := R h
    have l2 := r.le
    have q := Q (by omega)
    have l1 := q.le
    obtain ⟨g, l⟩ := X _ _ _ A (by omega)
    exact ⟨pas_app g (pas_cho2 h hI q hJ r), by omega⟩
  · have q := Q (by omega)
    have l1 := q.le
    obtain ⟨g, l⟩ := X _ _ _ A (by omega)
    exact ⟨pas_rep h g hI q hJ, by omega⟩
end
end Go.Proofs.YtcnbifdlkalimabGreat
