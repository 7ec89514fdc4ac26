/-
  The plain mathematics of translated code: the junction of a choice is the place behind it, that of a loop its exit; their regions; no condition but those that stand in each lemma.
-/
import Derived.Test.YtcnbifdlkalimabGreatSht3
namespace Go.Proofs.YtcnbifdlkalimabGreat
open Go.RowKit
set_option linter.unusedVariables false

/-- from b one comes to the end without the places from a to b -/
def Exi (c : ByteArray) (a b : Nat) : Prop := ∀ w : Int, (a : Int) ≤ w → w < b → Reach c (One b) w (half c)

/-- what is reached from z with J walled up stays within -/
theorem reach_in {c : ByteArray} {S : Int → Prop} {lo J : Nat} {p : Int} (hS : ∀ x, S x → x ≠ J → (lo : Int) ≤ x ∧ x < J) (hs : ∀ i : Nat, lo ≤ i → i < J → ∀ j : Int, j ∈ nxt c i → (lo : Int) ≤ j ∧ j ≤ J) (h : Reach c S J p) : (lo : Int) ≤ p ∧ p < J :=
  h (fun x => (lo : Int) ≤ x ∧ x < J) (fun x hx hw => hS x hx hw) (fun i k hi he hw => by
    have e : ((i.toNat : Nat) : Int) = i := Int.toNat_of_nonneg (by omega)
    have := hs i.toNat (by omega) (by omega) k (by rw [e]; exact he.2.2)
    omega)

/-- the junction, where there are enough ways -/
theorem is_j {c : ByteArray} {z lo J : Nat} (hJ : (J : Int) ≤ half c) (hlo : lo ≤ z) (hz : z < J) (hs : ∀ i : Nat, lo ≤ i → i < J → ∀ j : Int, j ∈ nxt c i → (lo : Int) ≤ j ∧ j ≤ J)
    (hw : ∀ w : Int, (lo : Int) ≤ w → w < J → w ≠ z → Reach c (One z) w (half c)) : IsJ c z J := by
  have hin : ∀ p, Reach c (One z) J p → (lo : Int) ≤ p ∧ p < J := fun p h => reach_in (fun x hx _ => by have hx : x = z := hx; omega) hs h
  refine ⟨by omega, hJ, by omega, fun h => ?_, fun b h0 h1 hbz hbJ hon h => ?_⟩
  · have := hin _ h; omega
  · have := hin _ h
    exact hon (hw b this.1 this.2 hbz)

/-- its region -/
theorem reg_is {c : ByteArray} {z lo J : Nat} (hr : Ranged c) (hj : IsJ c z J) (hend : Reach c (One z) (-1) (half c)) {lo2 : Nat} (hs : ∀ i : Nat, lo2 ≤ i → i < J → ∀ j : Int, j ∈ nxt c i → (lo2 : Int) ≤ j ∧ j ≤ J) (hn : ∀ j : Int, j ∈ nxt c z → (lo2 : Int) ≤ j ∧ j ≤ J)
    (hf : ∀ p : Int, (lo2 : Int) ≤ p → p < J → Reach c (fun x => x ∈ nxt c z) J p) (p : Int) : Reg c z p ↔ (lo2 : Int) ≤ p ∧ p < J := by
  constructor
  · rintro ⟨j, h1, h2⟩
    rw [IsJ.unique hend h1 hj] at h2
    exact reach_in (fun x hx hne => by have := hn x hx; omega) hs h2
  · intro h
    exact ⟨J, hj, hf p h.1 h.2⟩

theorem Reach.from {c : ByteArray} {S : Int → Prop} {wall a b : Int} (hS : S a) (k : Reach c (One a) wall b) : Reach c S wall b := k.congr fun x hx => by have hx : x = a := hx; rw [hx]; exact hS

/-- a choice of one block -/
theorem cho1_reg {c : ByteArray} {u b : Nat} (hr : Ranged c) (hb : (b : Int) ≤ half c) (hI : Ins c u 9 (b : Nat)) (h : Pas c (u + 1) b) (hx : Exi c u b) (p : Int) : Reg c u p ↔ ((u + 1 : Nat) : Int) ≤ p ∧ p < b := by
  have l1 := h.le
  have g := pas_cho1 hb hI h
  have hn := nxt_zero hI
  have E2 : Edge c u b := ⟨by omega, by omega, (hn _).2 (.inr rfl)⟩
  have hw : ∀ w : Int, (u : Int) ≤ w → w < b → w ≠ u → Reach c (One u) w (half c) := fun w h1 h2 h3 => (start1 (fun e => h3 e.symm) E2 (by omega)).trans (hx w h1 h2)
  have hj : IsJ c u b := is_j (lo := u) hb (Nat.le_refl _) (by omega) g.stay hw
  have hend : Reach c (One (u : Int)) (-1) (half c) := (start1 (by omega) E2 (by omega)).trans ((hx u (by omega) (by omega)).free hr (by omega))
  refine reg_is (lo := u) hr hj hend h.stay (fun j hj => ?_) (fun p h1 h2 => ?_) p
  · have := (hn j).1 hj; omega
  · exact Reach.from ((hn _).2 (.inl (by omega))) (h.fwd b (by omega) p h1 h2)
/-- a choice of two blocks -/
theorem cho2_reg {c : ByteArray} {u t b : Nat} (hr : Ranged c) (hb : (b : Int) ≤ half c) (hI : Ins c u 9 (t + 1 : Nat)) (h : Pas c (u + 1) t) (hJ : Ins c t 8 (b : Nat)) (k : Pas c (t + 1) b) (hx : Exi c u b) (p : Int) : Reg c u p ↔ ((u + 1 : Nat) : Int) ≤ p ∧ p < b := by
  have l1 := h.le
  have l2 := k.le
  have g := pas_cho2 hb hI h hJ k
  have hn := nxt_zero hI
  have hm := nxt_jump hJ
  have E1 : Edge c u ((u + 1 : Nat) : Int) := ⟨by omega, by omega, (hn _).2 (.inl (by omega))⟩
  have E2 : Edge c u ((t + 1 : Nat) : Int) := ⟨by omega, by omega, (hn _).2 (.inr rfl)⟩
  have E3 : Edge c t b := ⟨by omega, by omega, by rw [hm]; simp⟩
  have hw : ∀ w : Int, (u : Int) ≤ w → w < b → w ≠ u → Reach c (One u) w (half c) := fun w h1 h2 h3 => by
    refine Reach.trans ?_ (hx w h1 h2)
    by_cases e : w ≤ t
    · exact (start1 (fun e => h3 e.symm) E2 (by omega)).trans (k.thr (by omega))
    · exact ((start1 (fun e => h3 e.symm) E1 (by omega)).trans (h.thr (by omega))).trans (start1 (by omega) E3 (by omega))
  have hj : IsJ c u b := is_j (lo := u) hb (Nat.le_refl _) (by omega) g.stay hw
  have hend : Reach c (One (u : Int)) (-1) (half c) := (hw (t : Nat) (by omega) (by omega) (by omega)).free hr (by omega)
  have hst : ∀ i : Nat, u + 1 ≤ i → i < b → ∀ j : Int, j ∈ nxt c i → ((u + 1 : Nat) : Int) ≤ j ∧ j ≤ b := fun i h1 h2 j hj => by
    by_cases e2 : i < t
    · have := h.stay i (by omega) e2 j hj; omega
    · by_cases e3 : i = t
      · rw [e3, hm, List.mem_singleton] at hj
        omega
      · have := k.stay i (by omega) h2 j hj; omega
  refine reg_is (lo := u) hr hj hend hst (fun j hj => ?_) (fun p h1 h2 => ?_) p
  · have := (hn j).1 hj; omega
  · by_cases e2 : p < t
    · exact Reach.from ((hn _).2 (.inl (by omega))) (h.fwd b (by omega) p h1 e2)
    · by_cases e3 : p = t
      · rw [e3]; exact Reach.from ((hn _).2 (.inl (by omega))) (h.thr (by omega))
      · exact Reach.from ((hn _).2 (.inr rfl)) (k.fwd b (by omega) p (by omega) h2)
/-- a loop -/
theorem rep_reg {c : ByteArray} {a u t : Nat} (hr : Ranged c) (hb : ((t + 1 : Nat) : Int) ≤ half c) (g : Pas c a u) (hI : Ins c u 9 (t + 1 : Nat)) (h : Pas c (u + 1) t) (hJ : Ins c t 8 (a : Nat)) (hx : Exi c a (t + 1)) (p : Int) : Reg c u p ↔ (a : Int) ≤ p ∧ p < ((t + 1 : Nat) : Int) := by
  have l0 := g.le
  have l1 := h.le
  have G := pas_rep hb g hI h hJ
  have hn := nxt_zero hI
  have hm := nxt_jump hJ
  have E2 : Edge c u ((t + 1 : Nat) : Int) := ⟨by omega, by omega, (hn _).2 (.inr rfl)⟩
  have E3 : Edge c t a := ⟨by omega, by omega, by rw [hm]; simp⟩
  have hw : ∀ w : Int, (a : Int) ≤ w → w < ((t + 1 : Nat) : Int) → w ≠ u → Reach c (One u) w (half c) := fun w h1 h2 h3 => (start1 (fun e => h3 e.symm) E2 (by omega)).trans (hx w h1 h2)
  have hj : IsJ c u (t + 1 : Nat) := is_j (lo := a) hb l0 (by omega) G.stay hw
  have hend : Reach c (One (u : Int)) (-1) (half c) := (hw (t : Nat) (by omega) (by omega) (by omega)).free hr (by omega)
  refine reg_is (lo := a) hr hj hend G.stay (fun j hj => ?_) (fun p h1 h2 => ?_) p
  · have := (hn j).1 hj; omega
  · have S1 : ((u + 1 : Nat) : Int) ∈ nxt c u := (hn _).2 (.inl (by omega))
    have T : Reach c (fun x => x ∈ nxt c u) ((t + 1 : Nat) : Int) (t : Nat) := Reach.from S1 (h.thr (by omega))
    have A := T.step E3 (by omega)
    by_cases e : p < u
    · exact A.trans (g.fwd _ (by omega) p h1 e)
    · by_cases e1 : p = u
      · rw [e1]; exact A.trans (g.thr (by omega))
      · by_cases e2 : p < t
        · exact Reach.from S1 (h.fwd _ (by omega) p (by omega) e2)
        · rw [show p = t from by omega]; exact T

/-! the exits of the parts -/
theorem Exi.sub {c : ByteArray} {a a' b : Nat} (h : Exi c a b) (ha : a ≤ a') : Exi c a' b := fun w h1 h2 => h w (by omega) h2
theorem Exi.head {c : ByteArray} {a m b : Nat} (h : Exi c a b) (k : Pas c m b) : Exi c a m := fun w h1 h2 => by
  have := k.le
  exact (k.thr (by omega)).trans (h w h1 (by omega))
theorem Exi.then {c : ByteArray} {u t b : Nat} (hx : Exi c u b) (ht : t < b) (hb : (b : Int) ≤ half c) (hJ : Ins c t 8 (b : Nat)) : Exi c (u + 1) t := fun w h1 h2 => by
  have hm := nxt_jump hJ
  exact (start1 (by omega) (⟨by omega, by omega, by rw [hm]; simp⟩ : Edge c t b) (by omega)).trans (hx w (by omega) (by omega))
theorem Exi.body {c : ByteArray} {a u t : Nat} (hb : ((t + 1 : Nat) : Int) ≤ half c) (g : Pas c a u) (hI : Ins c u 9 (t + 1 : Nat)) (hu : u < t + 1) (hJ : Ins c t 8 (a : Nat)) (hx : Exi c a (t + 1)) : Exi c (u + 1) t := fun w h1 h2 => by
  have l0 := g.le
  have hn := nxt_zero hI
  have hm := nxt_jump hJ
  have E2 : Edge c u ((t + 1 : Nat) : Int) := ⟨by omega, by omega, (hn _).2 (.inr rfl)⟩
  have E3 : Edge c t a := ⟨by omega, by omega, by rw [hm]; simp⟩
  exact (((start1 (by omega) E3 (by omega)).trans (g.thr (by omega))).trans (start1 (by omega) E2 (by omega))).trans (hx w (by omega) (by omega))
end Go.Proofs.YtcnbifdlkalimabGreat
