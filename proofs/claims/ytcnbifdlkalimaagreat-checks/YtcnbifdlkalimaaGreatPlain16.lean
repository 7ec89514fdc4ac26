/-
  The plain mathematics of marks that a level leaves where it flows; no condition but those that stand in each lemma.
-/
import Derived.Test.YtcnbifdlkalimaaGreatPlain13
namespace Go.Proofs.YtcnbifdlkalimaaGreat
open Go.RowKit

/-- one mark more -/
def updM (M : Int → Int → Bool) (p d : Int) : Int → Int → Bool := fun q e => if q = p ∧ e = d then true else M q e
theorem updM_at (M : Int → Int → Bool) (p d : Int) : updM M p d p d = true := if_pos ⟨rfl, rfl⟩
theorem updM_ne {M : Int → Int → Bool} {p d q e : Int} (h : ¬ (q = p ∧ e = d)) : updM M p d q e = M q e := if_neg h

/-- how many labels are not marked -/
def cntM (c : ByteArray) (M : Int → Int → Bool) : Nat := sumTo (fun k => if M ((k / 10 : Nat) : Int) (((k % 10 : Nat) : Int) - 1) then 0 else 1) (10 * ((half c).toNat + 1))

theorem cntM_upd {c : ByteArray} {M : Int → Int → Bool} {p : Nat} {d : Int} (hp : (p : Int) ≤ half c) (h0 : -1 ≤ d) (h1 : d ≤ 8) (hm : M p d = false) : cntM c (updM M p d) < cntM c M := by
  have hh := (half_bd c).1
  refine sumTo_less (j := 10 * p + (d + 1).toNat) (by omega) (fun i hi => ?_) ?_
  · rw [updM_ne (fun k => hi (by have h1 := k.1; have h2 := k.2; omega))]
  · rw [show (10 * p + (d + 1).toNat) / 10 = p from by omega, show (((10 * p + (d + 1).toNat) % 10 : Nat) : Int) - 1 = d from by omega, updM_at, hm]
    simp

/-- does the level flow to what instruction i pushes, by the marks M? -/
def pushB (c v : ByteArray) (h : Nat → Int) (M : Int → Int → Bool) (a i : Int) : Bool :=
  if bv c (2 * i) = 1 then M i (-1) || decide (bv v (bv c (2 * i + 1)) = a)
  else if bv c (2 * i) = 10 then M i (-1) || decide (bv c (2 * i + 1) = a)
  else if 3 ≤ bv c (2 * i) ∧ bv c (2 * i) ≤ 7 then M i (-1) || (M i (h i.toNat - 1) || M i (h i.toNat - 2))
  else M i (-1)

theorem push_src {c v : ByteArray} {h : Nat → Int} {M : Int → Int → Bool} {a i : Int} {P : Int → Int → Prop} (hP : ∀ d, M i d = true → P i d) (k : pushB c v h M a i = true) : SrcOf c v h a P i := by
  unfold pushB at k
  split at k
  · rename_i e
    rw [Bool.or_eq_true, decide_eq_true_iff] at k
    exact k.imp (hP _) (fun x => .inl ⟨e, x⟩)
  · split at k
    · rename_i e
      rw [Bool.or_eq_true, decide_eq_true_iff] at k
      exact k.imp (hP _) (fun x => .inr (.inl ⟨e, x⟩))
    · split at k
      · rename_i e
        rw [Bool.or_eq_true, Bool.or_eq_true] at k
        exact k.imp (hP _) (fun x => .inr (.inr ⟨e, x.imp (hP _) (hP _)⟩))
      · exact .inl (hP _ k)

theorem src_push {c v : ByteArray} {h : Nat → Int} {M : Int → Int → Bool} {a i : Int} (k : SrcOf c v h a (fun p d => M p d = true) i) : pushB c v h M a i = true := by
  unfold pushB
  rcases k with k | ⟨k, k2⟩ | ⟨k, k2⟩ | ⟨k, k2⟩
  · split
    · rw [k]; rfl
    · split
      · rw [k]; rfl
      · split
        · rw [k]; rfl
        · exact k
  · rw [if_pos k, Bool.or_eq_true]; exact .inr (decide_eq_true k2)
  · rw [if_neg (by omega), if_pos k, Bool.or_eq_true]; exact .inr (decide_eq_true k2)
  · rw [if_neg (by omega), if_neg (by omega), if_pos k, Bool.or_eq_true, Bool.or_eq_true]; exact .inr k2

/-- marks grew -/
structure Mor (c v : ByteArray) (h : Nat → Int) (a : Int) (M M' : Int → Int → Bool) (more : Bool) : Prop where
  ok : ∀ p d, M' p d = true → M p d = true ∨ Flow c v h a p d
  no : more = false → M' = M
  yes : more = true → cntM c M' < cntM c M
  le : cntM c M' ≤ cntM c M

theorem Mor.refl (c v : ByteArray) (h : Nat → Int) (a : Int) (M : Int → Int → Bool) : Mor c v h a M M false := ⟨fun _ _ h => .inl h, fun _ => rfl, fun h => absurd h (by simp), Nat.le_refl _⟩

theorem Mor.add {c v : ByteArray} {h : Nat → Int} {a : Int} {M M' : Int → Int → Bool} {more : Bool} {p : Nat} {d : Int} (H : Mor c v h a M M' more) (hp : (p : Int) ≤ half c) (h0 : -1 ≤ d) (h1 : d ≤ 8) (hm : M' p d = false) (hf : Flow c v h a p d) : Mor c v h a M (updM M' p d) true := by
  have hc := cntM_upd hp h0 h1 hm
  have hl := H.le
  refine ⟨fun q e hq => ?_, fun h => absurd h (by simp), fun _ => by omega, by omega⟩
  by_cases k : q = p ∧ e = d
  · obtain ⟨rfl, rfl⟩ := k; exact .inr hf
  · rw [updM_ne k] at hq; exact H.ok q e hq

theorem Mor.trans {c v : ByteArray} {h : Nat → Int} {a : Int} {M M' M'' : Int → Int → Bool} {x y : Bool} (H : Mor c v h a M M' x) (K : Mor c v h a M' M'' y) : Mor c v h a M M'' (x || y) := by
  have h1 := H.le
  have h2 := K.le
  refine ⟨fun p d hd => ?_, fun hm => ?_, fun hm => ?_, by omega⟩
  · rcases K.ok p d hd with k | k
    · exact H.ok p d k
    · exact .inr k
  · rw [Bool.or_eq_false_iff] at hm
    rw [K.no hm.2, H.no hm.1]
  · rw [Bool.or_eq_true] at hm
    rcases hm with k | k
    · have := H.yes k; omega
    · have := K.yes k; omega

/-- all that flows from instruction i to place j is marked -/
structure OnwC (c v : ByteArray) (h : Nat → Int) (a : Int) (M : Int → Int → Bool) (i j : Int) : Prop where
  stay : ∀ d, 0 ≤ d → d < h i.toNat - takesAt c i → M i d = true → M j d = true
  push : givesAt c i = 1 → pushB c v h M a i = true → M j (h i.toNat - takesAt c i) = true

def HidC (c : ByteArray) (h : Nat → Int) (M : Int → Int → Bool) (i : Int) : Prop := (M i (-1) = true ∨ M i (h i.toNat - 1) = true) → ∀ p, 0 ≤ p → p ≤ half c → Reg c i p → M p (-1) = true

/-- instruction i hands nothing on that is not marked -/
structure AllC (c v : ByteArray) (h : Nat → Int) (a : Int) (M : Int → Int → Bool) (i : Int) : Prop where
  to : ∀ j, j ∈ nxt c i → OnwC c v h a M i j
  hid : bv c (2 * i) = 9 → HidC c h M i

theorem marks_full {c v : ByteArray} {h : Nat → Int} {a : Int} {M : Int → Int → Bool} (all : ∀ i : Int, 0 ≤ i → i < half c → Live c i → AllC c v h a M i) {p d : Int} (hf : Flow c v h a p d) : M p d = true := by
  refine hf (fun p d => M p d = true) ⟨fun i j d hl he h0 h1 hp => ((all i he.1 he.2.1 hl).to j he.2.2).stay d h0 h1 hp, fun i j hl he hg hs => ((all i he.1 he.2.1 hl).to j he.2.2).push hg (src_push hs), fun i p hl h0 h1 h9 hp hR hp0 hp1 => (all i h0 h1 hl).hid h9 hp p hp0 hp1 hR⟩
end Go.Proofs.YtcnbifdlkalimaaGreat
