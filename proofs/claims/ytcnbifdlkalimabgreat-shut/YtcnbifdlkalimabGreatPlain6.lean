/-
  The plain mathematics of junctions: of the places on every path to the end there is just one that the paths meet first; no condition but those that stand in each lemma.
-/
import Derived.Test.YtcnbifdlkalimabGreatPlain5
namespace Go.Proofs.YtcnbifdlkalimabGreat
open Go.RowKit

/-- place i alone -/
def One (i : Int) : Int → Prop := fun x => x = i

theorem Reach.ne {c : ByteArray} {S : Int → Prop} {wall j : Int} (h : Reach c S wall j) : j ≠ wall := h (fun x => x ≠ wall) (fun _ _ hw => hw) (fun _ _ _ _ hw => hw)

theorem Reach.trans {c : ByteArray} {S : Int → Prop} {wall a b : Int} (h : Reach c S wall a) (k : Reach c (One a) wall b) : Reach c S wall b :=
  k (fun x => Reach c S wall x) (fun x hx _ => by rw [show x = a from hx]; exact h) (fun _ _ hx he hw => hx.step he hw)

theorem Reach.congr {c : ByteArray} {S T : Int → Prop} {wall j : Int} (hST : ∀ x, S x → T x) (h : Reach c S wall j) : Reach c T wall j :=
  h (fun x => Reach c T wall x) (fun x hx hw => Reach.start (hST x hx) hw) (fun _ _ hx he hw => hx.step he hw)

theorem marked_one {c : ByteArray} {i : Nat} (hi : (i : Int) ≤ half c) (wall j : Int) : Reach c (Marked c (fun j => decide (j = i))) wall j ↔ Reach c (One i) wall j := by
  constructor
  · refine Reach.congr (fun x hx => ?_)
    have h2 := of_decide_eq_true hx.2.2
    have := hx.1
    show x = (i : Int)
    omega
  · refine Reach.congr (fun x hx => ?_)
    have hx : x = (i : Int) := hx
    refine ⟨by omega, by omega, decide_eq_true (by omega)⟩

/-- taking the wall away -/
theorem Reach.free {c : ByteArray} {i wall j : Int} (hr : Ranged c) (h0 : 0 ≤ i) (h : Reach c (One i) wall j) : Reach c (One i) (-1) j :=
  h (fun x => Reach c (One i) (-1) x) (fun x hx _ => Reach.start hx (by have hx : x = i := hx; omega)) (fun x y hx he _ => hx.step he (by have := (hr x y he).1; omega))

/-- place j lies on every path from i to the end -/
def OnAll (c : ByteArray) (i j : Int) : Prop := ¬ Reach c (One i) j (half c)

/-- j is the junction of the choice at i -/
structure IsJ (c : ByteArray) (i j : Int) : Prop where
  lo : 0 ≤ j
  hi : j ≤ half c
  ne : j ≠ i
  on : OnAll c i j
  first : ∀ b : Int, 0 ≤ b → b ≤ half c → b ≠ i → b ≠ j → OnAll c i b → ¬ Reach c (One i) j b

theorem IsJ.unique {c : ByteArray} {i j k : Int} (hend : Reach c (One i) (-1) (half c)) (hj : IsJ c i j) (hk : IsJ c i k) : j = k := by
  by_cases e : j = k
  · exact e
  · exfalso
    have h1 := hj.first k hk.lo hk.hi hk.ne (fun h => e h.symm) hk.on
    have h2 := hk.first j hj.lo hj.hi hj.ne e hj.on
    have := hend (fun x => Reach c (One i) j x ∧ Reach c (One i) k x)
      (fun x hx _ => by
        have hx : x = i := hx
        subst hx
        exact ⟨Reach.start rfl (fun h => hj.ne h.symm), Reach.start rfl (fun h => hk.ne h.symm)⟩)
      (fun x y hx he _ => by
        have hyj : y ≠ j := fun h => h2 (by subst h; exact hx.2.step he e)
        have hyk : y ≠ k := fun h => h1 (by subst h; exact hx.1.step he (fun h => e h.symm))
        exact ⟨hx.1.step he hyj, hx.2.step he hyk⟩)
    exact hj.on this.1

theorem on_asym {c : ByteArray} {i a b : Int} (hr : Ranged c) (h0 : 0 ≤ i) (hend : ∀ x, Reach c (One i) (-1) x → Reach c (One x) (-1) (half c)) (hab : a ≠ b) (ha : OnAll c i a) (hb : OnAll c i b)
    (h1 : Reach c (One i) b a) (h2 : Reach c (One i) a b) : False := by
  have := hend a (h1.free hr h0) (fun x => Reach c (One a) b x ∨ Reach c (One b) a x)
    (fun x hx _ => .inl (Reach.start hx (by have hx : x = a := hx; rw [hx]; exact hab)))
    (fun x y hx he _ => by
      rcases hx with hx | hx
      · by_cases e : y = b
        · exact .inr (Reach.start e (fun h => hab (h.symm.trans e)))
        · exact .inl (hx.step he e)
      · by_cases e : y = a
        · exact .inl (Reach.start e (fun h => hab (e.symm.trans h)))
        · exact .inr (hx.step he e))
  rcases this with h | h
  · exact hb (h1.trans h)
  · exact ha (h2.trans h)

theorem on_sub {c : ByteArray} {i a b x : Int} (hia : i ≠ a) (hn : ¬ Reach c (One i) b a) (h : Reach c (One i) b x) : Reach c (One i) a x :=
  (h (fun x => Reach c (One i) b x ∧ Reach c (One i) a x)
    (fun x hx hw => ⟨Reach.start hx hw, Reach.start hx (by have hx : x = i := hx; rw [hx]; exact hia)⟩)
    (fun x y hx he hw => ⟨hx.1.step he hw, hx.2.step he (fun e => hn (by rw [← e]; exact hx.1.step he hw))⟩)).2

theorem first_exists {c : ByteArray} {i : Int} (hr : Ranged c) (h0 : 0 ≤ i) (hend : ∀ x, Reach c (One i) (-1) x → Reach c (One x) (-1) (half c)) :
    ∀ l : List Int, l ≠ [] → (∀ x, x ∈ l → x ≠ i ∧ OnAll c i x) → ∃ a, a ∈ l ∧ ∀ b, b ∈ l → b ≠ a → ¬ Reach c (One i) a b := by
  intro l
  induction l with
  | nil => intro h; exact absurd rfl h
  | cons x l ih =>
    intro _ hall
    by_cases hl : l = []
    · subst hl
      exact ⟨x, by simp, fun b hb hne => absurd (by simpa using hb) hne⟩
    · obtain ⟨a, ha, hmin⟩ := ih hl (fun y hy => hall y (by simp [hy]))
      have hax := hall a (by simp [ha])
      have hxx := hall x (by simp)
      by_cases hR : x ≠ a ∧ Reach c (One i) a x
      · refine ⟨x, by simp, fun b hb hne hb2 => ?_⟩
        have hb' : b ∈ l := by
          rcases List.mem_cons.1 hb with h | h
          · exact absurd h hne
          · exact h
        have hnax : ¬ Reach c (One i) x a := fun h => on_asym hr h0 hend hR.1 hxx.2 hax.2 hR.2 h
        by_cases e : b = a
        · subst e; exact hnax hb2
        · exact hmin b hb' e (on_sub (fun h => hax.1 h.symm) hnax hb2)
      · refine ⟨a, by simp [ha], fun b hb hne hb2 => ?_⟩
        rcases List.mem_cons.1 hb with h | h
        · subst h; exact hR ⟨hne, hb2⟩
        · exact hmin b h hne hb2

/-- place p is in the region of the choice at i -/
def Reg (c : ByteArray) (i p : Int) : Prop := ∃ j, IsJ c i j ∧ Reach c (fun x => x ∈ nxt c i) j p
end Go.Proofs.YtcnbifdlkalimabGreat
