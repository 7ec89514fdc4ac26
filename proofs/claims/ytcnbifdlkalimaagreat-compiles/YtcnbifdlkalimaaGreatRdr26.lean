/-
  The walks of the document's translating: what is read of a source in memory; no condition but those that stand in each lemma.
-/
import Derived.Test.YtcnbifdlkalimaaGreatRdrD
import Derived.Test.YtcnbifdlkalimaaGreatRdrC
namespace Go.Proofs.YtcnbifdlkalimaaGreat
open Go.RowKit
set_option linter.unusedVariables false
set_option maxRecDepth 100000

theorem flat_get {α : Type} (f : α → List Value) (z : Nat) (hf : ∀ x, (f x).length = z) : ∀ (l : List α) (e i : Nat) (x : α), l[e]? = some x → i < z → (l.flatMap f)[e * z + i]? = (f x)[i]?
  | [], e, i, x, h, hi => by simp at h
  | y :: l, 0, i, x, h, hi => by
    have e1 : y = x := by simpa using h
    subst e1
    rw [List.flatMap_cons, List.getElem?_append_left (by rw [hf]; omega)]
    simp
  | y :: l, e + 1, i, x, h, hi => by
    have h1 : l[e]? = some x := by simpa using h
    have h2 := flat_get f z hf l e i x h1 hi
    have e1 : (e + 1) * z = e * z + z := by rw [Nat.add_mul, Nat.one_mul]
    rw [List.flatMap_cons, List.getElem?_append_right (by rw [hf, e1]; omega), hf, e1, show e * z + z + i - z = e * z + i from by omega]
    exact h2

/-- the cells of a node -/
theorem PsAt.node {w : World} {rb sb B : Nat} {s : ByteArray} {p : Rs} {tb : ByteArray} {tp : Value} {S : Nat → Value} {sv : List (Value × Value)} (H : PsAt w rb sb B s p tb tp S sv) {e : Nat} {x : Ex} (hx : p.ex[e]? = some x) :
    ∃ g c, S 0 = .slice (some ⟨g, 0, none⟩) p.ex.length c ∧ g < w.heap.size ∧ ∀ i v, (exV x)[i]? = some v → w.cell? ⟨g, e * 4 + i, none⟩ = some v := by
  have ho : w.ownsRow B 166 4 (S 0) p.ex.length (p.ex.flatMap exV) := H.o 0 (by omega)
  have he : e < p.ex.length := (List.getElem?_eq_some_iff.1 hx).1
  obtain ⟨g, c, hS⟩ : ∃ g c, S 0 = .slice (some ⟨g, 0, none⟩) p.ex.length c := by
    rcases ho.2 with h | ⟨g, cap, cur, h, _⟩
    · omega
    · exact ⟨g, cap, h⟩
  rw [hS] at ho
  refine ⟨g, c, hS, (ho.lt g rfl).2, fun i v hv => ?_⟩
  have hi : i < 4 := by have := (List.getElem?_eq_some_iff.1 hv).1; simpa [exV] using this
  rw [ho.cellAt (e * 4 + i) (by omega), flat_get exV 4 (fun _ => rfl) p.ex e i x hx hi]
  exact hv
/-- the cells of a statement -/
theorem PsAt.stat {w : World} {rb sb B : Nat} {s : ByteArray} {p : Rs} {tb : ByteArray} {tp : Value} {S : Nat → Value} {sv : List (Value × Value)} (H : PsAt w rb sb B s p tb tp S sv) {n : Nat} {x : Sm} (hx : p.sm[n]? = some x) :
    ∃ g c y, S 1 = .slice (some ⟨g, 0, none⟩) p.sm.length c ∧ g < w.heap.size ∧ sv[n]? = some y ∧ IRow w B S y.1 x.bo ∧ IRow w B S y.2 x.el ∧ ∀ i v, (smV (x, y))[i]? = some v → w.cell? ⟨g, n * 7 + i, none⟩ = some v := by
  have ho : w.ownsRow B 168 7 (S 1) p.sm.length ((List.zip p.sm sv).flatMap smV) := H.o 1 (by omega)
  have he : n < p.sm.length := (List.getElem?_eq_some_iff.1 hx).1
  obtain ⟨g, c, hS⟩ : ∃ g c, S 1 = .slice (some ⟨g, 0, none⟩) p.sm.length c := by
    rcases ho.2 with h | ⟨g, cap, cur, h, _⟩
    · omega
    · exact ⟨g, cap, h⟩
  rw [hS] at ho
  have hn : n < sv.length := by rw [H.k]; exact he
  have hy : sv[n]? = some sv[n] := List.getElem?_eq_getElem hn
  have hz : (List.zip p.sm sv)[n]? = some (x, sv[n]) := by
    rw [List.getElem?_zip_eq_some]
    exact ⟨hx, hy⟩
  obtain ⟨h1, h2⟩ := H.i n x _ hx hy
  refine ⟨g, c, sv[n], hS, (ho.lt g rfl).2, hy, h1, h2, fun i v hv => ?_⟩
  have hi : i < 7 := by have := (List.getElem?_eq_some_iff.1 hv).1; simpa [smV] using this
  rw [ho.cellAt (n * 7 + i) (by omega), flat_get smV 7 (fun _ => rfl) _ n i _ hz hi]
  exact hv
/-- the cells of a list -/
theorem IRow.at {w : World} {B : Nat} {S : Nat → Value} {v : Value} {l : List Nat} (h : IRow w B S v l) {i x : Nat} (hx : l[i]? = some x) : ∃ g c, v = .slice (some ⟨g, 0, none⟩) l.length c ∧ g < w.heap.size ∧ w.cell? ⟨g, i, none⟩ = some (.int .i64 x) := by
  have hi : i < l.length := (List.getElem?_eq_some_iff.1 hx).1
  have ho := h.1
  obtain ⟨g, c, hS⟩ : ∃ g c, v = .slice (some ⟨g, 0, none⟩) l.length c := by
    rcases ho.2 with h | ⟨g, cap, cur, h, _⟩
    · omega
    · exact ⟨g, cap, h⟩
  rw [hS] at ho
  refine ⟨g, c, hS, (ho.lt g rfl).2, ?_⟩
  rw [ho.cellAt i (by omega)]
  unfold itV
  rw [List.getElem?_map, hx]
  rfl

/-- the code of a node -/
theorem cod_at {ex : List Ex} (hE : ExOk ex) {e : Nat} {x : Ex} (hx : ex[e]? = some x) : (x.op = 0 ∨ x.op = 1 ∨ x.op = 10 → cod ex e = [x.op % 256, x.v % 256]) ∧ (¬ (x.op = 0 ∨ x.op = 1 ∨ x.op = 10) → x.l < e ∧ x.r < e ∧ cod ex e = cod ex x.l ++ cod ex x.r ++ [x.op % 256, 0]) := by
  have he : e < ex.length := (List.getElem?_eq_some_iff.1 hx).1
  have h1 : cod ex e = if x.op = 0 ∨ x.op = 1 ∨ x.op = 10 then [x.op % 256, x.v % 256] else codF ex e x.l ++ codF ex e x.r ++ [x.op % 256, 0] := by
    unfold cod
    simp only [codF, hx]
  constructor
  · intro h
    rw [h1, if_pos h]
  · intro h
    obtain ⟨hl, hr⟩ := (hE e x hx).resolve_left h
    refine ⟨hl, hr, ?_⟩
    rw [h1, if_neg h, codF_any hE (by omega) hl, codF_any hE (by omega) hr]
end Go.Proofs.YtcnbifdlkalimaaGreat
