/-
  Tapes among a statement's arguments: no text is longer than the form's own reach; no condition but those that stand in each lemma.
-/
import Derived.Test.YtcnbifdlkalimaaTap0
import Derived.SizedLaws
namespace Go.Proofs.Ytcnbifdlkalimaa
open Go.ChangeShapes Go.WideShapes Go.ChangeAt Go.RowKit

section
variable {H : Type} {P : Program}

theorem sized_tapes {ts : List TypeId} {ds : List (DataW H)} (h : (DataW.weightsEach P ts ds).all (· ≤ reachBytes) = true) {j : Nat} {t e : TypeId} {T : Int → ByteArray} (ht : ts[j]? = some t) (hd : ds[j]? = some (tapD T)) (hu : P.underlying t = some (.array 6 e)) :
    ∀ l : Nat, l < 6 → (T l).size ≤ 140737488355328 := by
  have key : ∀ x, x ∈ DataW.weights P t (tapD (H := H) T) → x ≤ 140737488355328 := fun x hx => by
    have := List.all_eq_true.1 h _ (DataW.weights_mem_each ht hd x hx)
    have h2 : x ≤ reachBytes := by simpa using this
    exact Nat.le_trans h2 (by unfold reachBytes; decide)
  have e : ∀ s : ByteArray, s.data.toList.length = s.size := fun s => by simp
  intro l hl
  apply key
  match l, hl with
  | 0, _ => simp [tapD, DataW.weights, hu, DataW.weightsAll]
  | 1, _ => simp [tapD, DataW.weights, hu, DataW.weightsAll]
  | 2, _ => simp [tapD, DataW.weights, hu, DataW.weightsAll]
  | 3, _ => simp [tapD, DataW.weights, hu, DataW.weightsAll]
  | 4, _ => simp [tapD, DataW.weights, hu, DataW.weightsAll]
  | 5, _ => simp [tapD, DataW.weights, hu, DataW.weightsAll]
end
end Go.Proofs.Ytcnbifdlkalimaa
