/-
  Noughts behind a tape, and tapes of levels that there are not, as runs; for every file that is let through.
-/
import Derived.Test.YtcnbifdlkalimaaKs5
import Derived.Test.YtcnbifdlkalimaaEqs0
namespace Go.Proofs.Ytcnbifdlkalimaa
open Go.RowKit
set_option linter.unusedVariables false
set_option maxRecDepth 100000

/-- so many noughts -/
def noughts (k : Nat) : ByteArray := bs (List.replicate k 0)
theorem noughts_size (k : Nat) : (noughts k).size = k := by unfold noughts; rw [bs_size, List.length_replicate]
theorem noughts_bv (k : Nat) (i : Nat) : bv (noughts k) i = 0 := by
  by_cases h : i < k
  · exact bv_bs (by rw [List.getElem?_replicate, if_pos h]) (by omega) (by omega)
  · exact bv_over (by rw [noughts_size]; omega)

theorem bv_pad (t : ByteArray) (k i : Nat) : bv (t ++ noughts k) i = bv t i := by
  by_cases h : i < t.size
  · unfold bv
    rw [byt_left _ _ _ (by simpa using h)]
  · have e : bv (t ++ noughts k) i = bv (noughts k) ((i : Int) - t.size) := by
      unfold bv
      rw [byt_right _ _ _ (by simpa using Nat.le_of_not_lt h)]
    rw [e, show (i : Int) - t.size = ((i - t.size : Nat) : Int) from by omega, noughts_bv, bv_over (by omega)]

/-- the tapes that Padded makes: noughts behind tape l; from level n on all are that text (none where n is 6 or above) -/
def padT (T : Int → ByteArray) (l : Int) (z b : ByteArray) (n : Int) : Int → ByteArray := fun i => if n ≤ i then b else if i = l then T i ++ z else T i

theorem pad_res {s : ByteArray} {h : Nat → Int} {T : Int → ByteArray} {l : Int} {k : Nat} {b : ByteArray} (P : Through (fCode s) (fVars s) (fTab s) (bv s 1) h) (f : Nat) : resV (fCode s) (fVars s) (padT T l (noughts k) b (bv s 1)) f = resV (fCode s) (fVars s) T f := by
  obtain ⟨e1, e2⟩ := runM_tapes (T := padT T l (noughts k) b (bv s 1)) (U := T) P (fun i hi q => by
    unfold padT
    rw [if_neg (by have := hi.2; omega)]
    by_cases e : i = l
    · rw [if_pos e, bv_pad]
    · rw [if_neg e]) f start (start_sound P)
  unfold resV endOf cntOf logOf varsOf
  rw [e1, e2]

theorem conv_noughts (W : World) (g k : Nat) (h : ∀ j, j < k → W.cell? ⟨g, j, none⟩ = some (.int .u8 0)) : (convert 58 9 (.slice (some ⟨g, 0, none⟩) k k)).run Try.prog W = .ok (.string (noughts k)) W := by
  rw [run_convert_bytes_string W 58 9 5 _ _ _ Try.underlying58 Try.underlying5 Try.underlying9]
  have hl := run_loadCells_list (P := Try.prog) W ⟨g, 0, none⟩ ((List.replicate k (0 : Int)).map (Value.int .u8)) (fun j v hj => by
    have hjk : j < k := by
      have := (List.getElem?_eq_some_iff.1 hj).1
      simpa using this
    have hadd : (⟨g, 0, none⟩ : Addr).add j = ⟨g, j, none⟩ := by unfold Addr.add; split <;> simp_all
    rw [hadd, h j hjk]
    rw [List.getElem?_map, List.getElem?_replicate, if_pos hjk] at hj
    simpa using hj)
  rw [List.length_map, List.length_replicate] at hl
  rw [run_bytesToString W ⟨g, 0, none⟩ k k (List.replicate k 0) hl, push_all]
  have he : ByteArray.empty ++ noughts k = noughts k := by
    apply ByteArray.ext
    rw [ByteArray.data_append]
    have he0 : ByteArray.empty.data = #[] := rfl
    rw [he0]
    simp
  unfold noughts at he
  rw [he]
  rfl

theorem made_cell (W : World) (k : Nat) (t : TypeId) (j : Nat) (hj : j < k) : (W.alloc (.cells (madeCells #[.int .u8 0] k) t)).cell? ⟨W.heap.size, j, none⟩ = some (.int .u8 0) := by
  have hg : (W.alloc (.cells (madeCells #[.int .u8 0] k) t)).heap[W.heap.size]? = some (.cells (madeCells #[.int .u8 0] k) t (0, 0)) := heap_alloc_last W _
  rw [cell_of_row _ _ j _ t (0, 0) hg]
  simp [madeCells, hj, Nat.mod_one]
end Go.Proofs.Ytcnbifdlkalimaa
