/-
  A row of bytes as a text; for every row that is owned.
-/
import Derived.Test.YtcnbifdlkalimabGreatBts
import Derived.Test.YtcnbifdlkalimabGreatLat1
import Derived.Maps.AppendAt
import Derived.Laws.IdiomStrings
import Derived.Laws.BytesArg
namespace Go.Proofs.YtcnbifdlkalimabGreat
open Go.RowKit
set_option linter.unusedVariables false
set_option maxRecDepth 100000

theorem push_all : ∀ (L : List Int) (r : ByteArray), L.foldl (fun r n => r.push (UInt8.ofNat n.toNat)) r = r ++ bs L
  | [], r => by
    apply ByteArray.ext
    rw [ByteArray.data_append]
    simp [bs]
  | x :: L, r => by
    rw [List.foldl_cons, push_all L]
    apply ByteArray.ext
    rw [ByteArray.data_append, ByteArray.data_append]
    simp [bs, ByteArray.push]

/-- a row of bytes as a text -/
theorem conv_row {w : World} {B : Nat} {v : Value} (L : List Int) (h : w.ownsRow B 5 1 v L.length (L.map (Value.int .u8))) :
    (convert 56 9 v).run Tryz.prog w = .ok (.string (bs L)) w := by
  rcases h.2 with ⟨rfl, hn⟩ | ⟨g, cap, cur, rfl, hbb, hgg, rest⟩
  · have : L = [] := List.eq_nil_of_length_eq_zero (by omega)
    subst this
    exact run_convert_bytes_nil (w := w) 56 5 Tryz.underlying56 Tryz.underlying5 _ _ 9 Tryz.underlying9
  · rw [run_convert_bytes_string w 56 9 5 _ _ _ Tryz.underlying56 Tryz.underlying5 Tryz.underlying9]
    have hl := run_loadCells_list (P := Tryz.prog) w ⟨g, 0, none⟩ (L.map (Value.int .u8)) (fun j v hj => h.cells rfl j v hj)
    rw [List.length_map] at hl
    rw [run_bytesToString w ⟨g, 0, none⟩ L.length cap L hl, push_all]
    have he : ByteArray.empty ++ bs L = bs L := by
      apply ByteArray.ext
      rw [ByteArray.data_append]
      have he0 : ByteArray.empty.data = #[] := rfl
      rw [he0]
      simp
    rw [he]

end Go.Proofs.YtcnbifdlkalimabGreat
