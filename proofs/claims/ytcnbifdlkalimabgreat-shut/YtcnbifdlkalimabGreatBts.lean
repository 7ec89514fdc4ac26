/-
  The plain mathematics of rows of bytes as texts; no condition but those that stand in each lemma.
-/
import Derived.Test.YtcnbifdlkalimabGreatPlain4
namespace Go.Proofs.YtcnbifdlkalimabGreat
open Go.RowKit

/-- values as a text -/
def bs (L : List Int) : ByteArray := ⟨(L.map fun x => UInt8.ofNat x.toNat).toArray⟩

theorem bs_size (L : List Int) : (bs L).size = L.length := by
  show (L.map fun x => UInt8.ofNat x.toNat).toArray.size = _
  simp
theorem bs_append (L M : List Int) : bs (L ++ M) = bs L ++ bs M := by
  apply ByteArray.ext
  show ((L ++ M).map fun x => UInt8.ofNat x.toNat).toArray = (bs L ++ bs M).data
  rw [ByteArray.data_append]
  simp [bs]
theorem bs_nil : bs [] = { data := #[] } := rfl
theorem bs_one (x : Int) : bs [x] = { data := #[UInt8.ofNat x.toNat] } := rfl

theorem byt_bs {L : List Int} {k : Nat} {x : Int} (h : L[k]? = some x) : byt (bs L) k = UInt8.ofNat x.toNat := by
  unfold byt bs
  simp [List.getD, h]
theorem bv_bs {L : List Int} {k : Nat} {x : Int} (h : L[k]? = some x) (h0 : 0 ≤ x) (h1 : x ≤ 255) : bv (bs L) k = x := by
  unfold bv
  rw [byt_bs h]
  have : (UInt8.ofNat x.toNat).toNat = x.toNat := by
    rw [UInt8.toNat_ofNat']; omega
  rw [this]
  omega

end Go.Proofs.YtcnbifdlkalimabGreat
