/-
  The plain mathematics of files: how a text is cut, and what makes it a file; no condition but those that stand in each lemma.
-/
import Derived.Test.YtcnbifdlkalimabGreatPlain2
namespace Go.Proofs.YtcnbifdlkalimabGreat
open Go.RowKit

/-- a fact that no tactic of the walk looks into -/
structure Kp (p : Prop) : Prop where
  out : p

/-- byte k of a text as a number -/
def bv (s : ByteArray) (k : Int) : Int := ((byt s k).toNat : Nat)
theorem bv_bd (s : ByteArray) (k : Int) : 0 ≤ bv s k ∧ bv s k ≤ 255 := by
  unfold bv
  have := UInt8.toNat_lt (byt s k)
  omega
theorem bv_get (s : ByteArray) (k : Int) (h : k.toNat < s.size) : ((s[k.toNat].toNat : Nat) : Int) = bv s k := by
  unfold bv
  rw [byt_get s k h]
theorem bv_nat (s : ByteArray) (k : Nat) (h : k < s.size) : ((s[k].toNat : Nat) : Int) = bv s k := bv_get s k (by simpa using h)

/-- the first n bytes, and what is behind them -/
def hd (s : ByteArray) (n : Int) : ByteArray := s.extract 0 n.toNat
def tl (s : ByteArray) (n : Int) : ByteArray := s.extract n.toNat s.size
theorem hd_size {s : ByteArray} {n : Int} (h0 : 0 ≤ n) (h : n ≤ s.size) : ((hd s n).size : Int) = n := by
  unfold hd
  rw [ByteArray.size_extract]
  omega
theorem tl_size {s : ByteArray} {n : Int} (h0 : 0 ≤ n) (h : n ≤ s.size) : ((tl s n).size : Int) = s.size - n := by
  unfold tl
  rw [ByteArray.size_extract]
  omega
theorem hd_le (s : ByteArray) (n : Int) : (hd s n).size ≤ s.size := by
  unfold hd
  rw [ByteArray.size_extract]
  omega
theorem tl_le (s : ByteArray) (n : Int) : (tl s n).size ≤ s.size := by
  unfold tl
  rw [ByteArray.size_extract]
  omega
theorem bv_hd {s : ByteArray} {n : Int} (k : Nat) (hk : (k : Int) < n) (h : n ≤ s.size) : bv (hd s n) k = bv s k := by
  unfold bv hd
  rw [byt_cut s 0 n.toNat k (by omega) (by omega)]
  simp

/-- block b of the world holds these, and they may be written -/
structure Own (wr : World) (b : Nat) (vs : List Value) : Prop where
  lt : b < wr.heap.size
  c : ∀ (i : Nat) (v : Value), vs[i]? = some v → wr.cell? ⟨b, i, none⟩ = some v
  f : ∀ (i : Nat) (v : Value), vs[i]? = some v → wr.frozen? ⟨b, i, none⟩ = false

theorem Own.step {wr w1 : World} {b : Nat} {vs : List Value} (h : Own wr b vs) (hb : Below wr.heap.size wr w1) : Own w1 b vs :=
  ⟨Nat.lt_of_lt_of_le h.lt hb.size, fun i v hv => by rw [hb.cell (p := ⟨b, i, none⟩) h.lt]; exact h.c i v hv, fun i v hv => by rw [hb.frozen (p := ⟨b, i, none⟩) h.lt]; exact h.f i v hv⟩

theorem Own.alloc {wr : World} {b : Nat} {vs : List Value} (h : Own wr b vs) (o : Obj) : Own (wr.alloc o) b vs :=
  h.step ((Below.refl _ _).alloc (Nat.le_refl _) _)

theorem Own.new2 (w : World) (x y : Value) (t : TypeId) : Own (w.alloc (.cells #[x, y] t)) w.heap.size [x, y] := by
  refine ⟨by simp, ?_, ?_⟩ <;>
  · intro i v hv
    match i with
    | 0 => simp at hv; simp [go_sem, hv]
    | 1 => simp at hv; simp [go_sem, hv]
    | i + 2 => simp at hv

theorem Own.new3 (w : World) (x y z : Value) (t : TypeId) : Own (w.alloc (.cells #[x, y, z] t)) w.heap.size [x, y, z] := by
  refine ⟨by simp, ?_, ?_⟩ <;>
  · intro i v hv
    match i with
    | 0 => simp at hv; simp [go_sem, hv]
    | 1 => simp at hv; simp [go_sem, hv]
    | 2 => simp at hv; simp [go_sem, hv]
    | i + 3 => simp at hv

theorem Own.new4 (w : World) (x y z u : Value) (t : TypeId) : Own (w.alloc (.cells #[x, y, z, u] t)) w.heap.size [x, y, z, u] := by
  refine ⟨by simp, ?_, ?_⟩ <;>
  · intro i v hv
    match i with
    | 0 => simp at hv; simp [go_sem, hv]
    | 1 => simp at hv; simp [go_sem, hv]
    | 2 => simp at hv; simp [go_sem, hv]
    | 3 => simp at hv; simp [go_sem, hv]
    | i + 4 => simp at hv

theorem Own.new5 (w : World) (x y z u a : Value) (t : TypeId) : Own (w.alloc (.cells #[x, y, z, u, a] t)) w.heap.size [x, y, z, u, a] := by
  refine ⟨by simp, ?_, ?_⟩ <;>
  · intro i v hv
    match i with
    | 0 => simp at hv; simp [go_sem, hv]
    | 1 => simp at hv; simp [go_sem, hv]
    | 2 => simp at hv; simp [go_sem, hv]
    | 3 => simp at hv; simp [go_sem, hv]
    | 4 => simp at hv; simp [go_sem, hv]
    | i + 5 => simp at hv

/-! ### a byte that counts, and what it counts -/
def cOk (s : ByteArray) (sz most : Int) : Bool := decide (1 ≤ s.size ∧ bv s 0 ≤ most ∧ sz * bv s 0 ≤ (tl s 1).size)
def cPart (s : ByteArray) (sz : Int) : ByteArray := hd (tl s 1) (sz * bv s 0)
def cRest (s : ByteArray) (sz : Int) : ByteArray := tl (tl s 1) (sz * bv s 0)
theorem cOk_t {s : ByteArray} {sz most : Int} (h : cOk s sz most = true) : 1 ≤ s.size ∧ bv s 0 ≤ most ∧ sz * bv s 0 ≤ (tl s 1).size := of_decide_eq_true h
theorem cOk_f {s : ByteArray} {sz most : Int} (h : cOk s sz most = false) : s.size = 0 ∨ (1 ≤ s.size ∧ most < bv s 0) ∨ (1 ≤ s.size ∧ bv s 0 ≤ most ∧ (tl s 1).size < sz * bv s 0) := by
  have := of_decide_eq_false h
  omega

def varsOk (v : ByteArray) (n : Int) : Bool := allTo (fun i => decide (bv v i < n)) v.size
def vOk (s : ByteArray) (n : Int) : Bool := cOk s 1 8 && varsOk (cPart s 1) n

/-! ### the parts of a file -/
def fHead (s : ByteArray) : Bool := decide (2 ≤ s.size ∧ bv s 0 = 83 ∧ 1 ≤ bv s 1 ∧ bv s 1 ≤ 6)
def fTab (s : ByteArray) : ByteArray := hd (tl s 2) (bv s 1 * bv s 1)
def fR1 (s : ByteArray) : ByteArray := tl (tl s 2) (bv s 1 * bv s 1)
def fTabOk (s : ByteArray) : Bool := fHead s && (decide (bv s 1 * bv s 1 ≤ (tl s 2).size) && bits (fTab s))
def fVars (s : ByteArray) : ByteArray := cPart (fR1 s) 1
def fR2 (s : ByteArray) : ByteArray := cRest (fR1 s) 1
def fCode (s : ByteArray) : ByteArray := cPart (fR2 s) 2
def fR3 (s : ByteArray) : ByteArray := cRest (fR2 s) 2
def fOk (s : ByteArray) : Bool := fTabOk s && (vOk (fR1 s) (bv s 1) && (cOk (fR2 s) 2 200 && decide ((fR3 s).size = 0)))

theorem fHead_t {s : ByteArray} (h : fHead s = true) : 2 ≤ s.size ∧ bv s 0 = 83 ∧ 1 ≤ bv s 1 ∧ bv s 1 ≤ 6 := of_decide_eq_true h
theorem fHead_f {s : ByteArray} (h : fHead s = false) : s.size < 2 ∨ (2 ≤ s.size ∧ bv s 0 ≠ 83) ∨ (2 ≤ s.size ∧ bv s 0 = 83 ∧ bv s 1 < 1) ∨ (2 ≤ s.size ∧ bv s 0 = 83 ∧ 1 ≤ bv s 1 ∧ 6 < bv s 1) := by
  have := of_decide_eq_false h
  omega

/-- of a file's table: its size is the level's square; what 'Size' says of it -/
theorem fTab_n {s : ByteArray} (h : fHead s = true) (h2 : bv s 1 * bv s 1 ≤ (tl s 2).size) : tabN (fTab s) = if bits (fTab s) then bv s 1 else 0 := by
  obtain ⟨-, -, h1, h6⟩ := fHead_t h
  have hz : ((fTab s).size : Int) = bv s 1 * bv s 1 := hd_size (Int.mul_nonneg (by omega) (by omega)) h2
  unfold tabN
  rw [sideF_sq h1 h6 hz.symm]

/-! ### the code -/
def half (c : ByteArray) : Int := (c.size : Int) / 2
theorem half_bd (c : ByteArray) : 0 ≤ half c ∧ 2 * half c ≤ c.size ∧ c.size < 2 * half c + 2 := by
  unfold half
  omega
/-- an instruction is one that there is, and its operand what it asks -/
def okIns (nv k n op arg : Int) : Bool := decide (op = 0 ∨ ((op = 1 ∨ op = 2) ∧ arg < nv) ∨ ((3 ≤ op ∧ op ≤ 7) ∧ arg = 0) ∨ ((op = 8 ∨ op = 9) ∧ arg ≤ k) ∨ ((op = 10 ∨ op = 11) ∧ arg < n))
def insOk (c v : ByteArray) (n i : Int) : Bool := okIns v.size (half c) n (bv c (2 * i)) (bv c (2 * i + 1))
def codeOk (c v : ByteArray) (n : Int) : Bool := allTo (insOk c v n) (half c).toNat

/-- the error that the document gives a file -/
def scanE (s : ByteArray) : Int := if 448 < (s.size : Int) then 1 else if fOk s then (if levE (fTab s) = 0 then (if codeOk (fCode s) (fVars s) (bv s 1) then 0 else 6) else levE (fTab s)) else 2

theorem fTab_tab {s : ByteArray} (h : fTabOk s = true) : Tab (fTab s) (bv s 1) ∧ tabN (fTab s) = bv s 1 ∧ judgeE (fTab s) (bv s 1) = levE (fTab s) := by
  unfold fTabOk at h
  rw [Bool.and_eq_true, Bool.and_eq_true] at h
  obtain ⟨h1, h2, h3⟩ := h
  have hN := fTab_n h1 (of_decide_eq_true h2)
  rw [h3, if_pos rfl] at hN
  obtain ⟨-, -, k3, k4⟩ := fHead_t h1
  have ht := (tabN_tab (s := fTab s) (by omega)).1
  rw [hN] at ht
  refine ⟨ht, hN, ?_⟩
  have hl := levE_same (fTab s)
  unfold openE at hl
  rw [hN, if_neg (by omega)] at hl
  exact hl

theorem scan_cases (s : ByteArray) :
    (448 < (s.size : Int) ∧ scanE s = 1) ∨ (s.size ≤ 448 ∧ fOk s = false ∧ scanE s = 2) ∨ (s.size ≤ 448 ∧ fOk s = true ∧ levE (fTab s) ≠ 0 ∧ scanE s = levE (fTab s)) ∨
    (s.size ≤ 448 ∧ fOk s = true ∧ levE (fTab s) = 0 ∧ codeOk (fCode s) (fVars s) (bv s 1) = false ∧ scanE s = 6) ∨ (s.size ≤ 448 ∧ fOk s = true ∧ levE (fTab s) = 0 ∧ codeOk (fCode s) (fVars s) (bv s 1) = true ∧ scanE s = 0) := by
  unfold scanE
  by_cases h : 448 < (s.size : Int)
  · exact .inl ⟨h, by rw [if_pos h]⟩
  · rw [if_neg h]
    have h' : s.size ≤ 448 := by omega
    cases h1 : fOk s with
    | false => exact .inr (.inl ⟨h', rfl, rfl⟩)
    | true =>
      by_cases h2 : levE (fTab s) = 0
      · cases h3 : codeOk (fCode s) (fVars s) (bv s 1) with
        | false => exact .inr (.inr (.inr (.inl ⟨h', rfl, h2, rfl, by rw [if_pos rfl, if_pos h2]; rfl⟩)))
        | true => exact .inr (.inr (.inr (.inr ⟨h', rfl, h2, rfl, by rw [if_pos rfl, if_pos h2]; rfl⟩)))
      · exact .inr (.inr (.inl ⟨h', rfl, h2, by rw [if_pos rfl, if_neg h2]⟩))
end Go.Proofs.YtcnbifdlkalimabGreat
