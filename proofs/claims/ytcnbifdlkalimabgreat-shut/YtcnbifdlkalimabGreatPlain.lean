/-
  The plain mathematics of tables of levels: no program here. What a table says of two levels, and the searches that the document's words and the program's text make over it, as plain functions; no condition but those that stand in each lemma.
-/
import Derived.Test.YtcnbifdlkalimabGreatRows
import Derived.WalkKit
import Derived.WalkSpells
import Derived.WalkLawsBesides
namespace Go.Proofs.YtcnbifdlkalimabGreat
open Go.RowKit

/-- byte k of a text, 0 beyond its end -/
def byt (s : ByteArray) (k : Int) : UInt8 := s.data.toList.getD k.toNat 0

/-- level a is at or below level b in the table s of n levels -/
def le (s : ByteArray) (n a b : Int) : Bool := byt s (a * n + b) == 49

/-- f holds of 0 .. k-1 -/
def allTo (f : Int → Bool) : Nat → Bool
  | 0 => true
  | k + 1 => allTo f k && f k

theorem allTo_true {f : Int → Bool} {k : Nat} : allTo f k = true ↔ ∀ i : Nat, i < k → f i = true := by
  induction k with
  | zero => simp [allTo]
  | succ k ih =>
    simp only [allTo, Bool.and_eq_true, ih]
    constructor
    · rintro ⟨h, h'⟩ i hi
      by_cases e : i = k
      · subst e; exact h'
      · exact h i (by omega)
    · intro h
      exact ⟨fun i hi => h i (by omega), h k (by omega)⟩

theorem allTo_false {f : Int → Bool} {k i : Nat} (hi : i < k) (h : f i = false) : allTo f k = false := by
  cases e : allTo f k with
  | false => rfl
  | true => rw [allTo_true] at e; rw [e i hi] at h; exact absurd h (by simp)

/-- the first of 0 .. k-1 of which f holds; none, if there is none -/
def firstTo (f : Int → Bool) : Nat → Option Int
  | 0 => none
  | k + 1 => match firstTo f k with
    | some i => some i
    | none => if f k then some (k : Int) else none

theorem firstTo_none {f : Int → Bool} {k : Nat} (h : ∀ i : Nat, i < k → f i = false) : firstTo f k = none := by
  induction k with
  | zero => rfl
  | succ k ih => simp [firstTo, ih (fun i hi => h i (by omega)), h k (by omega)]

theorem firstTo_more {f : Int → Bool} {i k : Nat} {x : Int} (hik : i ≤ k) (h : firstTo f i = some x) : firstTo f k = some x := by
  induction k with
  | zero => have : i = 0 := by omega
            subst this; exact h
  | succ k ih =>
    by_cases e : i = k + 1
    · subst e; exact h
    · simp [firstTo, ih (by omega)]

theorem firstTo_some {f : Int → Bool} {i k : Nat} (hik : i < k) (h : ∀ j : Nat, j < i → f j = false) (hi : f i = true) : firstTo f k = some (i : Int) :=
  firstTo_more (i := i + 1) (by omega) (by simp [firstTo, firstTo_none h, hi])

theorem firstTo_congr {f g : Int → Bool} {k : Nat} (h : ∀ i : Nat, i < k → f i = g i) : firstTo f k = firstTo g k := by
  induction k with
  | zero => rfl
  | succ k ih => simp only [firstTo, ih (fun i hi => h i (by omega)), h k (by omega)]

theorem allTo_congr {f g : Int → Bool} {k : Nat} (h : ∀ i : Nat, i < k → f i = g i) : allTo f k = allTo g k := by
  induction k with
  | zero => rfl
  | succ k ih => simp only [allTo, ih (fun i hi => h i (by omega)), h k (by omega)]

theorem byt_get (s : ByteArray) (k : Int) (h : k.toNat < s.size) : s[k.toNat] = byt s k := by
  unfold byt
  rw [List.getD_eq_getElem?_getD, List.getElem?_eq_getElem (by simpa using h)]
  rfl

theorem byt_eq (s : ByteArray) (k : Int) (c : UInt8) (h : k.toNat < s.size) : (((s[k.toNat].toNat : Nat) : Int) == ((c.toNat : Nat) : Int)) = (byt s k == c) := by
  rw [byt_get s k h, Bool.eq_iff_iff]
  simp only [beq_iff_eq]
  constructor
  · intro e; exact UInt8.toNat_inj.1 (by omega)
  · intro e; rw [e]

theorem le_get (s : ByteArray) (n a b : Int) (h : (a * n + b).toNat < s.size) : (((s[(a * n + b).toNat].toNat : Nat) : Int) == 49) = le s n a b :=
  byt_eq s (a * n + b) 49 h

theorem ix_lt (n a b : Int) (ha : 0 ≤ a) (ha' : a < n) (hb' : b < n) : 0 ≤ a * n ∧ a * n + b < n * n := by
  refine ⟨Int.mul_nonneg ha (by omega), ?_⟩
  have : a * n ≤ (n - 1) * n := Int.mul_le_mul_of_nonneg_right (by omega) (by omega)
  rw [Int.sub_mul] at this
  omega

theorem sq_le (n : Int) (h : 1 ≤ n) (h' : n ≤ 6) : n * n ≤ 36 := by
  have : n * n ≤ 6 * 6 := Int.mul_le_mul h' h' (by omega) (by omega)
  omega

/-- since w a box of two cells has been laid first, with these in it; what else was laid lies behind it, and what was there is as it was -/
structure Box2 (w wr : World) (x y : Value) : Prop where
  below : Below w.heap.size w wr
  size : w.heap.size < wr.heap.size
  c0 : wr.cell? ⟨w.heap.size, 0, none⟩ = some x
  c1 : wr.cell? ⟨w.heap.size, 1, none⟩ = some y

theorem Box2.step {w wr w1 : World} {x y : Value} (h : Box2 w wr x y) (hb : Below wr.heap.size wr w1) : Box2 w w1 x y :=
  ⟨h.below.trans (hb.mono (Nat.le_of_lt h.size)), Nat.lt_of_lt_of_le h.size hb.size, by rw [hb.cell (p := ⟨w.heap.size, 0, none⟩) h.size]; exact h.c0, by rw [hb.cell (p := ⟨w.heap.size, 1, none⟩) h.size]; exact h.c1⟩

theorem Box2.mk' (w : World) (x y : Value) (t : TypeId) : Box2 w (w.alloc (.cells #[x, y] t)) x y :=
  ⟨(Below.refl _ _).alloc (Nat.le_refl _) _, by simp, by simp [go_sem], by simp [go_sem]⟩

theorem ret_bool {a b : Bool} (h : a = b) : Ending.returned (.bool a) = .returned (.bool b) := by rw [h]
theorem ret_int {k : IntKind} {a b : Int} (h : a = b) : Ending.returned (.int k a) = .returned (.int k b) := by rw [h]

theorem bcell {W w1 : World} (hb : Below W.heap.size W w1) : (∀ b o, b < W.heap.size → w1.cell? ⟨b, o, none⟩ = W.cell? ⟨b, o, none⟩) ∧ (∀ b o, b < W.heap.size → w1.frozen? ⟨b, o, none⟩ = W.frozen? ⟨b, o, none⟩) :=
  ⟨fun b o h => hb.cell (p := ⟨b, o, none⟩) h, fun b o h => hb.frozen (p := ⟨b, o, none⟩) h⟩

/-- a table of n levels: what every walk over one needs -/
structure Tab (s : ByteArray) (n : Int) : Prop where
  lo : 1 ≤ n
  hi : n ≤ 6
  size : n * n ≤ s.size

/-- how many levels a table of that length has -/
def sideF (len : Int) : Int := if len = 1 then 1 else if len = 4 then 2 else if len = 9 then 3 else if len = 16 then 4 else if len = 25 then 5 else if len = 36 then 6 else 0

theorem sideF_sq {k len : Int} (h1 : 1 ≤ k) (h6 : k ≤ 6) (h : k * k = len) : sideF len = k := by
  have : k = 1 ∨ k = 2 ∨ k = 3 ∨ k = 4 ∨ k = 5 ∨ k = 6 := by omega
  subst h
  rcases this with rfl | rfl | rfl | rfl | rfl | rfl <;> decide

theorem sideF_no {len : Int} (h : ∀ j : Int, 1 ≤ j → j < 7 → j * j ≠ len) : sideF len = 0 := by
  have a1 := h 1 (by omega) (by omega)
  have a2 := h 2 (by omega) (by omega)
  have a3 := h 3 (by omega) (by omega)
  have a4 := h 4 (by omega) (by omega)
  have a5 := h 5 (by omega) (by omega)
  have a6 := h 6 (by omega) (by omega)
  unfold sideF
  rw [if_neg (by omega), if_neg (by omega), if_neg (by omega), if_neg (by omega), if_neg (by omega), if_neg (by omega)]

theorem sideF_bd (len : Int) : 0 ≤ sideF len ∧ sideF len ≤ 6 ∧ (sideF len ≠ 0 → sideF len * sideF len = len) := by
  unfold sideF
  repeat' split
  all_goals simp_all

/-- every byte is a 0 or a 1 -/
def isBit (s : ByteArray) (i : Int) : Bool := byt s i == 48 || byt s i == 49
theorem isBit_iff {s : ByteArray} {k : Nat} (h : k < s.size) : isBit s k = true ↔ ((s[k].toNat : Nat) : Int) = 48 ∨ ((s[k].toNat : Nat) : Int) = 49 := by
  have e0 := byt_eq s k 48 (by simpa using h)
  have e1 := byt_eq s k 49 (by simpa using h)
  simp only [Int.toNat_natCast] at e0 e1
  unfold isBit
  rw [← e0, ← e1, Bool.or_eq_true, beq_iff_eq, beq_iff_eq]
  exact Iff.rfl

theorem isBit_no {s : ByteArray} {k : Nat} (h : k < s.size) (h0 : (((s[k].toNat : Nat) : Int) != 48) = true ∧ (((s[k].toNat : Nat) : Int) != 49) = true) : isBit s k = false := by
  cases e : isBit s k with
  | false => rfl
  | true =>
    rw [isBit_iff h] at e
    simp only [bne_iff_ne] at h0
    omega

theorem isBit_or {s : ByteArray} {k : Nat} (h : k < s.size) (h0 : (((s[k].toNat : Nat) : Int) != 48) = false ∨ (((s[k].toNat : Nat) : Int) != 49) = false) : isBit s k = true := by
  rw [isBit_iff h]
  simpa using h0

theorem all_more {p : Int → Bool} {k : Nat} (h : ∀ i : Nat, i < k → p i = true) (hk : p k = true) : ∀ i : Nat, i < k + 1 → p i = true := by
  intro i hi
  by_cases e : i = k
  · subst e; exact hk
  · exact h i (by omega)

theorem none_more {p : Int → Bool} {k : Nat} (h : ∀ i : Nat, i < k → p i = false) (hk : p k = false) : ∀ i : Nat, i < k + 1 → p i = false := by
  intro i hi
  by_cases e : i = k
  · subst e; exact hk
  · exact h i (by omega)

def bits (s : ByteArray) : Bool := allTo (isBit s) s.size

/-- how many levels a table has; 0: it is none -/
def tabN (s : ByteArray) : Int := if bits s then sideF s.size else 0

theorem tabN_tab {s : ByteArray} (h : tabN s ≠ 0) : Tab s (tabN s) ∧ tabN s * tabN s = s.size ∧ bits s = true ∧ tabN s = sideF s.size := by
  unfold tabN at *
  split at h
  · rename_i hb
    rw [if_pos hb]
    have := sideF_bd s.size
    exact ⟨⟨by omega, by omega, by rw [this.2.2 h]; omega⟩, this.2.2 h, hb, rfl⟩
  · exact absurd rfl h

/-! the program's searches -/
def pRefl (s : ByteArray) (n : Int) : Bool := allTo (fun a => le s n a a) n.toNat
def pAnti (s : ByteArray) (n : Int) : Bool := allTo (fun a => allTo (fun b => decide (b ≤ a) || !(le s n a b && le s n b a)) n.toNat) n.toNat
def pReach (s : ByteArray) (n a b : Int) : Bool := allTo (fun c => !(le s n b c) || le s n a c) n.toNat
def pTrans (s : ByteArray) (n : Int) : Bool := allTo (fun a => allTo (fun b => !(le s n a b) || pReach s n a b) n.toNat) n.toNat
def pOrder (s : ByteArray) (n : Int) : Bool := pRefl s n && (pAnti s n && pTrans s n)
def pAbove (s : ByteArray) (n a b c : Int) : Bool := le s n a c && le s n b c
def pBelow (s : ByteArray) (n a b c : Int) : Bool := le s n c a && le s n c b
def pIsJoin (s : ByteArray) (n a b c : Int) : Bool := pAbove s n a b c && allTo (fun d => d == c || (!(pAbove s n a b d) || le s n c d)) n.toNat
def pIsMeet (s : ByteArray) (n a b c : Int) : Bool := pBelow s n a b c && allTo (fun d => d == c || (!(pBelow s n a b d) || le s n d c)) n.toNat
def pJoin (s : ByteArray) (n a b : Int) : Option Int := firstTo (pIsJoin s n a b) n.toNat
def pMeet (s : ByteArray) (n a b : Int) : Option Int := firstTo (pIsMeet s n a b) n.toNat
def pLat (s : ByteArray) (n : Int) : Bool := allTo (fun a => allTo (fun b => (pJoin s n a b).isSome && (pMeet s n a b).isSome) n.toNat) n.toNat
def judgeE (s : ByteArray) (n : Int) : Int := if pOrder s n then (if pLat s n then 0 else 5) else 4
/-! the document's searches -/
def rOrdAt (s : ByteArray) (n a b : Int) : Bool := !((a == b && !(le s n a b)) || (a != b && (le s n a b && le s n b a))) && allTo (fun c => !(le s n a b && (le s n b c && !(le s n a c)))) n.toNat
def rOrder (s : ByteArray) (n : Int) : Bool := allTo (fun a => allTo (fun b => rOrdAt s n a b) n.toNat) n.toNat
def rIsJoin (s : ByteArray) (n a b j : Int) : Bool := pAbove s n a b j && allTo (fun c => !(pAbove s n a b c) || le s n j c) n.toNat
def rIsMeet (s : ByteArray) (n a b j : Int) : Bool := pBelow s n a b j && allTo (fun c => !(pBelow s n a b c) || le s n c j) n.toNat
def rJoin (s : ByteArray) (n a b : Int) : Option Int := firstTo (rIsJoin s n a b) n.toNat
def rMeet (s : ByteArray) (n a b : Int) : Option Int := firstTo (rIsMeet s n a b) n.toNat
def rLat (s : ByteArray) (n : Int) : Bool := allTo (fun a => allTo (fun b => (rJoin s n a b).isSome && (rMeet s n a b).isSome) n.toNat) n.toNat

theorem allTo_less {f : Int → Bool} {m k : Nat} (hm : m ≤ k) (h : allTo f m = false) : allTo f k = false := by
  cases e : allTo f k with
  | false => rfl
  | true =>
    rw [allTo_true] at e
    rw [allTo_true.2 (fun i hi => e i (by omega))] at h
    exact absurd h (by simp)

theorem firstTo_lt {f : Int → Bool} {k : Nat} {x : Int} (h : firstTo f k = some x) : 0 ≤ x ∧ x < k ∧ f x = true := by
  induction k with
  | zero => simp [firstTo] at h
  | succ k ih =>
    simp only [firstTo] at h
    cases e : firstTo f k with
    | some y =>
      rw [e] at h
      simp only [Option.some.injEq] at h
      subst h
      have := ih e
      exact ⟨this.1, by omega, this.2.2⟩
    | none =>
      rw [e] at h
      by_cases hf : f k = true
      · simp only [hf, if_true, Option.some.injEq] at h
        subst h
        exact ⟨by omega, by omega, hf⟩
      · simp [hf] at h

/-- what 'Size' holds when it has looked at the sides below k -/
def sideTo (len k : Int) : Int := if sideF len < k then sideF len else 0

theorem sideTo_yes {len k : Int} (h1 : 1 ≤ k) (h6 : k ≤ 6) (h : len = k * k) : sideTo len (k + 1) = k := by
  unfold sideTo
  rw [sideF_sq h1 h6 h.symm, if_pos (by omega)]

theorem sideTo_no {len k : Int} (h1 : 1 ≤ k) (h : len ≠ k * k) : sideTo len (k + 1) = sideTo len k := by
  unfold sideTo
  have hb := sideF_bd len
  by_cases e : sideF len = k
  · exact absurd ((hb.2.2 (by omega)).symm.trans (by rw [e])) h
  · by_cases e2 : sideF len < k
    · rw [if_pos e2, if_pos (by omega)]
    · rw [if_neg e2, if_neg (by omega)]

theorem sideTo_end (len : Int) : sideTo len 7 = sideF len := by
  unfold sideTo
  have hb := sideF_bd len
  rw [if_pos (by omega)]

theorem sideTo_bd (len k : Int) : 0 ≤ sideTo len k ∧ sideTo len k ≤ 6 := by
  unfold sideTo
  have hb := sideF_bd len
  split <;> omega

def openE (s : ByteArray) : Int := if tabN s = 0 then 3 else judgeE s (tabN s)

end Go.Proofs.YtcnbifdlkalimabGreat
