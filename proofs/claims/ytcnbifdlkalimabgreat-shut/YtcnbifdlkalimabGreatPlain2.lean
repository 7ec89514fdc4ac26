/-
  The plain mathematics of tables, second part: the table upside down; that the program's searches and the document's find the same; no condition but those that stand in each lemma.
-/
import Derived.Test.YtcnbifdlkalimabGreatPlain
namespace Go.Proofs.YtcnbifdlkalimabGreat
open Go.RowKit

/-- t holds the rows of s's table upside down, up to place a, b -/
structure Turned (s t : ByteArray) (n : Int) (a b : Nat) : Prop where
  size : (t.size : Int) = a * n + b
  bytes : ∀ i j : Nat, (j : Int) < n → (i : Int) * n + j < t.size → byt t (i * n + j) = byt s (j * n + i)

theorem Turned.start (s : ByteArray) (n : Int) : Turned s { data := #[] } n 0 0 :=
  ⟨by simp [ByteArray.size], fun i j _ h2 => by simp [ByteArray.size] at h2; have := Int.mul_nonneg (a := (i : Int)) (b := n) (by omega) (by omega); omega⟩

theorem Turned.small {s t : ByteArray} {n : Int} {a b : Nat} (h : Turned s t n a b) (h36 : n * n ≤ 36) (ha : (a : Int) < n) (hb : (b : Int) ≤ n) : t.size ≤ 36 := by
  have h1 := h.size
  have h2 : (a : Int) * n ≤ (n - 1) * n := Int.mul_le_mul_of_nonneg_right (by omega) (by omega)
  rw [Int.sub_mul] at h2
  omega

theorem byt_left (t u : ByteArray) (k : Int) (h : k.toNat < t.size) : byt (t ++ u) k = byt t k := by
  unfold byt
  rw [List.getD_eq_getElem?_getD, List.getD_eq_getElem?_getD]
  simp only [ByteArray.data_append, Array.toList_append]
  rw [List.getElem?_append_left (by simpa using h)]

theorem byt_right (t u : ByteArray) (k : Int) (h : t.size ≤ k.toNat) : byt (t ++ u) k = byt u (k - t.size) := by
  unfold byt
  rw [List.getD_eq_getElem?_getD, List.getD_eq_getElem?_getD]
  simp only [ByteArray.data_append, Array.toList_append]
  rw [List.getElem?_append_right (by simpa using h)]
  congr 2
  simp only [Array.length_toList]
  show k.toNat - t.size = _
  omega

theorem byt_cut (s : ByteArray) (a b k : Nat) (hb : b ≤ s.size) (h : a + k < b) : byt (s.extract a b) k = byt s (a + k : Nat) := by
  unfold byt
  rw [List.getD_eq_getElem?_getD, List.getD_eq_getElem?_getD]
  simp only [ByteArray.data_extract, Int.toNat_natCast, Array.getElem?_toList]
  rw [Array.getElem?_extract, if_pos (by have : s.data.size = s.size := rfl; omega)]

theorem Turned.more {s t : ByteArray} {n : Int} {k m : Nat} (h : Turned s t n k m) (_hk : (k : Int) < n) (hm : (m : Int) < n) (hs : (m : Int) * n + k < s.size) :
    Turned s (t ++ s.extract ((m : Int) * n + k).toNat ((m : Int) * n + k + 1).toNat) n k (m + 1) := by
  have hn : 0 ≤ (m : Int) * n := Int.mul_nonneg (by omega) (by omega)
  have hsz := h.size
  have he : (s.extract ((m : Int) * n + k).toNat ((m : Int) * n + k + 1).toNat).size = 1 := by
    rw [ByteArray.size_extract]; omega
  have hz : (t ++ s.extract ((m : Int) * n + k).toNat ((m : Int) * n + k + 1).toNat).size = t.size + 1 := by
    rw [ByteArray.size_append, he]
  refine ⟨by rw [hz]; omega, ?_⟩
  intro i j hj hlt
  rw [hz] at hlt
  have hi : 0 ≤ (i : Int) * n := Int.mul_nonneg (by omega) (by omega)
  by_cases hl : (i : Int) * n + j < t.size
  · rw [byt_left _ _ _ (by omega)]
    exact h.bytes i j hj hl
  · have heq : (i : Int) * n + j = k * n + m := by omega
    have hik : i = k := by
      by_cases a : i < k
      · have : ((i : Int) + 1) * n ≤ (k : Int) * n := Int.mul_le_mul_of_nonneg_right (by omega) (by omega)
        rw [Int.add_mul] at this
        omega
      · by_cases b : k < i
        · have : ((k : Int) + 1) * n ≤ (i : Int) * n := Int.mul_le_mul_of_nonneg_right (by omega) (by omega)
          rw [Int.add_mul] at this
          omega
        · omega
    subst hik
    obtain rfl : j = m := by omega
    rw [byt_right _ _ _ (by omega)]
    have e0 : (i : Int) * n + j - t.size = ((0 : Nat) : Int) := by omega
    rw [e0, byt_cut _ _ _ _ (by omega) (by omega)]
    congr 1
    omega

theorem Turned.row {s t : ByteArray} {n : Int} {k m : Nat} (h : Turned s t n k m) (hm : (m : Int) = n) : Turned s t n (k + 1) 0 := by
  refine ⟨?_, h.bytes⟩
  rw [h.size, hm]
  have : ((k + 1 : Nat) : Int) = (k : Int) + 1 := by omega
  rw [this, Int.add_mul]
  omega

theorem Turned.tab {s t : ByteArray} {n : Int} (h : Turned s t n n.toNat 0) (ht : Tab s n) : Tab t n := by
  have e : ((n.toNat : Nat) : Int) = n := by have := ht.lo; omega
  have hs := h.size
  rw [e] at hs
  exact ⟨ht.lo, ht.hi, by omega⟩

theorem Turned.le {s t : ByteArray} {n : Int} (h : Turned s t n n.toNat 0) (ht : Tab s n) (a b : Int) (ha : 0 ≤ a) (ha' : a < n) (hb : 0 ≤ b) (hb' : b < n) : le t n a b = le s n b a := by
  have e : ((n.toNat : Nat) : Int) = n := by have := ht.lo; omega
  have hs := h.size
  rw [e] at hs
  obtain ⟨h1, h2⟩ := ix_lt n a b ha ha' hb'
  have hb2 := h.bytes a.toNat b.toNat (by omega) (by rw [Int.toNat_of_nonneg ha, Int.toNat_of_nonneg hb]; omega)
  rw [Int.toNat_of_nonneg ha, Int.toNat_of_nonneg hb] at hb2
  unfold Go.Proofs.YtcnbifdlkalimabGreat.le
  rw [hb2]

theorem Turned.meet {s t : ByteArray} {n : Int} (h : Turned s t n n.toNat 0) (ht : Tab s n) (a b : Int) (ha : 0 ≤ a) (ha' : a < n) (hb : 0 ≤ b) (hb' : b < n) : rJoin t n a b = rMeet s n a b := by
  refine firstTo_congr (fun j hj => ?_)
  have hA : ∀ c : Nat, c < n.toNat → pAbove t n a b c = pBelow s n a b c := by
    intro c hc
    unfold pAbove pBelow
    rw [h.le ht a c ha ha' (by omega) (by omega), h.le ht b c hb hb' (by omega) (by omega)]
  unfold rIsJoin rIsMeet
  rw [hA j hj]
  congr 1
  refine allTo_congr (fun c hc => ?_)
  rw [hA c hc, h.le ht j c (by omega) (by omega) (by omega) (by omega)]

/-! ### the program's searches find what the document's find -/

theorem order_same (s : ByteArray) (n : Int) : pOrder s n = rOrder s n := by
  rw [Bool.eq_iff_iff]
  unfold pOrder rOrder pRefl pAnti pTrans pReach
  simp only [Bool.and_eq_true, allTo_true]
  constructor
  · rintro ⟨h1, h2, h3⟩ a ha b hb
    unfold rOrdAt
    rw [Bool.and_eq_true, allTo_true]
    have hr := h1 a ha
    have ht := h3 a ha b hb
    constructor
    · by_cases e : a = b
      · subst e; simp [hr]
      · have e1 : ((a : Int) == (b : Int)) = false := by simp; omega
        have e2 : ((a : Int) != (b : Int)) = true := by simp; omega
        rw [e1, e2]
        cases hab : le s n a b with
        | false => simp
        | true =>
          cases hba : le s n b a with
          | false => simp
          | true =>
            exfalso
            by_cases l : a < b
            · have := h2 a ha b hb
              have nl : ¬ (b : Int) ≤ a := by omega
              simp [hab, hba, nl] at this
            · have := h2 b hb a ha
              have nl : ¬ (a : Int) ≤ b := by omega
              simp [hab, hba, nl] at this
    · intro c hc
      cases hab : le s n a b with
      | false => simp
      | true =>
        rw [hab] at ht
        simp only [Bool.not_true, Bool.false_or, allTo_true] at ht
        have := ht c hc
        cases hbc : le s n b c with
        | false => simp
        | true => rw [hbc] at this; simp at this; simp [this]
  · intro h
    have hh : ∀ a : Nat, a < n.toNat → ∀ b : Nat, b < n.toNat → ((!((((a : Int) == b) && !(le s n a b)) || (((a : Int) != b) && (le s n a b && le s n b a)))) = true ∧ ∀ c : Nat, c < n.toNat → (!(le s n a b && (le s n b c && !(le s n a c)))) = true) := by
      intro a ha b hb
      have := h a ha b hb
      unfold rOrdAt at this
      rw [Bool.and_eq_true, allTo_true] at this
      exact this
    refine ⟨fun a ha => ?_, fun a ha b hb => ?_, fun a ha b hb => ?_⟩
    · have := (hh a ha a ha).1
      simpa using this
    · by_cases l : (b : Int) ≤ a
      · simp [l]
      · have := (hh a ha b hb).1
        have e1 : ((a : Int) == (b : Int)) = false := by simp; omega
        have e2 : ((a : Int) != (b : Int)) = true := by simp; omega
        rw [e1, e2] at this
        simp only [Bool.false_and, Bool.false_or, Bool.true_and] at this
        rw [this]
        simp
    · cases hab : le s n a b with
      | false => simp
      | true =>
        simp only [Bool.not_true, Bool.false_or, allTo_true]
        intro c hc
        have := (hh a ha b hb).2 c hc
        rw [hab] at this
        cases hbc : le s n b c with
        | false => simp
        | true => rw [hbc] at this; simpa using this

theorem refl_of {s : ByteArray} {n : Int} (h : pOrder s n = true) (a : Nat) (ha : a < n.toNat) : le s n a a = true := by
  unfold pOrder pRefl at h
  rw [Bool.and_eq_true, allTo_true] at h
  exact h.1 a ha

theorem join_same {s : ByteArray} {n : Int} (h : pOrder s n = true) (a b : Int) : pJoin s n a b = rJoin s n a b := by
  refine firstTo_congr (fun j hj => ?_)
  unfold pIsJoin rIsJoin
  congr 1
  refine allTo_congr (fun c hc => ?_)
  by_cases e : c = j
  · subst e; simp [refl_of h c hc]
  · have : ((c : Int) == (j : Int)) = false := by simp; omega
    rw [this, Bool.false_or]

theorem meet_same {s : ByteArray} {n : Int} (h : pOrder s n = true) (a b : Int) : pMeet s n a b = rMeet s n a b := by
  refine firstTo_congr (fun j hj => ?_)
  unfold pIsMeet rIsMeet
  congr 1
  refine allTo_congr (fun c hc => ?_)
  by_cases e : c = j
  · subst e; simp [refl_of h c hc]
  · have : ((c : Int) == (j : Int)) = false := by simp; omega
    rw [this, Bool.false_or]

theorem lat_same {s : ByteArray} {n : Int} (h : pOrder s n = true) : pLat s n = rLat s n := by
  refine allTo_congr (fun a _ => ?_)
  refine allTo_congr (fun b _ => ?_)
  rw [join_same h, meet_same h]

/-- the error that the document gives a table -/
def levE (s : ByteArray) : Int := if tabN s = 0 then 3 else if rOrder s (tabN s) then (if rLat s (tabN s) then 0 else 5) else 4

/-- how many levels the document gives a table; 0 beside an error -/
def levN (s : ByteArray) : Int := if levE s = 0 then tabN s else 0

theorem lev_err {s : ByteArray} {e : Int} (h : levE s = e) (he : e ≠ 0) : levN s = 0 := by
  unfold levN
  rw [if_neg (by omega)]

theorem lev_ok {s : ByteArray} (h : levE s = 0) : levN s = tabN s := by
  unfold levN
  rw [if_pos h]

theorem levE_same (s : ByteArray) : openE s = levE s := by
  unfold openE levE judgeE
  split
  · rfl
  · rw [order_same]
    cases e : rOrder s (tabN s) with
    | false => rfl
    | true => rw [lat_same (by rw [order_same]; exact e)]

/-- of a table that is a lattice every two levels have a join and a meet -/
theorem lat_some {s : ByteArray} {n : Int} (h : rLat s n = true) (a b : Int) (ha : 0 ≤ a) (ha' : a < n) (hb : 0 ≤ b) (hb' : b < n) : (rJoin s n a b).isSome = true ∧ (rMeet s n a b).isSome = true := by
  unfold rLat at h
  rw [allTo_true] at h
  have h1 := h a.toNat (by omega)
  rw [allTo_true] at h1
  have h2 := h1 b.toNat (by omega)
  rw [Int.toNat_of_nonneg ha, Int.toNat_of_nonneg hb, Bool.and_eq_true] at h2
  exact h2

/-- the table's text; empty beside an error -/
def tabS (s : ByteArray) : ByteArray := if tabN s = 0 then { data := #[] } else s
def levS (s : ByteArray) : ByteArray := if levE s = 0 then s else { data := #[] }

theorem levE_0 {s : ByteArray} (h : levE s = 0) : tabN s ≠ 0 ∧ rOrder s (tabN s) = true ∧ rLat s (tabN s) = true := by
  unfold levE at h
  split at h
  · omega
  · split at h
    · split at h
      · exact ⟨by assumption, by assumption, by assumption⟩
      · omega
    · omega

/-- the numbers that the document's Join and Meet answer -/
def inTab (s : ByteArray) (a b : Int) : Bool := decide (0 ≤ a ∧ a < tabN s ∧ 0 ≤ b ∧ b < tabN s)
def askE (s : ByteArray) (a b : Int) : Int := if levE s = 0 then (if inTab s a b then 0 else 10) else levE s
def askJ (s : ByteArray) (a b : Int) : Int := if askE s a b = 0 then (rJoin s (tabN s) a b).getD 0 else 0
def askM (s : ByteArray) (a b : Int) : Int := if askE s a b = 0 then (rMeet s (tabN s) a b).getD 0 else 0

theorem ask_lev {s : ByteArray} {a b : Int} (h : levE s ≠ 0) : askE s a b = levE s ∧ askJ s a b = 0 ∧ askM s a b = 0 := by
  have : askE s a b = levE s := by unfold askE; rw [if_neg h]
  refine ⟨this, ?_, ?_⟩
  · unfold askJ; rw [this, if_neg h]
  · unfold askM; rw [this, if_neg h]

theorem ask_out {s : ByteArray} {a b : Int} (h : levE s = 0) (h2 : ¬ (0 ≤ a ∧ a < tabN s ∧ 0 ≤ b ∧ b < tabN s)) : askE s a b = 10 ∧ askJ s a b = 0 ∧ askM s a b = 0 := by
  have : askE s a b = 10 := by unfold askE inTab; rw [if_pos h, decide_eq_false h2]; rfl
  refine ⟨this, ?_, ?_⟩
  · unfold askJ; rw [this]; rfl
  · unfold askM; rw [this]; rfl

theorem ask_in {s : ByteArray} {a b : Int} (h : levE s = 0) (h2 : 0 ≤ a ∧ a < tabN s ∧ 0 ≤ b ∧ b < tabN s) : askE s a b = 0 ∧ (rJoin s (tabN s) a b) = some (askJ s a b) ∧ (rMeet s (tabN s) a b) = some (askM s a b) := by
  have : askE s a b = 0 := by unfold askE inTab; rw [if_pos h, decide_eq_true h2]; rfl
  obtain ⟨h3, h4⟩ := lat_some (levE_0 h).2.2 a b h2.1 h2.2.1 h2.2.2.1 h2.2.2.2
  refine ⟨this, ?_, ?_⟩
  · unfold askJ; rw [this, if_pos rfl]
    cases e : rJoin s (tabN s) a b with
    | none => rw [e] at h3; exact absurd h3 (by simp)
    | some x => rfl
  · unfold askM; rw [this, if_pos rfl]
    cases e : rMeet s (tabN s) a b with
    | none => rw [e] at h4; exact absurd h4 (by simp)
    | some x => rfl

/-- block b is a box of two cells that may be written -/
structure Own2 (wr : World) (b : Nat) (x y : Value) : Prop where
  lt : b < wr.heap.size
  c0 : wr.cell? ⟨b, 0, none⟩ = some x
  c1 : wr.cell? ⟨b, 1, none⟩ = some y
  f0 : wr.frozen? ⟨b, 0, none⟩ = false
  f1 : wr.frozen? ⟨b, 1, none⟩ = false

theorem Own2.step {wr w1 : World} {b : Nat} {x y : Value} (h : Own2 wr b x y) (hb : Below wr.heap.size wr w1) : Own2 w1 b x y :=
  ⟨Nat.lt_of_lt_of_le h.lt hb.size, by rw [hb.cell (p := ⟨b, 0, none⟩) h.lt]; exact h.c0, by rw [hb.cell (p := ⟨b, 1, none⟩) h.lt]; exact h.c1, by rw [hb.frozen (p := ⟨b, 0, none⟩) h.lt]; exact h.f0, by rw [hb.frozen (p := ⟨b, 1, none⟩) h.lt]; exact h.f1⟩

theorem Own2.new (w : World) (x y : Value) (t : TypeId) : Own2 (w.alloc (.cells #[x, y] t)) w.heap.size x y :=
  ⟨by simp, by simp [go_sem], by simp [go_sem], by simp [go_sem], by simp [go_sem]⟩

theorem Own2.alloc {wr : World} {b : Nat} {x y : Value} (h : Own2 wr b x y) (o : Obj) : Own2 (wr.alloc o) b x y :=
  h.step ((Below.refl _ _).alloc (Nat.le_refl _) _)

/-- the number is a level -/
def inLev (a n : Int) : Bool := decide (0 ≤ a ∧ a < n)
theorem inLev_t {a n : Int} (h : 0 ≤ a ∧ a < n) : inLev a n = true := decide_eq_true h
theorem inLev_f {a n : Int} (h : ¬ (0 ≤ a ∧ a < n)) : inLev a n = false := decide_eq_false h

/-- what 'openWith' hands on -/
def askN (s : ByteArray) (a b : Int) : Int := if askE s a b = 0 then tabN s else 0
def askS (s : ByteArray) (a b : Int) : ByteArray := if askE s a b = 0 then s else { data := #[] }
theorem ask_no {s : ByteArray} {a b : Int} (h : askE s a b ≠ 0) : askN s a b = 0 ∧ askS s a b = { data := #[] } ∧ askJ s a b = 0 ∧ askM s a b = 0 := by
  unfold askN askS askJ askM
  rw [if_neg h, if_neg h, if_neg h, if_neg h]
  exact ⟨rfl, rfl, rfl, rfl⟩
theorem ask_yes {s : ByteArray} {a b : Int} (h : askE s a b = 0) : askN s a b = tabN s ∧ askS s a b = s ∧ levE s = 0 ∧ (0 ≤ a ∧ a < tabN s ∧ 0 ≤ b ∧ b < tabN s) := by
  unfold askN askS
  rw [if_pos h, if_pos h]
  refine ⟨rfl, rfl, ?_⟩
  by_cases h0 : levE s = 0
  · refine ⟨h0, ?_⟩
    by_cases h2 : 0 ≤ a ∧ a < tabN s ∧ 0 ≤ b ∧ b < tabN s
    · exact h2
    · have := (ask_out (a := a) (b := b) h0 h2).1
      omega
  · have := (ask_lev (a := a) (b := b) h0).1
    omega
end Go.Proofs.YtcnbifdlkalimabGreat
