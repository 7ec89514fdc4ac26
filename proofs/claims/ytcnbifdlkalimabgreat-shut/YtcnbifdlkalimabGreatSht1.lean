/-
  The plain mathematics of translated code: how the code of a source lies in its file, expression by expression and statement by statement; no condition but those that stand in each lemma.
-/
import Derived.Test.YtcnbifdlkalimabGreatSrcC
namespace Go.Proofs.YtcnbifdlkalimabGreat
open Go.RowKit
set_option linter.unusedVariables false

/-- these bytes lie from place a on -/
def Seg (c : ByteArray) (L : List Int) (a : Nat) : Prop := ∀ (j : Nat) (x : Int), L[j]? = some x → bv c ((2 * a + j : Nat) : Int) = x
/-- the instruction at a place -/
def Ins (c : ByteArray) (i : Nat) (op arg : Int) : Prop := bv c (2 * (i : Int)) = op ∧ bv c (2 * (i : Int) + 1) = arg

theorem Seg.app {c : ByteArray} {L M : List Int} {a : Nat} (h : Seg c (L ++ M) a) (he : L.length % 2 = 0) : Seg c L a ∧ Seg c M (a + L.length / 2) := by
  refine ⟨fun j x hx => h j x (by rw [List.getElem?_append_left (List.getElem?_eq_some_iff.1 hx).1]; exact hx), fun j x hx => ?_⟩
  have := h (L.length + j) x (by rw [List.getElem?_append_right (by omega)]; rw [show L.length + j - L.length = j from by omega]; exact hx)
  rw [show 2 * (a + L.length / 2) + j = 2 * a + (L.length + j) from by omega]
  exact this
theorem Seg.ins {c : ByteArray} {op arg : Int} {a : Nat} (h : Seg c [op, arg] a) : Ins c a op arg := by
  have h0 := h 0 op rfl
  have h1 := h 1 arg rfl
  refine ⟨?_, ?_⟩
  · rw [← h0]; congr 1
  · rw [← h1]; congr 1

/-- the code of expression e lies at the places from a to b -/
structure ExAt (c : ByteArray) (ex : List Ex) (e a b : Nat) : Prop where
  lt : e < ex.length
  sg : Seg c (cod ex e) a
  b : b = a + (cod ex e).length / 2

theorem cod_at {ex : List Ex} {e : Nat} {x : Ex} (h : ExOk ex) (hx : ex[e]? = some x) : cod ex e = if x.op = 0 ∨ x.op = 1 ∨ x.op = 10 then [x.op % 256, x.v % 256] else cod ex x.l ++ cod ex x.r ++ [x.op % 256, 0] := by
  have he : e < ex.length := (List.getElem?_eq_some_iff.1 hx).1
  unfold cod
  rw [codF, hx]
  dsimp only
  by_cases hl : x.op = 0 ∨ x.op = 1 ∨ x.op = 10
  · rw [if_pos hl, if_pos hl]
  · rw [if_neg hl, if_neg hl]
    rcases h e x hx with c | ⟨c, d⟩
    · exact absurd c hl
    · rw [codF_any h (by omega) c, codF_any h (by omega) d]
      rfl

/-- an expression's code, node by node -/
theorem ex_laid {c : ByteArray} {ex : List Ex} {n : Int} {m : Nat} (hE : ExOk ex) (hB : ExB n m ex) (hn : n ≤ 6) (hm : m ≤ 8) (R : Nat → Nat → Nat → Prop)
    (h1 : ∀ e x a, ex[e]? = some x → (x.op = 0 ∨ x.op = 1 ∨ x.op = 10) → XB n m x → Ins c a x.op x.v → R e a (a + 1))
    (h2 : ∀ e x a u t, ex[e]? = some x → (3 ≤ x.op ∧ x.op ≤ 7) → ExAt c ex x.l a u → ExAt c ex x.r u t → Ins c t x.op 0 → R x.l a u → R x.r u t → R e a (t + 1)) :
    ∀ e a b, ExAt c ex e a b → R e a b := by
  have key : ∀ e, e < ex.length → ∀ a b, ExAt c ex e a b → R e a b := by
    refine ex_ind hE _ (fun e x hx hl => ?_) (fun e x hx hl i1 i2 => ?_)
    · intro a b hA
      have hb := hB x (List.mem_of_getElem? hx)
      have hc := cod_at hE hx
      rw [if_pos hl] at hc
      have hs := hA.sg
      rw [hc] at hs
      have hb2 := hA.b
      rw [hc] at hb2
      simp only [List.length_cons, List.length_nil] at hb2
      have hb2 : b = a + 1 := by omega
      have hI := hs.ins
      have e1 : x.op % 256 = x.op := by omega
      have e2 : x.v % 256 = x.v := by
        rcases hb with d | d | d | d <;> omega
      rw [e1, e2] at hI
      rw [hb2]
      exact h1 e x a hx hl hb hI
    · intro a b hA
      have hb := hB x (List.mem_of_getElem? hx)
      have hop : 3 ≤ x.op ∧ x.op ≤ 7 := by
        rcases hb with d | d | d | d
        · exact absurd (.inl d.1) hl
        · exact absurd (.inr (.inl d.1)) hl
        · exact absurd (.inr (.inr d.1)) hl
        · exact d
      have hlr : x.l < e ∧ x.r < e := by
        rcases hE e x hx with c | c
        · exact absurd c hl
        · exact c
      have he := hA.lt
      have hc := cod_at hE hx
      rw [if_neg hl] at hc
      have hs := hA.sg
      rw [hc] at hs
      have v1 := cod_even ex x.l
      have v2 := cod_even ex x.r
      have hb2 := hA.b
      rw [hc] at hb2
      simp only [List.length_append, List.length_cons, List.length_nil] at hb2
      obtain ⟨s1, s2⟩ := hs.app (by rw [List.length_append]; omega)
      obtain ⟨s3, s4⟩ := s1.app v1
      have hI := s2.ins
      rw [List.length_append, show x.op % 256 = x.op from by omega] at hI
      have A1 : ExAt c ex x.l a (a + (cod ex x.l).length / 2) := ⟨by omega, s3, rfl⟩
      have A2 : ExAt c ex x.r (a + (cod ex x.l).length / 2) (a + (cod ex x.l).length / 2 + (cod ex x.r).length / 2) := ⟨by omega, s4, rfl⟩
      have hI : Ins c (a + (cod ex x.l).length / 2 + (cod ex x.r).length / 2) x.op 0 := by
        rw [show a + (cod ex x.l).length / 2 + (cod ex x.r).length / 2 = a + ((cod ex x.l).length + (cod ex x.r).length) / 2 from by omega]; exact hI
      rw [show b = a + (cod ex x.l).length / 2 + (cod ex x.r).length / 2 + 1 from by omega]
      exact h2 e x a _ _ hx hop A1 A2 hI (i1 _ _ A1) (i2 _ _ A2)
  exact fun e a b hA => key e hA.lt a b hA

/-- the code of statement i, of statements l -/
structure StAt (c : ByteArray) (ex : List Ex) (sm : List Sm) (i a b : Nat) : Prop where
  lt : i < sm.length
  sg : Seg c (one ex sm i a) a
  b : b = a + (one ex sm i a).length / 2
structure LsAt (c : ByteArray) (ex : List Ex) (sm : List Sm) (l : List Nat) (a b : Nat) : Prop where
  lt : ∀ i, i ∈ l → i < sm.length
  sg : Seg c (als ex sm l a) a
  b : b = a + (als ex sm l a).length / 2

theorem one_is {ex : List Ex} {sm : List Sm} {i : Nat} {x : Sm} {pl : Nat} (hE : ExOk ex) (hS : SmOk ex sm) (hx : sm[i]? = some x) :
    one ex sm i pl =
      (let e := cod ex x.e
      if x.k = 61 then e ++ [2, x.v % 256]
      else if x.k = 62 then e ++ [11, x.v % 256]
      else
        let fr := pl + e.length / 2 + 1
        let body := als ex sm x.bo fr
        let th := fr + body.length / 2
        if x.k = 64 then e ++ [9, ((th + 1 : Nat) : Int) % 256] ++ body ++ [8, (pl : Int) % 256]
        else if x.two = false then e ++ [9, (th : Int) % 256] ++ body
        else
          let other := als ex sm x.el (th + 1)
          e ++ [9, ((th + 1 : Nat) : Int) % 256] ++ body ++ [8, ((th + 1 + other.length / 2 : Nat) : Int) % 256] ++ other) := by
  have hi : i < sm.length := (List.getElem?_eq_some_iff.1 hx).1
  obtain ⟨o1, o2, o3⟩ := hS i x hx
  unfold one
  rw [onF, hx]
  dsimp only
  have h1 : ∀ (l : List Nat) (pl : Nat), (∀ m, m ∈ l → m < i) → allG (onF ex sm i) l pl = als ex sm l pl := fun l pl hl => all_any hE hS fun n h => ⟨by have := hl n h; omega, hl n h⟩
  simp only [h1 x.bo _ o2, h1 x.el _ o3]

/-- what is known of a statement that was read, beside its numbers -/
def SK (x : Sm) : Prop := (x.k = 61 ∧ x.bo = [] ∧ x.el = []) ∨ (x.k = 62 ∧ x.bo = [] ∧ x.el = []) ∨ (x.k = 63 ∧ (x.two = false → x.el = [])) ∨ (x.k = 64 ∧ x.el = [])

/-- a statement's code, part by part -/
theorem st_laid {c : ByteArray} {ex : List Ex} {sm : List Sm} {n : Int} {m : Nat} (hE : ExOk ex) (hS : SmOk ex sm) (hB : ∀ x, x ∈ sm → SB n m x) (hn : n ≤ 6) (hm : m ≤ 8) (P : Nat → Nat → Nat → Prop) (Q : List Nat → Nat → Nat → Prop)
    (q0 : ∀ a, Q [] a a) (q1 : ∀ i l a u b, StAt c ex sm i a u → LsAt c ex sm l u b → P i a u → Q l u b → Q (i :: l) a b)
    (p1 : ∀ i x a u, sm[i]? = some x → x.k = 61 → ExAt c ex x.e a u → Ins c u 2 x.v → P i a (u + 1))
    (p2 : ∀ i x a u, sm[i]? = some x → x.k = 62 → ExAt c ex x.e a u → Ins c u 11 x.v → P i a (u + 1))
    (p3 : ∀ i x a u b, sm[i]? = some x → x.k = 63 → x.two = false → ExAt c ex x.e a u → Ins c u 9 (b : Nat) → LsAt c ex sm x.bo (u + 1) b → Q x.bo (u + 1) b → P i a b)
    (p4 : ∀ i x a u t b, sm[i]? = some x → x.k = 63 → x.two = true → ExAt c ex x.e a u → Ins c u 9 (t + 1 : Nat) → LsAt c ex sm x.bo (u + 1) t → Ins c t 8 (b : Nat) → LsAt c ex sm x.el (t + 1) b → Q x.bo (u + 1) t → Q x.el (t + 1) b → P i a b)
    (p5 : ∀ i x a u t, sm[i]? = some x → x.k = 64 → ExAt c ex x.e a u → Ins c u 9 (t + 1 : Nat) → LsAt c ex sm x.bo (u + 1) t → Ins c t 8 (a : Nat) → Q x.bo (u + 1) t → P i a (t + 1)) :
    (∀ i a b, b ≤ 200 → StAt c ex sm i a b → P i a b) ∧ (∀ l a b, b ≤ 200 → LsAt c ex sm l a b → Q l a b) := by
  have ql : ∀ (k : Nat), (∀ i, i < k → ∀ a b, b ≤ 200 → StAt c ex sm i a b → P i a b) → ∀ l : List Nat, (∀ i, i ∈ l → i < k) → ∀ a b, b ≤ 200 → LsAt c ex sm l a b → Q l a b := by
    intro k ih l
    induction l with
    | nil =>
      intro _ a b _ hA
      have : b = a := by have := hA.b; simp [als, allG] at this; exact this
      rw [this]; exact q0 a
    | cons i l ih2 =>
      intro hl a b hb hA
      have hs := hA.sg
      have hs : Seg c (one ex sm i a ++ als ex sm l (a + (one ex sm i a).length / 2)) a := hs
      have hbb : b = a + (one ex sm i a ++ als ex sm l (a + (one ex sm i a).length / 2)).length / 2 := hA.b
      have v1 := one_even ex sm i a
      rw [List.length_append] at hbb
      obtain ⟨s1, s2⟩ := hs.app v1
      have A1 : StAt c ex sm i a (a + (one ex sm i a).length / 2) := ⟨hA.lt i (by simp), s1, rfl⟩
      have A2 : LsAt c ex sm l (a + (one ex sm i a).length / 2) b := ⟨fun j hj => hA.lt j (by simp [hj]), s2, by omega⟩
      exact q1 i l a _ b A1 A2 (ih i (hl i (by simp)) a _ (by omega) A1) (ih2 (fun j hj => hl j (by simp [hj])) _ b hb A2)
  have key : ∀ (k i : Nat), i < k → ∀ a b, b ≤ 200 → StAt c ex sm i a b → P i a b := by
    intro k
    induction k with
    | zero => intro i h; omega
    | succ k ih =>
      intro i hik a b hb hA
      obtain ⟨x, hx⟩ : ∃ x, sm[i]? = some x := ⟨_, List.getElem?_eq_getElem hA.lt⟩
      obtain ⟨o1, o2, o3⟩ := hS i x hx
      have ho := one_is (pl := a) hE hS hx
      have hsb := hB x (List.mem_of_getElem? hx)
      have hs := hA.sg
      have hbb := hA.b
      rw [ho] at hs hbb
      have v1 := cod_even ex x.e
      have lsq : ∀ l : List Nat, (∀ m, m ∈ l → m < i) → ∀ a b, b ≤ 200 → LsAt c ex sm l a b → Q l a b := fun l hl => ql i (fun j hj => ih j (by omega)) l hl
      have hlt : ∀ l : List Nat, (∀ m, m ∈ l → m < i) → ∀ m, m ∈ l → m < sm.length := fun l hl m hm => by have := hl m hm; have := hA.lt; omega
      dsimp only at hs hbb
      by_cases k1 : x.k = 61
      · rw [if_pos k1] at hs hbb
        have hv : x.v % 256 = x.v := by rcases hsb with d | d | d | d <;> omega
        obtain ⟨s1, s2⟩ := hs.app v1
        have hI := s2.ins
        rw [hv] at hI
        simp only [List.length_append, List.length_cons, List.length_nil] at hbb
        rw [show b = a + (cod ex x.e).length / 2 + 1 from by omega]
        exact p1 i x a _ hx k1 ⟨o1, s1, rfl⟩ hI
      rw [if_neg k1] at hs hbb
      by_cases k2 : x.k = 62
      · rw [if_pos k2] at hs hbb
        have hv : x.v % 256 = x.v := by rcases hsb with d | d | d | d <;> omega
        obtain ⟨s1, s2⟩ := hs.app v1
        have hI := s2.ins
        rw [hv] at hI
        simp only [List.length_append, List.length_cons, List.length_nil] at hbb
        rw [show b = a + (cod ex x.e).length / 2 + 1 from by omega]
        exact p2 i x a _ hx k2 ⟨o1, s1, rfl⟩ hI
      rw [if_neg k2] at hs hbb
      have v2 := all_even ex sm x.bo (a + (cod ex x.e).length / 2 + 1)
      generalize hu : a + (cod ex x.e).length / 2 = u at *
      generalize ht : u + 1 + (als ex sm x.bo (u + 1)).length / 2 = t at *
      by_cases k4 : x.k = 64
      · rw [if_pos k4] at hs hbb
        simp only [List.length_append, List.length_cons, List.length_nil] at hbb
        have hb2 : b = t + 1 := by omega
        obtain ⟨s1, s2⟩ := hs.app (by simp only [List.length_append, List.length_cons, List.length_nil]; omega)
        obtain ⟨s3, s4⟩ := s1.app (by simp only [List.length_append, List.length_cons, List.length_nil]; omega)
        obtain ⟨s5, s6⟩ := s3.app v1
        simp only [List.length_append, List.length_cons, List.length_nil] at s2 s4
        rw [show a + ((cod ex x.e).length + (0 + 1 + 1)) / 2 = u + 1 from by omega] at s4
        rw [show a + ((cod ex x.e).length + (0 + 1 + 1) + (als ex sm x.bo (u + 1)).length) / 2 = t from by omega] at s2
        rw [hu] at s6
        have I1 := s6.ins
        have I2 := s2.ins
        rw [show ((t + 1 : Nat) : Int) % 256 = (t + 1 : Nat) from by omega] at I1
        rw [show ((a : Nat) : Int) % 256 = (a : Nat) from by omega] at I2
        have A2 : LsAt c ex sm x.bo (u + 1) t := ⟨hlt _ o2, s4, ht.symm⟩
        rw [hb2]
        exact p5 i x a u t hx k4 ⟨o1, s5, hu.symm⟩ I1 A2 I2 (lsq _ o2 _ _ (by omega) A2)
      rw [if_neg k4] at hs hbb
      have k3 : x.k = 63 := by rcases hsb with d | d | d | d <;> omega
      cases h2 : x.two with
      | false =>
        rw [if_pos h2] at hs hbb
        simp only [List.length_append, List.length_cons, List.length_nil] at hbb
        have hb2 : b = t := by omega
        obtain ⟨s3, s4⟩ := hs.app (by simp only [List.length_append, List.length_cons, List.length_nil]; omega)
        obtain ⟨s5, s6⟩ := s3.app v1
        simp only [List.length_append, List.length_cons, List.length_nil] at s4
        rw [show a + ((cod ex x.e).length + (0 + 1 + 1)) / 2 = u + 1 from by omega] at s4
        rw [hu] at s6
        have I1 := s6.ins
        rw [show ((t : Nat) : Int) % 256 = (t : Nat) from by omega] at I1
        have A2 : LsAt c ex sm x.bo (u + 1) t := ⟨hlt _ o2, s4, ht.symm⟩
        rw [hb2]
        exact p3 i x a u t hx k3 h2 ⟨o1, s5, hu.symm⟩ I1 A2 (lsq _ o2 _ _ (by omega) A2)
      | true =>
        rw [if_neg (by rw [h2]; simp)] at hs hbb
        have v3 := all_even ex sm x.el (t + 1)
        simp only [List.length_append, List.length_cons, List.length_nil] at hbb
        have hb2 : b = t + 1 + (als ex sm x.el (t + 1)).length / 2 := by omega
        obtain ⟨s0, s9⟩ := hs.app (by simp only [List.length_append, List.length_cons, List.length_nil]; omega)
        obtain ⟨s1, s2⟩ := s0.app (by simp only [List.length_append, List.length_cons, List.length_nil]; omega)
        obtain ⟨s3, s4⟩ := s1.app (by simp only [List.length_append, List.length_cons, List.length_nil]; omega)
        obtain ⟨s5, s6⟩ := s3.app v1
        simp only [List.length_append, List.length_cons, List.length_nil] at s2 s4 s9
        rw [show a + ((cod ex x.e).length + (0 + 1 + 1)) / 2 = u + 1 from by omega] at s4
        rw [show a + ((cod ex x.e).length + (0 + 1 + 1) + (als ex sm x.bo (u + 1)).length) / 2 = t from by omega] at s2
        rw [show a + ((cod ex x.e).length + (0 + 1 + 1) + (als ex sm x.bo (u + 1)).length + (0 + 1 + 1)) / 2 = t + 1 from by omega] at s9
        rw [hu] at s6
        have I1 := s6.ins
        have I2 := s2.ins
        rw [show ((t + 1 : Nat) : Int) % 256 = (t + 1 : Nat) from by omega] at I1
        rw [← hb2, show ((b : Nat) : Int) % 256 = (b : Nat) from by omega] at I2
        have A2 : LsAt c ex sm x.bo (u + 1) t := ⟨hlt _ o2, s4, ht.symm⟩
        have A3 : LsAt c ex sm x.el (t + 1) b := ⟨hlt _ o3, s9, hb2⟩
        exact p4 i x a u t b hx k3 h2 ⟨o1, s5, hu.symm⟩ I1 A2 I2 A3 (lsq _ o2 _ _ (by omega) A2) (lsq _ o3 _ _ (by omega) A3)
  refine ⟨fun i a b hb hA => key (i + 1) i (by omega) a b hb hA, fun l a b hb hA => ?_⟩
  exact ql sm.length (fun i hi => key (i + 1) i (by omega)) l hA.lt a b hb hA
end Go.Proofs.YtcnbifdlkalimabGreat
