/-
  The plain mathematics of translated code: heights; what flows to the value of an expression; no condition but those that stand in each lemma.
-/
import Derived.Test.YtcnbifdlkalimabGreatSht4
namespace Go.Proofs.YtcnbifdlkalimabGreat
open Go.RowKit
set_option linter.unusedVariables false

/-- the height ahead of place i, on the way from place 0 on -/
def hc (c : ByteArray) : Nat → Int
  | 0 => 0
  | i + 1 => hc c i + givesAt c i - takesAt c i

/-- places where the heights fit -/
def HFit (c : ByteArray) (i : Nat) : Prop := takesAt c i ≤ hc c i ∧ ∀ j : Int, j ∈ nxt c i → hc c j.toNat = hc c i - takesAt c i + givesAt c i
theorem fit_on {c : ByteArray} {i : Nat} (h8 : bv c (2 * (i : Int)) ≠ 8) (h9 : bv c (2 * (i : Int)) ≠ 9) (ht : takesAt c i ≤ hc c i) : HFit c i :=
  ⟨ht, fun j hj => by
    rw [nxt_on h8 h9, List.mem_singleton] at hj
    rw [show j.toNat = i + 1 from by omega]
    simp only [hc]
    omega⟩
theorem tg_leaf {c : ByteArray} {i : Nat} {op v : Int} (h : Ins c i op v) (hop : op = 0 ∨ op = 1 ∨ op = 10) : takesAt c i = 0 ∧ givesAt c i = 1 := by
  unfold takesAt givesAt
  rw [h.1]
  rcases hop with e | e | e <;> rw [e] <;> exact ⟨rfl, rfl⟩
theorem tg_two {c : ByteArray} {i : Nat} {op v : Int} (h : Ins c i op v) (hop : 3 ≤ op ∧ op ≤ 7) : takesAt c i = 2 ∧ givesAt c i = 1 := by
  unfold takesAt givesAt
  rw [h.1]
  rcases (show op = 3 ∨ op = 4 ∨ op = 5 ∨ op = 6 ∨ op = 7 from by omega) with e | e | e | e | e <;> rw [e] <;> exact ⟨rfl, rfl⟩
theorem tg_sink {c : ByteArray} {i : Nat} {op v : Int} (h : Ins c i op v) (hop : op = 2 ∨ op = 9 ∨ op = 11) : takesAt c i = 1 ∧ givesAt c i = 0 := by
  unfold takesAt givesAt
  rw [h.1]
  rcases hop with e | e | e <;> rw [e] <;> exact ⟨rfl, rfl⟩
theorem tg_jump {c : ByteArray} {i : Nat} {v : Int} (h : Ins c i 8 v) : takesAt c i = 0 ∧ givesAt c i = 0 := by
  unfold takesAt givesAt
  rw [h.1]
  exact ⟨rfl, rfl⟩

/-- what is known of the places of an expression -/
structure ExF (c v T : ByteArray) (n : Int) (vs : List Int) (ex : List Ex) (e a b : Nat) : Prop where
  lt : a < b
  hb : hc c b = hc c a + 1
  h : ∀ i : Nat, a ≤ i → i < b → hc c a + takesAt c i ≤ hc c i
  op : ∀ i : Nat, a ≤ i → i < b → (bv c (2 * (i : Int)) = 0 ∨ bv c (2 * (i : Int)) = 1 ∨ bv c (2 * (i : Int)) = 10) ∨ (3 ≤ bv c (2 * (i : Int)) ∧ bv c (2 * (i : Int)) ≤ 7)
  rd : ∀ i : Nat, a ≤ i → i < b → ∀ j : Nat, ((bv c (2 * (i : Int)) = 1 ∧ bv v (bv c (2 * (i : Int) + 1)) = j) ∨ (bv c (2 * (i : Int)) = 10 ∧ bv c (2 * (i : Int) + 1) = j)) → reads vs ex e j = true
  dr : ∀ c0, drawX T n c0 ex e = true → ∀ i : Nat, a ≤ i → i < b → bv c (2 * (i : Int)) = 10 → le T n c0 (bv c (2 * (i : Int) + 1)) = true
  nl : ∀ i : Nat, a ≤ i → i < b → bv c (2 * (i : Int)) = 10 → Lv n (bv c (2 * (i : Int) + 1))
  nd : ∀ c0, drawX T n c0 ex e = false → ∃ i : Nat, a ≤ i ∧ i < b ∧ bv c (2 * (i : Int)) = 10 ∧ le T n c0 (bv c (2 * (i : Int) + 1)) = false

section
variable {c v T : ByteArray} {ex : List Ex} {sm : List Sm} {n : Int} {vs : List Int}
theorem ex_f (hE : ExOk ex) (hX : ExB n vs.length ex) (hn : n ≤ 6) (hm : vs.length ≤ 8) (hv : ∀ x : Int, 0 ≤ x → x < vs.length → bv v x = vs.getD x.toNat 0) : ∀ e a b, ExAt c ex e a b → ExF c v T n vs ex e a b := by
  refine ex_laid hE hX hn hm _ (fun e x a hx hl hb hI => ?_) (fun e x a u t hx hop A1 A2 hI i1 i2 => ?_)
  · obtain ⟨t0, g1⟩ := tg_leaf hI hl
    have one : ∀ i : Nat, a ≤ i → i < a + 1 → i = a := fun i h1 h2 => by omega
    refine ⟨by omega, by simp only [hc]; omega, fun i h1 h2 => by rw [one i h1 h2]; omega, fun i h1 h2 => by rw [one i h1 h2, hI.1]; exact .inl hl, fun i h1 h2 j hj => ?_, fun c0 hd i h1 h2 h10 => ?_, fun i h1 h2 h10 => ?_, fun c0 hd => ?_⟩
    · rw [one i h1 h2, hI.1, hI.2] at hj
      unfold reads
      rw [fol_at _ _ _ hE hx, if_pos hl]
      unfold rdsL lfL
      rw [Bool.and_eq_true]
      rcases hj with ⟨h, hj⟩ | ⟨h, hj⟩
      · refine ⟨decide_eq_true (by omega), decide_eq_true ?_⟩
        rw [if_pos h]
        have : 0 ≤ x.v ∧ x.v < vs.length := by rcases hb with d | d | d | d <;> omega
        rw [← hv x.v this.1 this.2]
        exact hj.symm
      · refine ⟨decide_eq_true (by omega), decide_eq_true ?_⟩
        rw [if_neg (by omega)]
        exact hj.symm
    · rw [one i h1 h2, hI.1] at h10
      rw [one i h1 h2, hI.2]
      unfold drawX at hd
      rw [fol_at _ _ _ hE hx, if_pos hl, if_pos h10] at hd
      exact hd
    · rw [one i h1 h2, hI.1] at h10
      rw [one i h1 h2, hI.2]
      rcases hb with d | d | d | d
      · omega
      · omega
      · exact d.2
      · omega
    · unfold drawX at hd
      rw [fol_at _ _ _ hE hx, if_pos hl] at hd
      by_cases h10 : x.op = 10
      · rw [if_pos h10] at hd
        exact ⟨a, Nat.le_refl _, by omega, by rw [hI.1]; exact h10, by rw [hI.2]; exact hd⟩
      · rw [if_neg h10] at hd
        exact absurd hd (by simp)
  · obtain ⟨t2, g1⟩ := tg_two hI hop
    have l1 := i1.lt
    have l2 := i2.lt
    have b1 := i1.hb
    have b2 := i2.hb
    have hnl : ¬ (x.op = 0 ∨ x.op = 1 ∨ x.op = 10) := by omega
    have part : ∀ i : Nat, a ≤ i → i < t + 1 → (a ≤ i ∧ i < u) ∨ (u ≤ i ∧ i < t) ∨ i = t := fun i h1 h2 => by omega
    refine ⟨by omega, by simp only [hc]; omega, fun i h1 h2 => ?_, fun i h1 h2 => ?_, fun i h1 h2 j hj => ?_, fun c0 hd i h1 h2 h10 => ?_, fun i h1 h2 h10 => ?_, fun c0 hd => ?_⟩
    · rcases part i h1 h2 with ⟨k1, k2⟩ | ⟨k1, k2⟩ | k
      · exact i1.h i k1 k2
      · have := i2.h i k1 k2; omega
      · rw [k]; omega
    · rcases part i h1 h2 with ⟨k1, k2⟩ | ⟨k1, k2⟩ | k
      · exact i1.op i k1 k2
      · exact i2.op i k1 k2
      · rw [k, hI.1]; exact .inr hop
    · unfold reads
      rw [fol_at _ _ _ hE hx, if_neg hnl, Bool.or_eq_true]
      rcases part i h1 h2 with ⟨k1, k2⟩ | ⟨k1, k2⟩ | k
      · exact .inl (i1.rd i k1 k2 j hj)
      · exact .inr (i2.rd i k1 k2 j hj)
      · rw [k, hI.1] at hj
        omega
    · unfold drawX at hd
      rw [fol_at _ _ _ hE hx, if_neg hnl, Bool.and_eq_true] at hd
      rcases part i h1 h2 with ⟨k1, k2⟩ | ⟨k1, k2⟩ | k
      · exact i1.dr c0 hd.1 i k1 k2 h10
      · exact i2.dr c0 hd.2 i k1 k2 h10
      · rw [k, hI.1] at h10
        omega
    · rcases part i h1 h2 with ⟨k1, k2⟩ | ⟨k1, k2⟩ | k
      · exact i1.nl i k1 k2 h10
      · exact i2.nl i k1 k2 h10
      · rw [k, hI.1] at h10
        omega
    · unfold drawX at hd
      rw [fol_at _ _ _ hE hx, if_neg hnl, Bool.and_eq_false_iff] at hd
      rcases hd with hd | hd
      · obtain ⟨i, k1, k2, k3⟩ := i1.nd c0 hd
        exact ⟨i, k1, by omega, k3⟩
      · obtain ⟨i, k1, k2, k3⟩ := i2.nd c0 hd
        exact ⟨i, by omega, by omega, k3⟩

/-- a value that lies beneath an expression stays -/
theorem ExF.carry {e a b : Nat} (F : ExF c v T n vs ex e a b) (hb : (b : Int) ≤ half c) (HL : ∀ p : Int, 0 ≤ p → p ≤ half c → Live c p) {l d : Int} (h0 : 0 ≤ d) (hd : d < hc c a) (hf : Flow c v (hc c) l a d) : Flow c v (hc c) l b d := by
  have key : ∀ k : Nat, a + k ≤ b → Flow c v (hc c) l (a + k : Nat) d := by
    intro k
    induction k with
    | zero => intro _; exact hf
    | succ k ih =>
      intro hk
      have h1 := F.h (a + k) (by omega) (by omega)
      have ho := F.op (a + k) (by omega) (by omega)
      have E : Edge c ((a + k : Nat) : Int) ((a + (k + 1) : Nat) : Int) := ⟨by omega, by omega, by rw [nxt_on (by omega) (by omega), List.mem_singleton]; omega⟩
      refine (flow_cl c v (hc c) l).stay _ _ d (HL _ (by omega) (by omega)) E h0 ?_ (ih (by omega))
      rw [Int.toNat_natCast]
      omega
  have := key (b - a) (by have := F.lt; omega)
  rw [show a + (b - a) = b from by have := F.lt; omega] at this
  exact this

/-- what an expression reads flows to its value -/
theorem ex_flow (hE : ExOk ex) (hX : ExB n vs.length ex) (hn : n ≤ 6) (hm : vs.length ≤ 8) (hv : ∀ x : Int, 0 ≤ x → x < vs.length → bv v x = vs.getD x.toNat 0) (HL : ∀ p : Int, 0 ≤ p → p ≤ half c → Live c p) :
    ∀ e a b, ExAt c ex e a b → (b : Int) ≤ half c → 0 ≤ hc c a → ∀ j : Nat, reads vs ex e j = true → Flow c v (hc c) j b (hc c a) := by
  have F := ex_f (c := c) (T := c) hE hX hn hm hv
  refine ex_laid hE hX hn hm _ (fun e x a hx hl hb hI hK h0 j hj => ?_) (fun e x a u t hx hop A1 A2 hI i1 i2 hK h0 j hj => ?_)
  · obtain ⟨t0, g1⟩ := tg_leaf hI hl
    unfold reads at hj
    rw [fol_at _ _ _ hE hx, if_pos hl] at hj
    unfold rdsL lfL at hj
    rw [Bool.and_eq_true] at hj
    have h1 := of_decide_eq_true hj.1
    have h2 := of_decide_eq_true hj.2
    have E : Edge c (a : Int) ((a + 1 : Nat) : Int) := ⟨by omega, by omega, by rw [nxt_on (by rw [hI.1]; omega) (by rw [hI.1]; omega), List.mem_singleton]; omega⟩
    have := (flow_cl c v (hc c) j).push _ _ (HL a (by omega) (by omega)) E g1 (by
      by_cases e1 : x.op = 1
      · rw [if_pos e1] at h2
        have : 0 ≤ x.v ∧ x.v < vs.length := by rcases hb with d | d | d | d <;> omega
        exact .inr (.inl ⟨by rw [hI.1]; exact e1, by rw [hI.2, hv x.v this.1 this.2]; exact h2.symm⟩)
      · rw [if_neg e1] at h2
        exact .inr (.inr (.inl ⟨by rw [hI.1]; omega, by rw [hI.2]; exact h2.symm⟩)))
    rw [Int.toNat_natCast, t0, Int.sub_zero] at this
    exact this
  · obtain ⟨t2, g1⟩ := tg_two hI hop
    have F1 := F _ _ _ A1
    have F2 := F _ _ _ A2
    have l1 := F1.lt
    have l2 := F2.lt
    have b1 := F1.hb
    have b2 := F2.hb
    have hnl : ¬ (x.op = 0 ∨ x.op = 1 ∨ x.op = 10) := by omega
    unfold reads at hj
    rw [fol_at _ _ _ hE hx, if_neg hnl, Bool.or_eq_true] at hj
    have E : Edge c (t : Int) ((t + 1 : Nat) : Int) := ⟨by omega, by omega, by rw [nxt_on (by rw [hI.1]; omega) (by rw [hI.1]; omega), List.mem_singleton]; omega⟩
    have := (flow_cl c v (hc c) j).push _ _ (HL t (by omega) (by omega)) E g1 (by
      refine .inr (.inr (.inr ⟨by rw [hI.1]; exact hop, ?_⟩))
      rw [Int.toNat_natCast]
      rcases hj with hj | hj
      · refine .inr ?_
        rw [show hc c t - 2 = hc c a from by omega]
        exact F2.carry (by omega) HL h0 (by omega) (i1 (by omega) h0 j hj)
      · refine .inl ?_
        rw [show hc c t - 1 = hc c u from by omega]
        exact i2 (by omega) (by omega) j hj)
    rw [Int.toNat_natCast, t2, show hc c t - 2 = hc c a from by omega] at this
    exact this

/-- the heights of statements fit -/
theorem st_fit (hE : ExOk ex) (hS : SmOk ex sm) (hX : ExB n vs.length ex) (hB : ∀ x, x ∈ sm → SB n vs.length x) (hn : n ≤ 6) (hm : vs.length ≤ 8) (hv : ∀ x : Int, 0 ≤ x → x < vs.length → bv v x = vs.getD x.toNat 0) :
    (∀ i a b, b ≤ 200 → StAt c ex sm i a b → hc c a = 0 → a ≤ b ∧ hc c b = 0 ∧ ∀ i, a ≤ i → i < b → HFit c i) ∧ (∀ l a b, b ≤ 200 → LsAt c ex sm l a b → hc c a = 0 → a ≤ b ∧ hc c b = 0 ∧ ∀ i, a ≤ i → i < b → HFit c i) := by
  have F := ex_f (c := c) (T := c) hE hX hn hm hv
  have X : ∀ e a b, ExAt c ex e a b → hc c a = 0 → a < b ∧ hc c b = 1 ∧ ∀ i, a ≤ i → i < b → HFit c i := fun e a b A h0 => by
    have f := F _ _ _ A
    have hb := f.hb
    refine ⟨f.lt, by omega, fun i h1 h2 => ?_⟩
    have ho := f.op i h1 h2
    have hh := f.h i h1 h2
    exact fit_on (by omega) (by omega) (by omega)
  refine st_laid hE hS hB hn hm (fun i a b => hc c a = 0 → a ≤ b ∧ hc c b = 0 ∧ ∀ i, a ≤ i → i < b → HFit c i) (fun l a b => hc c a = 0 → a ≤ b ∧ hc c b = 0 ∧ ∀ i, a ≤ i → i < b → HFit c i) (fun a h => ⟨Nat.le_refl _, h, fun i h1 h2 => by omega⟩) (fun i l a u b A B P Q h => ?_) (fun i x a u hx hk A hI h => ?_) (fun i x a u hx hk A hI h => ?_)
    (fun i x a u b hx hk h2 A hI B Q h => ?_) (fun i x a u t b hx hk h2 A hI B hJ D Q R h => ?_) (fun i x a u t hx hk A hI B hJ Q h => ?_)
  · obtain ⟨l1, z1, f1⟩ := P h
    obtain ⟨l2, z2, f2⟩ := Q z1
    refine ⟨by omega, z2, fun j h1 h2 => ?_⟩
    by_cases e : j < u
    · exact f1 j h1 e
    · exact f2 j (by omega) h2
  · obtain ⟨l1, z1, f1⟩ := X _ _ _ A h
    obtain ⟨t1, g0⟩ := tg_sink hI (.inl rfl)
    refine ⟨by omega, by simp only [hc]; omega, fun j h1 h2 => ?_⟩
    by_cases e : j < u
    · exact f1 j h1 e
    · rw [show j = u from by omega]; exact fit_on (by rw [hI.1]; omega) (by rw [hI.1]; omega) (by omega)
  · obtain ⟨l1, z1, f1⟩ := X _ _ _ A h
    obtain ⟨t1, g0⟩ := tg_sink hI (.inr (.inr rfl))
    refine ⟨by omega, by simp only [hc]; omega, fun j h1 h2 => ?_⟩
    by_cases e : j < u
    · exact f1 j h1 e
    · rw [show j = u from by omega]; exact fit_on (by rw [hI.1]; omega) (by rw [hI.1]; omega) (by omega)
  · obtain ⟨l1, z1, f1⟩ := X _ _ _ A h
    obtain ⟨t1, g0⟩ := tg_sink hI (.inr (.inl rfl))
    have zu : hc c (u + 1) = 0 := by simp only [hc]; omega
    obtain ⟨l2, z2, f2⟩ := Q zu
    refine ⟨by omega, z2, fun j h1 h2 => ?_⟩
    by_cases e : j < u
    · exact f1 j h1 e
    · by_cases e1 : j = u
      · rw [e1]
        refine ⟨by omega, fun k hk => ?_⟩
        rcases (nxt_zero hI k).1 hk with q | q
        · rw [show k.toNat = u + 1 from by omega, zu]; omega
        · rw [show k.toNat = b from by omega, z2]; omega
      · exact f2 j (by omega) h2
  · obtain ⟨l1, z1, f1⟩ := X _ _ _ A h
    obtain ⟨t1, g0⟩ := tg_sink hI (.inr (.inl rfl))
    obtain ⟨t2, g2⟩ := tg_jump hJ
    have zu : hc c (u + 1) = 0 := by simp only [hc]; omega
    obtain ⟨l2, z2, f2⟩ := Q zu
    have zt : hc c (t + 1) = 0 := by simp only [hc]; omega
    obtain ⟨l3, z3, f3⟩ := R zt
    refine ⟨by omega, z3, fun j h1 h2 => ?_⟩
    by_cases e : j < u
    · exact f1 j h1 e
    · by_cases e1 : j = u
      · rw [e1]
        refine ⟨by omega, fun k hk => ?_⟩
        rcases (nxt_zero hI k).1 hk with q | q
        · rw [show k.toNat = u + 1 from by omega, zu]; omega
        · rw [show k.toNat = t + 1 from by omega, zt]; omega
      · by_cases e2 : j < t
        · exact f2 j (by omega) e2
        · by_cases e3 : j = t
          · rw [e3]
            refine ⟨by omega, fun k hk => ?_⟩
            rw [nxt_jump hJ, List.mem_singleton] at hk
            rw [show k.toNat = b from by omega, z3]; omega
          · exact f3 j (by omega) h2
  · obtain ⟨l1, z1, f1⟩ := X _ _ _ A h
    obtain ⟨t1, g0⟩ := tg_sink hI (.inr (.inl rfl))
    obtain ⟨t2, g2⟩ := tg_jump hJ
    have zu : hc c (u + 1) = 0 := by simp only [hc]; omega
    obtain ⟨l2, z2, f2⟩ := Q zu
    have zt : hc c (t + 1) = 0 := by simp only [hc]; omega
    refine ⟨by omega, zt, fun j h1 h2 => ?_⟩
    by_cases e : j < u
    · exact f1 j h1 e
    · by_cases e1 : j = u
      · rw [e1]
        refine ⟨by omega, fun k hk => ?_⟩
        rcases (nxt_zero hI k).1 hk with q | q
        · rw [show k.toNat = u + 1 from by omega, zu]; omega
        · rw [show k.toNat = t + 1 from by omega, zt]; omega
      · by_cases e2 : j < t
        · exact f2 j (by omega) e2
        · rw [show j = t from by omega]
          refine ⟨by omega, fun k hk => ?_⟩
          rw [nxt_jump hJ, List.mem_singleton] at hk
          rw [show k.toNat = a from by omega, h]; omega
end
end Go.Proofs.YtcnbifdlkalimabGreat
