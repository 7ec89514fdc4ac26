/-
  The plain mathematics of translated code: where no statement breaks the rules of the source, no place breaks the rules of the code; no condition but those that stand in each lemma.
-/
import Derived.Test.YtcnbifdlkalimabGreatSht6
namespace Go.Proofs.YtcnbifdlkalimabGreat
open Go.RowKit
set_option linter.unusedVariables false

/-- labels of the places from a to b that are closed but for what a choice hides; level l is in the context if C -/
structure UpW (c v T : ByteArray) (n : Int) (l : Nat) (C : Prop) (a b : Nat) (L V : Int → Prop) : Prop where
  up : C → ∀ p : Int, (a : Int) ≤ p → p < b → L p
  stay : ∀ i : Nat, a ≤ i → i < b → ∀ j : Int, j ∈ nxt c i → 0 < hc c i - takesAt c i → V i → V j ∧ (a : Int) ≤ j ∧ j < b
  push : ∀ i : Nat, a ≤ i → i < b → ∀ j : Int, j ∈ nxt c i → givesAt c i = 1 → (L i ∨ V i ∨ ((bv c (2 * (i : Int)) = 1 ∧ bv v (bv c (2 * (i : Int) + 1)) = l) ∨ (bv c (2 * (i : Int)) = 10 ∧ bv c (2 * (i : Int) + 1) = l))) → V j ∧ (a : Int) ≤ j ∧ j < b
  sink : ∀ i : Nat, a ≤ i → i < b → 0 ≤ sinkTo c v i → (L i ∨ (sinkVal c i = true ∧ V i)) → le T n l (sinkTo c v i) = true
/-- what a choice hides is there -/
def Hds (c : ByteArray) (a b : Nat) (L V : Int → Prop) : Prop := ∀ i : Nat, a ≤ i → i < b → bv c (2 * (i : Int)) = 9 → (L i ∨ V i) → ∀ p : Int, Reg c i p → L p ∧ (a : Int) ≤ p ∧ p < b

/-- the one ahead of m, the other from m on -/
def gl (m : Nat) (L1 L2 : Int → Prop) (p : Int) : Prop := (p < m ∧ L1 p) ∨ ((m : Int) ≤ p ∧ L2 p)
theorem gl_lt {m : Nat} {L1 L2 : Int → Prop} {p : Int} (h : p < m) : gl m L1 L2 p ↔ L1 p := ⟨fun k => by rcases k with k | k; exact k.2; omega, fun k => .inl ⟨h, k⟩⟩
theorem gl_ge {m : Nat} {L1 L2 : Int → Prop} {p : Int} (h : (m : Int) ≤ p) : gl m L1 L2 p ↔ L2 p := ⟨fun k => by rcases k with k | k; omega; exact k.2, fun k => .inr ⟨h, k⟩⟩

section
variable {c v T : ByteArray} {ex : List Ex} {sm : List Sm} {n : Int} {vs : List Int} {l : Nat}
theorem UpW.weak {C C' : Prop} {a b : Nat} {L V : Int → Prop} (H : UpW c v T n l C' a b L V) (h : C → C') : UpW c v T n l C a b L V := ⟨fun k => H.up (h k), H.stay, H.push, H.sink⟩
theorem UpW.glue {C : Prop} {a m b : Nat} {L1 V1 L2 V2 : Int → Prop} (h1 : a ≤ m) (h2 : m ≤ b) (H : UpW c v T n l C a m L1 V1) (K : UpW c v T n l C m b L2 V2) : UpW c v T n l C a b (gl m L1 L2) (gl m V1 V2) := by
  refine ⟨fun k p q1 q2 => ?_, fun i i1 i2 j hj hh hV => ?_, fun i i1 i2 j hj hg hs => ?_, fun i i1 i2 h0 hs => ?_⟩
  · by_cases e : p < m
    · exact (gl_lt e).2 (H.up k p q1 e)
    · exact (gl_ge (by omega)).2 (K.up k p (by omega) q2)
  · by_cases e : (i : Int) < m
    · rw [gl_lt e] at hV
      obtain ⟨x, y, z⟩ := H.stay i i1 (by omega) j hj hh hV
      exact ⟨(gl_lt z).2 x, y, by omega⟩
    · rw [gl_ge (by omega)] at hV
      obtain ⟨x, y, z⟩ := K.stay i (by omega) i2 j hj hh hV
      exact ⟨(gl_ge y).2 x, by omega, z⟩
  · by_cases e : (i : Int) < m
    · rw [gl_lt e, gl_lt e] at hs
      obtain ⟨x, y, z⟩ := H.push i i1 (by omega) j hj hg hs
      exact ⟨(gl_lt z).2 x, y, by omega⟩
    · rw [gl_ge (by omega), gl_ge (by omega)] at hs
      obtain ⟨x, y, z⟩ := K.push i (by omega) i2 j hj hg hs
      exact ⟨(gl_ge y).2 x, by omega, z⟩
  · by_cases e : (i : Int) < m
    · rw [gl_lt e, gl_lt e] at hs
      exact H.sink i i1 (by omega) h0 hs
    · rw [gl_ge (by omega), gl_ge (by omega)] at hs
      exact K.sink i (by omega) i2 h0 hs
theorem Hds.glue {a m b : Nat} {L1 V1 L2 V2 : Int → Prop} (h1 : a ≤ m) (h2 : m ≤ b) (H : Hds c a m L1 V1) (K : Hds c m b L2 V2) : Hds c a b (gl m L1 L2) (gl m V1 V2) := by
  intro i i1 i2 h9 hs p hp
  by_cases e : (i : Int) < m
  · rw [gl_lt e, gl_lt e] at hs
    obtain ⟨x, y, z⟩ := H i i1 (by omega) h9 hs p hp
    exact ⟨(gl_lt z).2 x, y, by omega⟩
  · rw [gl_ge (by omega), gl_ge (by omega)] at hs
    obtain ⟨x, y, z⟩ := K i (by omega) i2 h9 hs p hp
    exact ⟨(gl_ge y).2 x, by omega, z⟩
theorem UpW.nil {C : Prop} {a : Nat} {L V : Int → Prop} : UpW c v T n l C a a L V := ⟨fun _ p h1 h2 => by omega, fun i h1 h2 => by omega, fun i h1 h2 => by omega, fun i h1 h2 => by omega⟩
theorem Hds.nil {a : Nat} {L V : Int → Prop} : Hds c a a L V := fun i h1 h2 => by omega

/-- a JUMP -/
theorem up_jump {t : Nat} {w : Int} {C : Prop} (hI : Ins c t 8 w) (h0 : hc c t = 0) : UpW c v T n l C t (t + 1) (fun _ => C) (fun _ => False) ∧ Hds c t (t + 1) (fun _ => C) (fun _ => False) := by
  obtain ⟨t0, g0⟩ := tg_jump hI
  have one : ∀ i : Nat, t ≤ i → i < t + 1 → i = t := fun i h1 h2 => by omega
  refine ⟨⟨fun k p _ _ => k, fun i i1 i2 j hj hh hV => hV.elim, fun i i1 i2 j hj hg => ?_, fun i i1 i2 hs => ?_⟩, fun i i1 i2 h9 => ?_⟩
  · rw [one i i1 i2] at hg; omega
  · rw [one i i1 i2] at hs
    unfold sinkTo at hs
    rw [if_neg (by rw [hI.1]; omega), if_neg (by rw [hI.1]; omega)] at hs
    omega
  · rw [one i i1 i2, hI.1] at h9; omega

/-- an expression and what takes its value -/
theorem up_ex {C D : Prop} {e a u : Nat} {op w : Int} (F : ExF c v T n vs ex e a u) (h0 : hc c a = 0) (hI : Ins c u op w) (hop : op = 2 ∨ op = 9 ∨ op = 11) (hCD : C → D)
    (hd : D → ∀ i : Nat, a ≤ i → i < u → bv c (2 * (i : Int)) = 10 → le T n l (bv c (2 * (i : Int) + 1)) = true) (hs : 0 ≤ sinkTo c v u → (D ∨ reads vs ex e l = true) → le T n l (sinkTo c v u) = true) :
    UpW c v T n l C a (u + 1) (fun _ => D) (fun _ => D ∨ reads vs ex e l = true) := by
  obtain ⟨t1, g0⟩ := tg_sink hI hop
  have lt := F.lt
  have hb := F.hb
  have nx : ∀ i : Nat, a ≤ i → i < u → nxt c i = [(i : Int) + 1] := fun i h1 h2 => by
    have := F.op i h1 h2
    exact nxt_on (by omega) (by omega)
  refine ⟨fun k p _ _ => hCD k, fun i i1 i2 j hj hh hV => ?_, fun i i1 i2 j hj hg hV => ?_, fun i i1 i2 hk hV => ?_⟩
  · by_cases e2 : i < u
    · rw [nx i i1 e2, List.mem_singleton] at hj
      exact ⟨hV, by omega, by omega⟩
    · rw [show i = u from by omega] at hh; omega
  · by_cases e2 : i < u
    · rw [nx i i1 e2, List.mem_singleton] at hj
      refine ⟨?_, by omega, by omega⟩
      rcases hV with k | k | k
      · exact .inl k
      · exact k
      · exact .inr (F.rd i i1 e2 l k)
    · rw [show i = u from by omega] at hg; omega
  · by_cases e2 : i < u
    · have ho := F.op i i1 e2
      have h10 : bv c (2 * (i : Int)) = 10 := by
        by_cases h10 : bv c (2 * (i : Int)) = 10
        · exact h10
        · unfold sinkTo at hk
          rw [if_neg (by omega), if_neg (by omega)] at hk
          omega
      have es : sinkTo c v i = bv c (2 * (i : Int) + 1) := by unfold sinkTo; rw [if_neg (by omega), if_pos (.inl h10)]
      have ev : sinkVal c i = false := decide_eq_false (by omega)
      rw [es]
      rcases hV with k | k
      · exact hd k i i1 e2 h10
      · rw [ev] at k; exact absurd k.1 (by simp)
    · rw [show i = u from by omega] at hk hV ⊢
      rcases hV with k | k
      · exact hs hk (.inl k)
      · exact hs hk k.2

/-- the context, from above -/
def Hi (T : ByteArray) (n c0 : Int) (l : Nat) (C : Prop) : Prop := Lv n c0 ∧ (C → ∀ u, Lv n u → le T n c0 u = true → le T n l u = true)
theorem Hi.more (X : Cx c v T ex sm n vs) {c0 : Int} {C : Prop} (H : Hi T n c0 l C) {e : Nat} (he : e < ex.length) : Hi T n (jn T n c0 (levX T n vs ex e)) l (C ∨ reads vs ex e l = true) := by
  obtain ⟨l1, l2, l3⟩ := X.lv he
  have hj := X.lat.jin _ _ H.1 l1
  refine ⟨hj, fun k u hu h => ?_⟩
  rcases k with k | k
  · exact H.2 k u hu (X.lat.trans _ _ _ H.1 hj hu (X.lat.jl _ _ H.1 l1) h)
  · exact (l2 u hu).1 (X.lat.trans _ _ _ l1 hj hu (X.lat.jr _ _ H.1 l1) h) l k

/-- THE UPPER SIDE -/
def UpS (c v T : ByteArray) (n : Int) (l a b : Nat) (bd : Int → List Int) : Prop :=
  (b : Int) ≤ half c → hc c a = 0 → Exi c a b → ∀ (c0 : Int) (C : Prop), Hi T n c0 l C → bd c0 = [] → ∃ L V, UpW c v T n l C a b L V ∧ Hds c a b L V
theorem upp (X : Cx c v T ex sm n vs) (l : Nat) :
    (∀ i a b, b ≤ 200 → StAt c ex sm i a b → b ≤ 200 → UpS c v T n l a b (bad T n vs ex sm i)) ∧ (∀ q a b, b ≤ 200 → LsAt c ex sm q a b → b ≤ 200 → UpS c v T n l a b (bads T n vs ex sm q)) := by
  have FT := st_fit (c := c) X.hE X.hS X.hX X.hB X.n6 X.m8 X.hv
  have SP := st_pas (c := c) X.hE X.hS X.hX X.hB X.n6 X.m8
  refine st_laid X.hE X.hS X.hB X.n6 X.m8 (fun i a b => b ≤ 200 → UpS c v T n l a b (bad T n vs ex sm i)) (fun q a b => b ≤ 200 → UpS c v T n l a b (bads T n vs ex sm q)) (fun a _ h h0 hx c0 C H hb => ⟨fun _ => True, fun _ => True, UpW.nil, Hds.nil⟩)
    (fun i q a u b A B P Q hbb h h0 hx c0 C H hb => ?_) (fun i x a u hs hk A hI hbb h h0 hx c0 C H hb => ?_) (fun i x a u hs hk A hI hbb h h0 hx c0 C H hb => ?_)
    (fun i x a u b hs hk h2 A hI B Q hbb h h0 hx c0 C H hb => ?_) (fun i x a u t b hs hk h2 A hI B hJ D Q R hbb h h0 hx c0 C H hb => ?_) (fun i x a u t hs hk A hI B hJ Q hbb h h0 hx c0 C H hb => ?_)
  · have PB := SP.2 q u b hbb B h
    have lb := PB.le
    have PA := (SP.1 i a u (by omega) A (by omega)).2
    have zu := (FT.1 i a u (by omega) A h0).2.1
    have hb : bad T n vs ex sm i c0 ++ bads T n vs ex sm q c0 = [] := hb
    rw [List.append_eq_nil_iff] at hb
    obtain ⟨L1, V1, W1, D1⟩ := P (by omega) (by omega) h0 (hx.head PB) c0 C H hb.1
    obtain ⟨L2, V2, W2, D2⟩ := Q hbb h zu (hx.sub (by omega)) c0 C H hb.2
    exact ⟨_, _, W1.glue (by omega) lb W2, D1.glue (by omega) lb D2⟩
  · have F := X.f A
    have lt := F.lt
    obtain ⟨ho, -, -⟩ := (bad_at X.hS hs c0).1 hb
    unfold okX at ho
    rw [if_pos hk, Bool.and_eq_true] at ho
    have hsb := X.hB x (List.mem_of_getElem? hs)
    have hxv : 0 ≤ x.v ∧ x.v < vs.length := by rcases hsb with d | d | d | d <;> omega
    have es : sinkTo c v u = vs.getD x.v.toNat 0 := by unfold sinkTo; rw [if_pos hI.1, hI.2, X.hv x.v hxv.1 hxv.2]
    refine ⟨_, _, up_ex (C := C) (D := C) F h0 hI (.inl rfl) (fun k => k) (fun k i i1 i2 h10 => H.2 k _ (F.nl i i1 i2 h10) (F.dr c0 ho.1 i i1 i2 h10)) (fun _ k => ?_), fun i i1 i2 h9 => ?_⟩
    · rw [es]
      exact (Hi.more X H A.lt).2 k _ (X.vb.at (by omega)) ho.2
    · exfalso
      by_cases e : i < u
      · have := F.op i i1 e; omega
      · rw [show i = u from by omega, hI.1] at h9; omega
  · have F := X.f A
    have lt := F.lt
    obtain ⟨ho, -, -⟩ := (bad_at X.hS hs c0).1 hb
    unfold okX at ho
    rw [if_neg (by omega), if_pos hk, Bool.and_eq_true] at ho
    have hsb := X.hB x (List.mem_of_getElem? hs)
    have hxv : 0 ≤ x.v ∧ x.v < n := by rcases hsb with d | d | d | d <;> omega
    have es : sinkTo c v u = x.v := by unfold sinkTo; rw [if_neg (by rw [hI.1]; omega), if_pos (.inr hI.1), hI.2]
    refine ⟨_, _, up_ex (C := C) (D := C) F h0 hI (.inr (.inr rfl)) (fun k => k) (fun k i i1 i2 h10 => H.2 k _ (F.nl i i1 i2 h10) (F.dr c0 ho.1 i i1 i2 h10)) (fun _ k => ?_), fun i i1 i2 h9 => ?_⟩
    · rw [es]
      exact (Hi.more X H A.lt).2 k _ hxv ho.2
    · exfalso
      by_cases e : i < u
      · have := F.op i i1 e; omega
      · rw [show i = u from by omega, hI.1] at h9; omega
  · have F := X.f A
    have lt := F.lt
    have PB := X.ls hbb B h
    have lb := PB.le
    obtain ⟨ho, hq, -⟩ := (bad_at X.hS hs c0).1 hb
    unfold okX at ho
    rw [if_neg (by omega), if_neg (by omega), if_neg (by omega)] at ho
    obtain ⟨t1, g0⟩ := tg_sink hI (.inr (.inl rfl))
    have zu : hc c (u + 1) = 0 := by have := F.hb; simp only [hc]; omega
    have HR := cho1_reg X.hr h hI PB (hx.sub (by omega))
    have es : sinkTo c v u = -1 := by unfold sinkTo; rw [if_neg (by rw [hI.1]; omega), if_neg (by rw [hI.1]; omega)]
    obtain ⟨L1, V1, W1, D1⟩ := Q hbb h zu (hx.sub (by omega)) _ _ (Hi.more X H A.lt) hq
    have W0 := up_ex (C := C) (D := C) F h0 hI (.inr (.inl rfl)) (fun k => k) (fun k i i1 i2 h10 => H.2 k _ (F.nl i i1 i2 h10) (F.dr c0 ho i i1 i2 h10)) (fun k => by omega)
    refine ⟨_, _, W0.glue (by omega) lb (W1.weak .inl), fun i i1 i2 h9 hV p hp => ?_⟩
    by_cases e : i < u
    · have := F.op i i1 e; omega
    · by_cases e2 : i = u
      · subst e2
        rw [gl_lt (by omega), gl_lt (by omega)] at hV
        have hr := (HR p).1 hp
        exact ⟨(gl_ge hr.1).2 (W1.up (by rcases hV with k | k; exact .inl k; exact k) p hr.1 hr.2), by omega, hr.2⟩
      · rw [gl_ge (by omega), gl_ge (by omega)] at hV
        obtain ⟨x1, y1, z1⟩ := D1 i (by omega) i2 h9 hV p hp
        exact ⟨(gl_ge y1).2 x1, by omega, z1⟩
  · have F := X.f A
    have lt := F.lt
    have PD := X.ls hbb D h
    have ld := PD.le
    have PB := X.ls (by omega) B (by omega)
    have lb := PB.le
    obtain ⟨ho, hq, hq2⟩ := (bad_at X.hS hs c0).1 hb
    unfold okX at ho
    rw [if_neg (by omega), if_neg (by omega), if_neg (by omega)] at ho
    obtain ⟨t1, g0⟩ := tg_sink hI (.inr (.inl rfl))
    have zu : hc c (u + 1) = 0 := by have := F.hb; simp only [hc]; omega
    have zt0 := (FT.2 _ _ _ (by omega) B zu).2.1
    obtain ⟨t2, g2⟩ := tg_jump hJ
    have zt : hc c (t + 1) = 0 := by simp only [hc]; omega
    have HR := cho2_reg X.hr h hI PB hJ PD (hx.sub (by omega))
    have es : sinkTo c v u = -1 := by unfold sinkTo; rw [if_neg (by rw [hI.1]; omega), if_neg (by rw [hI.1]; omega)]
    obtain ⟨L1, V1, W1, D1⟩ := Q (by omega) (by omega) zu (Exi.then (hx.sub (by omega)) (by omega) h hJ) _ _ (Hi.more X H A.lt) hq
    obtain ⟨L2, V2, W2, D2⟩ := R hbb h zt (hx.sub (by omega)) _ _ (Hi.more X H A.lt) hq2
    obtain ⟨W3, D3⟩ := up_jump (v := v) (T := T) (n := n) (l := l) (C := C ∨ reads vs ex x.e l = true) hJ zt0
    obtain ⟨L4, V4, W4, D4⟩ : ∃ L V, UpW c v T n l (C ∨ reads vs ex x.e l = true) (u + 1) b L V ∧ Hds c (u + 1) b L V := ⟨_, _, (W1.glue lb (by omega) W3).glue (by omega) ld W2, (D1.glue lb (by omega) D3).glue (by omega) ld D2⟩
    have W0 := up_ex (C := C) (D := C) F h0 hI (.inr (.inl rfl)) (fun k => k) (fun k i i1 i2 h10 => H.2 k _ (F.nl i i1 i2 h10) (F.dr c0 ho i i1 i2 h10)) (fun k => by omega)
    refine ⟨_, _, W0.glue (by omega) (by omega) (W4.weak .inl), fun i i1 i2 h9 hV p hp => ?_⟩
    by_cases e : i < u
    · have := F.op i i1 e; omega
    · by_cases e2 : i = u
      · subst e2
        rw [gl_lt (by omega), gl_lt (by omega)] at hV
        have hr := (HR p).1 hp
        exact ⟨(gl_ge hr.1).2 (W4.up (by rcases hV with k | k; exact .inl k; exact k) p hr.1 hr.2), by omega, hr.2⟩
      · rw [gl_ge (by omega), gl_ge (by omega)] at hV
        obtain ⟨x1, y1, z1⟩ := D4 i (by omega) i2 h9 hV p hp
        exact ⟨(gl_ge y1).2 x1, by omega, z1⟩
  · have F := X.f A
    have lt := F.lt
    have PB := X.ls (by omega) B (by omega)
    have lb := PB.le
    have PA := X.p A (by omega)
    obtain ⟨ho, hq, -⟩ := (bad_at X.hS hs c0).1 hb
    unfold okX at ho
    rw [if_neg (by omega), if_neg (by omega), if_pos hk] at ho
    obtain ⟨t1, g0⟩ := tg_sink hI (.inr (.inl rfl))
    have zu : hc c (u + 1) = 0 := by have := F.hb; simp only [hc]; omega
    have zt0 := (FT.2 _ _ _ (by omega) B zu).2.1
    have HR := rep_reg X.hr h PA hI PB hJ hx
    have es : sinkTo c v u = -1 := by unfold sinkTo; rw [if_neg (by rw [hI.1]; omega), if_neg (by rw [hI.1]; omega)]
    have HM := Hi.more X H A.lt
    obtain ⟨L1, V1, W1, D1⟩ := Q (by omega) (by omega) zu (Exi.body h PA hI (by omega) hJ hx) _ _ HM hq
    obtain ⟨W3, D3⟩ := up_jump (v := v) (T := T) (n := n) (l := l) (C := C ∨ reads vs ex x.e l = true) hJ zt0
    have W0 := up_ex (C := C ∨ reads vs ex x.e l = true) (D := C ∨ reads vs ex x.e l = true) F h0 hI (.inr (.inl rfl)) (fun k => k) (fun k i i1 i2 h10 => HM.2 k _ (F.nl i i1 i2 h10) (F.dr _ ho i i1 i2 h10)) (fun k => by omega)
    obtain ⟨L4, V4, W5, D4⟩ : ∃ L V, UpW c v T n l (C ∨ reads vs ex x.e l = true) (u + 1) (t + 1) L V ∧ Hds c (u + 1) (t + 1) L V := ⟨_, _, W1.glue lb (by omega) W3, D1.glue lb (by omega) D3⟩
    have W4 := W0.glue (by omega) (by omega) W5
    refine ⟨_, _, W4.weak .inl, fun i i1 i2 h9 hV p hp => ?_⟩
    by_cases e : i < u
    · have := F.op i i1 e; omega
    · by_cases e2 : i = u
      · subst e2
        rw [gl_lt (by omega), gl_lt (by omega)] at hV
        have hr := (HR p).1 hp
        exact ⟨W4.up (by rcases hV with k | k | k; exact k; exact k; exact .inr k) p hr.1 hr.2, hr.1, hr.2⟩
      · rw [gl_ge (by omega), gl_ge (by omega)] at hV
        obtain ⟨x1, y1, z1⟩ := D4 i (by omega) i2 h9 hV p hp
        exact ⟨(gl_ge y1).2 x1, by omega, z1⟩
end
end Go.Proofs.YtcnbifdlkalimabGreat
