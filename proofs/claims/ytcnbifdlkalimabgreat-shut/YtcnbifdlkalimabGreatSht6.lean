/-
  The plain mathematics of translated code: a statement that breaks the rules of the source has a place that breaks the rules of the code; no condition but those that stand in each lemma.
-/
import Derived.Test.YtcnbifdlkalimabGreatSht5
namespace Go.Proofs.YtcnbifdlkalimabGreat
open Go.RowKit
set_option linter.unusedVariables false

/-- the places of the statements that break the rules -/
def bad (T : ByteArray) (n : Int) (vs : List Int) (ex : List Ex) (sm : List Sm) (i : Nat) (c0 : Int) : List Int := badF T n vs ex sm (i + 1) i c0
def bads (T : ByteArray) (n : Int) (vs : List Int) (ex : List Ex) (sm : List Sm) (l : List Nat) (c0 : Int) : List Int := badG (bad T n vs ex sm) l c0
theorem badG_congr {f g : Nat → Int → List Int} (c0 : Int) : ∀ l : List Nat, (∀ i, i ∈ l → f i c0 = g i c0) → badG f l c0 = badG g l c0
  | [], h => rfl
  | i :: l, h => by simp only [badG]; rw [h i (by simp), badG_congr c0 l (fun j hj => h j (by simp [hj]))]
theorem badF_fuel {T : ByteArray} {n : Int} {vs : List Int} {ex : List Ex} {sm : List Sm} (hS : SmOk ex sm) : ∀ (k i k' : Nat) (c0 : Int), i < k → i < k' → badF T n vs ex sm k i c0 = badF T n vs ex sm k' i c0
  | 0, i, k', c0, h, _ => by omega
  | k + 1, i, 0, c0, _, h => by omega
  | k + 1, i, k' + 1, c0, h1, h2 => by
    simp only [badF]
    cases hx : sm[i]? with
    | none => rfl
    | some x =>
      dsimp only
      obtain ⟨o1, o2, o3⟩ := hS i x hx
      rw [badG_congr _ x.bo fun j hj => badF_fuel hS k j k' _ (by have := o2 j hj; omega) (by have := o2 j hj; omega), badG_congr _ x.el fun j hj => badF_fuel hS k j k' _ (by have := o3 j hj; omega) (by have := o3 j hj; omega)]
theorem bad_at {T : ByteArray} {n : Int} {vs : List Int} {ex : List Ex} {sm : List Sm} {i : Nat} {x : Sm} (hS : SmOk ex sm) (hx : sm[i]? = some x) (c0 : Int) :
    bad T n vs ex sm i c0 = [] ↔ okX T n vs ex x c0 (jn T n c0 (levX T n vs ex x.e)) = true ∧ bads T n vs ex sm x.bo (jn T n c0 (levX T n vs ex x.e)) = [] ∧ bads T n vs ex sm x.el (jn T n c0 (levX T n vs ex x.e)) = [] := by
  obtain ⟨o1, o2, o3⟩ := hS i x hx
  unfold bad bads
  rw [badF, hx]
  dsimp only
  rw [badG_congr _ x.bo fun j hj => badF_fuel hS i j (j + 1) _ (o2 j hj) (by omega), badG_congr _ x.el fun j hj => badF_fuel hS i j (j + 1) _ (o3 j hj) (by omega)]
  show _ ↔ _ ∧ badG (fun i c0 => badF T n vs ex sm (i + 1) i c0) _ _ = [] ∧ badG (fun i c0 => badF T n vs ex sm (i + 1) i c0) _ _ = []
  rw [List.append_eq_nil_iff, List.append_eq_nil_iff]
  by_cases h : okX T n vs ex x c0 (jn T n c0 (levX T n vs ex x.e)) = true
  · rw [if_pos h]; simp [h]
  · rw [if_neg h]; simp [h]

/-- all that is known of a code and its source -/
structure Cx (c v T : ByteArray) (ex : List Ex) (sm : List Sm) (n : Int) (vs : List Int) : Prop where
  hE : ExOk ex
  hS : SmOk ex sm
  hX : ExB n vs.length ex
  hB : ∀ x, x ∈ sm → SB n vs.length x
  hK : ∀ x, x ∈ sm → SK x
  n6 : n ≤ 6
  m8 : vs.length ≤ 8
  hv : ∀ x : Int, 0 ≤ x → x < vs.length → bv v x = vs.getD x.toNat 0
  HL : ∀ p : Int, 0 ≤ p → p ≤ half c → Live c p
  lat : LatOk T n
  vb : VsB n vs
  hr : Ranged c

section
variable {c v T : ByteArray} {ex : List Ex} {sm : List Sm} {n : Int} {vs : List Int}
theorem Cx.f (X : Cx c v T ex sm n vs) {e a b : Nat} (A : ExAt c ex e a b) : ExF c v T n vs ex e a b := ex_f X.hE X.hX X.n6 X.m8 X.hv e a b A
theorem Cx.p (X : Cx c v T ex sm n vs) {e a b : Nat} (A : ExAt c ex e a b) (h : (b : Int) ≤ half c) : Pas c a b := (ex_pas X.hE X.hX X.n6 X.m8 e a b A h).1
theorem Cx.fl (X : Cx c v T ex sm n vs) {e a b : Nat} (A : ExAt c ex e a b) (h : (b : Int) ≤ half c) (h0 : hc c a = 0) {j : Nat} (hj : reads vs ex e j = true) : Flow c v (hc c) j b (hc c b - 1) := by
  have := ex_flow X.hE X.hX X.n6 X.m8 X.hv X.HL e a b A h (by omega) j hj
  rwa [show hc c b - 1 = hc c a from by have := (X.f A).hb; omega]
theorem Cx.lv (X : Cx c v T ex sm n vs) {e : Nat} (he : e < ex.length) : Lv n (levX T n vs ex e) ∧ (∀ u, Lv n u → (le T n (levX T n vs ex e) u = true ↔ ∀ j : Nat, reads vs ex e j = true → le T n j u = true)) ∧ ∀ j : Nat, reads vs ex e j = true → (j : Int) < n := levX_is X.lat X.hE X.hX X.vb e he
theorem Cx.ls (X : Cx c v T ex sm n vs) {l : List Nat} {a b : Nat} (hb : b ≤ 200) (A : LsAt c ex sm l a b) (h : (b : Int) ≤ half c) : Pas c a b := (st_pas X.hE X.hS X.hX X.hB X.n6 X.m8).2 l a b hb A h

/-- the levels in a context, from below -/
structure Lo (T : ByteArray) (n c0 : Int) (C : Nat → Prop) : Prop where
  lv : Lv n c0
  lo : ∀ u, Lv n u → le T n c0 u = false → ∃ j : Nat, C j ∧ (j : Int) < n ∧ le T n j u = false
theorem Lo.more (X : Cx c v T ex sm n vs) {c0 : Int} {C : Nat → Prop} (H : Lo T n c0 C) {e : Nat} (he : e < ex.length) : Lo T n (jn T n c0 (levX T n vs ex e)) (fun j => C j ∨ reads vs ex e j = true) := by
  obtain ⟨l1, l2, l3⟩ := X.lv he
  refine ⟨X.lat.jin _ _ H.lv l1, fun u hu h => ?_⟩
  cases h1 : le T n c0 u with
  | false =>
    obtain ⟨j, a, b, d⟩ := H.lo u hu h1
    exact ⟨j, .inl a, b, d⟩
  | true =>
    cases h2 : le T n (levX T n vs ex e) u with
    | true =>
      rw [X.lat.jm _ _ _ H.lv l1 hu h1 h2] at h
      exact absurd h (by simp)
    | false =>
      have : ¬ ∀ j : Nat, reads vs ex e j = true → le T n j u = true := fun k => by rw [(l2 u hu).2 k] at h2; exact absurd h2 (by simp)
      have : ∃ j : Nat, reads vs ex e j = true ∧ le T n j u = false := by
        refine Classical.byContradiction fun hn => this fun j hj => ?_
        cases hq : le T n j u with
        | true => rfl
        | false => exact absurd ⟨j, hj, hq⟩ hn
      obtain ⟨j, a, b⟩ := this
      exact ⟨j, .inr a, l3 j a, b⟩

/-- a place that breaks a rule -/
theorem brk_at_in (X : Cx c v T ex sm n vs) {c0 : Int} {C : Nat → Prop} (H : Lo T n c0 C) {e a b : Nat} (F : ExF c v T n vs ex e a b) (hb : (b : Int) ≤ half c) (hC : ∀ j, C j → ∀ p : Int, (a : Int) ≤ p → p < b → Flow c v (hc c) j p (-1)) (hd : drawX T n c0 ex e = false) : ∃ q, Breaks c v T n (hc c) q := by
  obtain ⟨i, h1, h2, h3, h4⟩ := F.nd c0 hd
  have hl := F.nl i h1 h2 h3
  obtain ⟨j, a1, b1, d1⟩ := H.lo _ hl h4
  have es : sinkTo c v i = bv c (2 * (i : Int) + 1) := by unfold sinkTo; rw [if_neg (by omega), if_pos (.inl h3)]
  exact ⟨i, ⟨by omega, by omega⟩, X.HL i (by omega) (by omega), by rw [es]; exact hl.1, j, ⟨by omega, b1⟩, by rw [es]; exact d1, .inl (hC j a1 i (by omega) (by omega))⟩
theorem brk_at_out (X : Cx c v T ex sm n vs) {c0 : Int} {C : Nat → Prop} (H : Lo T n c0 C) {e a u : Nat} (A : ExAt c ex e a u) (hb : (u : Int) < half c) (h0 : hc c a = 0) (hC : ∀ j, C j → Flow c v (hc c) j u (-1)) {op w tg : Int} (hI : Ins c u op w) (hop : op = 2 ∨ op = 11) (hs : sinkTo c v u = tg) (ht : Lv n tg) (hd : le T n (jn T n c0 (levX T n vs ex e)) tg = false) : ∃ q, Breaks c v T n (hc c) q := by
  obtain ⟨j, a1, b1, d1⟩ := (Lo.more X H A.lt).lo tg ht hd
  refine ⟨u, ⟨by omega, hb⟩, X.HL u (by omega) (by omega), by rw [hs]; exact ht.1, j, ⟨by omega, b1⟩, by rw [hs]; exact d1, ?_⟩
  rcases a1 with k | k
  · exact .inl (hC j k)
  · exact .inr ⟨decide_eq_true (by rw [hI.1]; exact hop), by rw [Int.toNat_natCast]; exact X.fl A (by omega) h0 k⟩

/-- THE LOWER SIDE -/
def LowS (c v T : ByteArray) (n : Int) (a b : Nat) (bd : Int → List Int) : Prop :=
  (b : Int) ≤ half c → hc c a = 0 → Exi c a b → ∀ (c0 : Int) (C : Nat → Prop), Lo T n c0 C → (∀ j, C j → ∀ p : Int, (a : Int) ≤ p → p < b → Flow c v (hc c) j p (-1)) → bd c0 ≠ [] → ∃ q, Breaks c v T n (hc c) q
theorem low (X : Cx c v T ex sm n vs) :
    (∀ i a b, b ≤ 200 → StAt c ex sm i a b → b ≤ 200 → LowS c v T n a b (bad T n vs ex sm i)) ∧ (∀ l a b, b ≤ 200 → LsAt c ex sm l a b → b ≤ 200 → LowS c v T n a b (bads T n vs ex sm l)) := by
  have FT := st_fit (c := c) X.hE X.hS X.hX X.hB X.n6 X.m8 X.hv
  have SP := st_pas (c := c) X.hE X.hS X.hX X.hB X.n6 X.m8
  refine st_laid X.hE X.hS X.hB X.n6 X.m8 (fun i a b => b ≤ 200 → LowS c v T n a b (bad T n vs ex sm i)) (fun l a b => b ≤ 200 → LowS c v T n a b (bads T n vs ex sm l)) (fun a _ h h0 hx c0 C H hC hb => absurd rfl hb)
    (fun i l a u b A B P Q hbb h h0 hx c0 C H hC hb => ?_) (fun i x a u hs hk A hI hbb h h0 hx c0 C H hC hb => ?_) (fun i x a u hs hk A hI hbb h h0 hx c0 C H hC hb => ?_)
    (fun i x a u b hs hk h2 A hI B Q hbb h h0 hx c0 C H hC hb => ?_) (fun i x a u t b hs hk h2 A hI B hJ D Q R hbb h h0 hx c0 C H hC hb => ?_) (fun i x a u t hs hk A hI B hJ Q hbb h h0 hx c0 C H hC hb => ?_)
  · have PB := SP.2 l u b hbb B h
    have lb := PB.le
    have PA := (SP.1 i a u (by omega) A (by omega)).2
    have zu := (FT.1 i a u (by omega) A h0).2.1
    have hb : bad T n vs ex sm i c0 ++ bads T n vs ex sm l c0 ≠ [] := hb
    by_cases e : bad T n vs ex sm i c0 = []
    · exact Q hbb h zu (hx.sub (by omega)) c0 C H (fun j hj p h1 h2 => hC j hj p (by omega) h2) (fun e2 => hb (by rw [e, e2]; rfl))
    · exact P (by omega) (by omega) h0 (hx.head PB) c0 C H (fun j hj p h1 h2 => hC j hj p h1 (by omega)) e
  · have F := X.f A
    have lt := F.lt
    rcases X.hK x (List.mem_of_getElem? hs) with ⟨_, e1, e2⟩ | ⟨e, _⟩ | ⟨e, _⟩ | ⟨e, _⟩
    · have hno : okX T n vs ex x c0 (jn T n c0 (levX T n vs ex x.e)) = false := by
        rw [← Bool.not_eq_true]
        intro ho
        exact hb ((bad_at X.hS hs c0).2 ⟨ho, by rw [e1]; rfl, by rw [e2]; rfl⟩)
      unfold okX at hno
      rw [if_pos hk, Bool.and_eq_false_iff] at hno
      have hsb := X.hB x (List.mem_of_getElem? hs)
      have hxv : 0 ≤ x.v ∧ x.v < vs.length := by rcases hsb with d | d | d | d <;> omega
      rcases hno with hd | hd
      · exact brk_at_in X H F (by omega) (fun j hj p h1 h2 => hC j hj p h1 (by omega)) hd
      · refine brk_at_out X H A (by omega) h0 (fun j hj => hC j hj u (by omega) (by omega)) hI (.inl rfl) ?_ (X.vb.at (by omega)) hd
        unfold sinkTo
        rw [if_pos hI.1, hI.2, X.hv x.v hxv.1 hxv.2]
    · omega
    · omega
    · omega
  · have F := X.f A
    have lt := F.lt
    rcases X.hK x (List.mem_of_getElem? hs) with ⟨e, _⟩ | ⟨_, e1, e2⟩ | ⟨e, _⟩ | ⟨e, _⟩
    · omega
    · have hno : okX T n vs ex x c0 (jn T n c0 (levX T n vs ex x.e)) = false := by
        rw [← Bool.not_eq_true]
        intro ho
        exact hb ((bad_at X.hS hs c0).2 ⟨ho, by rw [e1]; rfl, by rw [e2]; rfl⟩)
      unfold okX at hno
      rw [if_neg (by omega), if_pos hk, Bool.and_eq_false_iff] at hno
      have hsb := X.hB x (List.mem_of_getElem? hs)
      have hxv : 0 ≤ x.v ∧ x.v < n := by rcases hsb with d | d | d | d <;> omega
      rcases hno with hd | hd
      · exact brk_at_in X H F (by omega) (fun j hj p h1 h2 => hC j hj p h1 (by omega)) hd
      · refine brk_at_out X H A (by omega) h0 (fun j hj => hC j hj u (by omega) (by omega)) hI (.inr rfl) ?_ hxv hd
        unfold sinkTo
        rw [if_neg (by rw [hI.1]; omega), if_pos (.inr hI.1), hI.2]
    · omega
    · omega
  · have F := X.f A
    have lt := F.lt
    have PB := X.ls hbb B h
    have lb := PB.le
    have hel : x.el = [] := by rcases X.hK x (List.mem_of_getElem? hs) with ⟨e, _⟩ | ⟨e, _⟩ | ⟨_, e⟩ | ⟨_, e⟩ <;> first | omega | exact e h2 | exact e
    obtain ⟨t1, g0⟩ := tg_sink hI (.inr (.inl rfl))
    have zu : hc c (u + 1) = 0 := by have := F.hb; simp only [hc]; omega
    by_cases ho : okX T n vs ex x c0 (jn T n c0 (levX T n vs ex x.e)) = true
    · have hq : bads T n vs ex sm x.bo (jn T n c0 (levX T n vs ex x.e)) ≠ [] := fun e => hb ((bad_at X.hS hs c0).2 ⟨ho, e, by rw [hel]; rfl⟩)
      have HR := cho1_reg X.hr h hI PB (hx.sub (by omega))
      refine Q hbb h zu (hx.sub (by omega)) _ _ (Lo.more X H A.lt) (fun j hj p h1 h2 => ?_) hq
      rcases hj with hj | hj
      · exact hC j hj p (by omega) h2
      · exact (flow_cl c v (hc c) j).hide u p (X.HL u (by omega) (by omega)) (by omega) (by omega) hI.1 (.inr (by rw [Int.toNat_natCast]; exact X.fl A (by omega) h0 hj)) ((HR p).2 ⟨h1, h2⟩) (by omega) (by omega)
    · rw [Bool.not_eq_true] at ho
      unfold okX at ho
      rw [if_neg (by omega), if_neg (by omega), if_neg (by omega)] at ho
      exact brk_at_in X H F (by omega) (fun j hj p h1 h2 => hC j hj p h1 (by omega)) ho
  · have F := X.f A
    have lt := F.lt
    have PD := X.ls hbb D h
    have ld := PD.le
    have PB := X.ls (by omega) B (by omega)
    have lb := PB.le
    obtain ⟨t1, g0⟩ := tg_sink hI (.inr (.inl rfl))
    have zu : hc c (u + 1) = 0 := by have := F.hb; simp only [hc]; omega
    have zt0 := (FT.2 _ _ _ (by omega) B zu).2.1
    obtain ⟨t2, g2⟩ := tg_jump hJ
    have zt : hc c (t + 1) = 0 := by simp only [hc]; omega
    by_cases ho : okX T n vs ex x c0 (jn T n c0 (levX T n vs ex x.e)) = true
    · have HR := cho2_reg X.hr h hI PB hJ PD (hx.sub (by omega))
      have hF : ∀ j, (C j ∨ reads vs ex x.e j = true) → ∀ p : Int, ((u + 1 : Nat) : Int) ≤ p → p < b → Flow c v (hc c) j p (-1) := fun j hj p h1 h2 => by
        rcases hj with hj | hj
        · exact hC j hj p (by omega) h2
        · exact (flow_cl c v (hc c) j).hide u p (X.HL u (by omega) (by omega)) (by omega) (by omega) hI.1 (.inr (by rw [Int.toNat_natCast]; exact X.fl A (by omega) h0 hj)) ((HR p).2 ⟨h1, h2⟩) (by omega) (by omega)
      by_cases hq : bads T n vs ex sm x.bo (jn T n c0 (levX T n vs ex x.e)) = []
      · have hq2 : bads T n vs ex sm x.el (jn T n c0 (levX T n vs ex x.e)) ≠ [] := fun e => hb ((bad_at X.hS hs c0).2 ⟨ho, hq, e⟩)
        exact R hbb h zt (hx.sub (by omega)) _ _ (Lo.more X H A.lt) (fun j hj p h1 h2 => hF j hj p (by omega) h2) hq2
      · exact Q (by omega) (by omega) zu (Exi.then (hx.sub (by omega)) (by omega) h hJ) _ _ (Lo.more X H A.lt) (fun j hj p h1 h2 => hF j hj p h1 (by omega)) hq
    · rw [Bool.not_eq_true] at ho
      unfold okX at ho
      rw [if_neg (by omega), if_neg (by omega), if_neg (by omega)] at ho
      exact brk_at_in X H F (by omega) (fun j hj p h1 h2 => hC j hj p h1 (by omega)) ho
  · have F := X.f A
    have lt := F.lt
    have PB := X.ls (by omega) B (by omega)
    have lb := PB.le
    have PA := X.p A (by omega)
    have hel : x.el = [] := by rcases X.hK x (List.mem_of_getElem? hs) with ⟨e, _⟩ | ⟨e, _⟩ | ⟨e, _⟩ | ⟨_, e⟩ <;> first | omega | exact e
    obtain ⟨t1, g0⟩ := tg_sink hI (.inr (.inl rfl))
    have zu : hc c (u + 1) = 0 := by have := F.hb; simp only [hc]; omega
    have HR := rep_reg X.hr h PA hI PB hJ hx
    have hF : ∀ j, (C j ∨ reads vs ex x.e j = true) → ∀ p : Int, (a : Int) ≤ p → p < ((t + 1 : Nat) : Int) → Flow c v (hc c) j p (-1) := fun j hj p h1 h2 => by
      rcases hj with hj | hj
      · exact hC j hj p (by omega) h2
      · exact (flow_cl c v (hc c) j).hide u p (X.HL u (by omega) (by omega)) (by omega) (by omega) hI.1 (.inr (by rw [Int.toNat_natCast]; exact X.fl A (by omega) h0 hj)) ((HR p).2 ⟨h1, h2⟩) (by omega) (by omega)
    by_cases ho : okX T n vs ex x c0 (jn T n c0 (levX T n vs ex x.e)) = true
    · have hq : bads T n vs ex sm x.bo (jn T n c0 (levX T n vs ex x.e)) ≠ [] := fun e => hb ((bad_at X.hS hs c0).2 ⟨ho, e, by rw [hel]; rfl⟩)
      exact Q (by omega) (by omega) zu (Exi.body h PA hI (by omega) hJ hx) _ _ (Lo.more X H A.lt) (fun j hj p h1 h2 => hF j hj p (by omega) (by omega)) hq
    · rw [Bool.not_eq_true] at ho
      unfold okX at ho
      rw [if_neg (by omega), if_neg (by omega), if_pos hk] at ho
      exact brk_at_in X (Lo.more X H A.lt) F (by omega) (fun j hj p h1 h2 => hF j hj p h1 (by omega)) ho
end
end Go.Proofs.YtcnbifdlkalimabGreat
