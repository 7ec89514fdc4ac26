/-
  The plain mathematics of ways to the end, second part: that the narrowing ends, and that what it leaves is the junction; no condition but those that stand in each lemma.
-/
import Derived.Test.YtcnbifdlkalimaaPlain8
namespace Go.Proofs.Ytcnbifdlkalimaa
open Go.RowKit

/-- one round of the bound that the ways keep below -/
def stepU (c : ByteArray) (t : Int → Int) (U : Int → Int → Bool) (x d : Int) : Bool :=
  decide (x = d) || (decide (x ≠ half c) && (nxt c x).all (fun q => decide (t q = 0) || U q d))

theorem stepU_iff {c : ByteArray} {t : Int → Int} {U : Int → Int → Bool} {x d : Int} : stepU c t U x d = true ↔ x = d ∨ (x ≠ half c ∧ ∀ q, q ∈ nxt c x → t q = 0 ∨ U q d = true) := by
  unfold stepU
  rw [Bool.or_eq_true, Bool.and_eq_true, decide_eq_true_iff, decide_eq_true_iff, List.all_eq_true]
  constructor
  · rintro (h | ⟨h1, h2⟩)
    · exact .inl h
    · refine .inr ⟨h1, fun q hq => ?_⟩
      have := h2 q hq
      rw [Bool.or_eq_true, decide_eq_true_iff] at this
      exact this
  · rintro (h | ⟨h1, h2⟩)
    · exact .inl h
    · refine .inr ⟨h1, fun q hq => ?_⟩
      rw [Bool.or_eq_true, decide_eq_true_iff]
      exact h2 q hq

structure UOk (c : ByteArray) (t : Int → Int) (U : Int → Int → Bool) : Prop where
  trans : ∀ x y d, U x y = true → U y d = true → U x d = true
  dec : ∀ x d, stepU c t U x d = true → U x d = true

theorem UOk.begin (c : ByteArray) (t : Int → Int) : UOk c t (fun _ _ => true) := ⟨fun _ _ _ _ _ => rfl, fun _ _ _ => rfl⟩

theorem UOk.step {c : ByteArray} {t : Int → Int} {U : Int → Int → Bool} (H : UOk c t U) : UOk c t (stepU c t U) := by
  refine ⟨fun x y d h1 h2 => ?_, fun x d h => ?_⟩
  · rcases stepU_iff.1 h1 with rfl | ⟨hx, h3⟩
    · exact h2
    · refine stepU_iff.2 (.inr ⟨hx, fun q hq => ?_⟩)
      rcases h3 q hq with h | h
      · exact .inl h
      · exact .inr (H.trans q y d h (H.dec y d h2))
  · rcases stepU_iff.1 h with rfl | ⟨hx, h3⟩
    · exact stepU_iff.2 (.inl rfl)
    · refine stepU_iff.2 (.inr ⟨hx, fun q hq => ?_⟩)
      rcases h3 q hq with h | h
      · exact .inl h
      · exact .inr (H.dec q d h)

theorem stepU_snoc {c : ByteArray} {t : Int → Int} {U : Int → Int → Bool} (H : UOk c t U) {y z e : Int} (h : stepU c t U y z = true) (hne : y ≠ z) (hu : U z e = true) : stepU c t U y e = true := by
  rcases stepU_iff.1 h with rfl | ⟨hx, h3⟩
  · exact absurd rfl hne
  · refine stepU_iff.2 (.inr ⟨hx, fun q hq => ?_⟩)
    rcases h3 q hq with h | h
    · exact .inl h
    · exact .inr (H.trans q z e h hu)

/-- the ways keep below U; those from place k on below the next round's -/
structure Pass (c : ByteArray) (t a : Int → Int) (U : Int → Int → Bool) (k : Int) : Prop where
  sub : ∀ x d, 0 < t x → OnWay c a x d → U x d = true
  done : ∀ x d, k ≤ x → 0 < t x → OnWay c a x d → stepU c t U x d = true

theorem pass_move {c : ByteArray} {t a : Int → Int} {U : Int → Int → Bool} (H : WOk c t a) (hU : UOk c t U) {x m : Int} (h0 : 0 ≤ x) (h1 : x < half c) (M : MeetAt c t a x m) (P : Pass c t a U (x + 1)) : Pass c t (upd a x m) U x := by
  have H2 := ways_move H h0 h1 M
  have hxm : stepU c t U x m = true := stepU_iff.2 (.inr ⟨by omega, fun q hq => .inr (P.sub q m (M.here q hq).1 (M.here q hq).2)⟩)
  have hs : ∀ z, 0 < t z → z ≠ half c → U z (upd a x m z) = true := fun z hz hne => by
    by_cases e : z = x
    · subst e; rw [upd_at]; exact hU.dec _ _ hxm
    · rw [upd_ne e]; exact P.sub z _ hz ((OnWay.refl _ _ _).snoc hne)
  refine ⟨fun y d hy hw => ?_, fun y d hk hy hw => ?_⟩
  · exact (hw (fun z => 0 < t z ∧ U y z = true) ⟨hy, P.sub y y hy (OnWay.refl _ _ _)⟩ (fun z hz hne => ⟨(H2.down z hz.1 hne).1, hU.trans y z _ hz.2 (hs z hz.1 hne)⟩)).2
  · refine (hw (fun z => 0 < t z ∧ stepU c t U y z = true) ⟨hy, stepU_iff.2 (.inl rfl)⟩ (fun z hz hne => ⟨(H2.down z hz.1 hne).1, ?_⟩)).2
    by_cases e : y = z
    · subst e
      by_cases k : y = x
      · subst k; rw [upd_at]; exact hxm
      · rw [upd_ne k]; exact P.done y _ (by omega) hy ((OnWay.refl _ _ _).snoc hne)
    · exact stepU_snoc hU hz.2 e (hs z hz.1 hne)

theorem pass_keep {c : ByteArray} {t a : Int → Int} {U : Int → Int → Bool} (H : WOk c t a) (hU : UOk c t U) {x q0 : Int} (hq : q0 ∈ nxt c x) (hq0 : t q0 = 0) (P : Pass c t a U (x + 1)) : Pass c t a U x := by
  refine ⟨P.sub, fun y d hk hy hw => ?_⟩
  by_cases k : y = x
  · subst k
    have hs : ∀ z, 0 < t z → z ≠ half c → U z (a z) = true := fun z hz hne => P.sub z _ hz ((OnWay.refl _ _ _).snoc hne)
    refine (hw (fun z => 0 < t z ∧ stepU c t U y z = true) ⟨hy, stepU_iff.2 (.inl rfl)⟩ (fun z hz hne => ⟨(H.down z hz.1 hne).1, ?_⟩)).2
    by_cases e : y = z
    · subst e
      have hl := H.lone y q0 hy hne hq hq0
      have hp := (H.down y hy hne).1
      refine stepU_iff.2 (.inr ⟨hne, fun q hq2 => ?_⟩)
      by_cases e : q = a y
      · rw [e]; exact .inr (P.sub _ _ hp (OnWay.refl _ _ _))
      · refine .inl ?_
        have h3 : q0 ≠ a y := fun e => by rw [e] at hq0; omega
        suffices q = q0 by rw [this]; exact hq0
        clear hq0 hs hw hz P H hU hp
        unfold nxt at hq hq2 hl
        split at hq
        · rename_i h8
          rw [if_pos h8] at hq2 hl
          simp only [List.mem_singleton] at hq hq2
          omega
        · rename_i h8
          rw [if_neg h8] at hq2 hl
          split at hq
          · rename_i h9
            rw [if_pos h9] at hq2 hl
            simp only [List.mem_cons, or_false, List.not_mem_nil] at hq hq2 hl
            omega
          · rename_i h9
            rw [if_neg h9] at hq2 hl
            simp only [List.mem_singleton] at hq hq2
            omega
    · exact stepU_snoc hU hz.2 e (hs z hz.1 hne)
  · exact P.done y d (by omega) hy hw

theorem pass_begin {c : ByteArray} {t a : Int → Int} {U : Int → Int → Bool} (H : WOk c t a) (hs : ∀ x d, 0 < t x → OnWay c a x d → U x d = true) : Pass c t a U (half c) := by
  refine ⟨hs, fun x d hk hx hw => ?_⟩
  have hp := H.pos x hx
  have e : x = half c := by omega
  rcases hw.cases with h | ⟨h, _⟩
  · exact stepU_iff.2 (.inl h.symm)
  · exact absurd e h

/-- where the bound turns no more, no way does -/
theorem fix_stays {c : ByteArray} {t a : Int → Int} {U : Int → Int → Bool} (H : WOk c t a) (hU : UOk c t U) (hs : ∀ x d, 0 < t x → OnWay c a x d → U x d = true) (hfix : ∀ x d, 0 ≤ x → x ≤ half c → 0 ≤ d → d ≤ half c → U x d = true → stepU c t U x d = true)
    {x m : Int} (h0 : 0 ≤ x) (h1 : x < half c) (M : MeetAt c t a x m) : m = a x := by
  obtain ⟨hx, hm, hlt⟩ := M.own H h0 h1
  have hmp := H.pos m hm
  have hax := (H.down x hx (by omega))
  have hap := H.pos (a x) hax.1
  have key : ∀ y d, 0 < t y → 0 ≤ d → d ≤ half c → U y d = true → OnWay c a y d := by
    intro y d hy hd0 hd1 hu
    by_cases e : d = y
    · rw [e]; exact OnWay.refl _ _ _
    · refine on_way H (t y).toNat y d (by omega) hy e (fun hR => ?_)
      have := hR (fun z => (0 < t z → U z d = true) ∧ z ≠ d) (fun z hz hzd => ⟨fun _ => by rw [show z = y from hz]; exact hu, hzd⟩) (fun z z2 hz he hzd => ⟨fun hz2 => ?_, hzd⟩)
      · have hK := this.1 (by rw [H.fin]; omega)
        have hh := (half_bd c).1
        rcases stepU_iff.1 (hfix (half c) d hh (Int.le_refl _) hd0 hd1 hK) with h | ⟨h, _⟩
        · exact this.2 h
        · exact h rfl
      · have hz1 := H.full z z2 he.1 he.2.1 he.2.2 hz2
        rcases stepU_iff.1 (hfix z d he.1 (by have := he.2.1; omega) hd0 hd1 (hz.1 hz1)) with h | ⟨_, h⟩
        · exact absurd h hz.2
        · rcases h z2 he.2.2 with h | h
          · omega
          · exact h
  have hmx : m ≠ x := fun e => by rw [e] at hlt; omega
  -- a x is common
  have hcom : ∀ q, q ∈ nxt c x → OnWay c a q (a x) := fun q hq => by
    have hu := hs x (a x) hx ((OnWay.refl _ _ _).snoc (by omega))
    rcases stepU_iff.1 (hfix x (a x) h0 (by omega) hap.1 hap.2 hu) with h | ⟨_, h⟩
    · exact absurd (congrArg t h) (by omega)
    · rcases h q hq with h | h
      · have := (M.here q hq).1; omega
      · exact key q (a x) (M.here q hq).1 hap.1 hap.2 h
  have hle := way_le H hm (M.low (a x) hcom)
  have hu : U x m = true := hU.dec x m (stepU_iff.2 (.inr ⟨by omega, fun q hq => .inr (hs q m (M.here q hq).1 (M.here q hq).2)⟩))
  rcases (key x m hx hmp.1 hmp.2 hu).cases with h | ⟨_, h⟩
  · exact absurd h hmx
  · exact H.inj m (a x) hm (by have := way_le H hax.1 h; omega)

/-- how many of the first k are below U's row x; the same of the first j rows -/
def rowC (U : Int → Int → Bool) (x : Int) : Nat → Nat
  | 0 => 0
  | k + 1 => rowC U x k + (if U x k then 1 else 0)
def gridC (U : Int → Int → Bool) (k : Nat) : Nat → Nat
  | 0 => 0
  | j + 1 => gridC U k j + rowC U j k

theorem rowC_le {U V : Int → Int → Bool} {x : Int} (h : ∀ d, V x d = true → U x d = true) (k : Nat) : rowC V x k ≤ rowC U x k ∧ (rowC V x k = rowC U x k → ∀ d : Nat, d < k → U x d = true → V x d = true) := by
  induction k with
  | zero => exact ⟨Nat.le_refl _, fun _ d hd => by omega⟩
  | succ k ih =>
    have hk := h k
    cases hv : V x k <;> cases hu : U x k
    · simp only [rowC, hv, hu]
      refine ⟨by simpa using ih.1, fun e d hd hdu => ?_⟩
      by_cases e2 : d = k
      · rw [e2, hu] at hdu; exact absurd hdu (by simp)
      · exact ih.2 (by simpa using e) d (by omega) hdu
    · simp only [rowC, hv, hu]
      refine ⟨by simp; omega, fun e => ?_⟩
      simp at e
      omega
    · rw [hv, hu] at hk; exact absurd (hk rfl) (by simp)
    · simp only [rowC, hv, hu]
      refine ⟨by simpa using ih.1, fun e d hd hdu => ?_⟩
      by_cases e2 : d = k
      · rw [e2]; exact hv
      · exact ih.2 (by simpa using e) d (by omega) hdu

theorem gridC_le {U V : Int → Int → Bool} (h : ∀ x d, V x d = true → U x d = true) (k j : Nat) : gridC V k j ≤ gridC U k j ∧ (gridC V k j = gridC U k j → ∀ x d : Nat, x < j → d < k → U x d = true → V x d = true) := by
  induction j with
  | zero => exact ⟨Nat.le_refl _, fun _ x d hx => by omega⟩
  | succ j ih =>
    have hr := rowC_le (h j) k
    simp only [gridC]
    refine ⟨by omega, fun e x d hx hd hu => ?_⟩
    by_cases e2 : x = j
    · rw [e2] at hu ⊢; exact hr.2 (by omega) d hd hu
    · exact ih.2 (by omega) x d (by omega) hd hu

/-- how far the bound can still fall -/
def meas (c : ByteArray) (U : Int → Int → Bool) : Nat := gridC U ((half c).toNat + 1) ((half c).toNat + 1)

theorem meas_falls {c : ByteArray} {t a : Int → Int} {U : Int → Int → Bool} (H : WOk c t a) (hU : UOk c t U) (hs : ∀ x d, 0 < t x → OnWay c a x d → U x d = true) {x m : Int} (h0 : 0 ≤ x) (h1 : x < half c) (M : MeetAt c t a x m) (hne : m ≠ a x) : meas c (stepU c t U) < meas c U := by
  have hg := gridC_le (U := U) (V := stepU c t U) (fun x d h => hU.dec x d h) ((half c).toNat + 1) ((half c).toNat + 1)
  unfold meas
  rcases Nat.lt_or_ge (gridC (stepU c t U) ((half c).toNat + 1) ((half c).toNat + 1)) (gridC U ((half c).toNat + 1) ((half c).toNat + 1)) with h | h
  · exact h
  · exfalso
    refine hne (fix_stays H hU hs (fun y d hy0 hy1 hd0 hd1 hu => ?_) h0 h1 M)
    have := hg.2 (by omega) y.toNat d.toNat (by omega) (by omega)
    rw [Int.toNat_of_nonneg hy0, Int.toNat_of_nonneg hd0] at this
    exact this hu

theorem meas_le {c : ByteArray} {t : Int → Int} {U : Int → Int → Bool} (hU : UOk c t U) : meas c (stepU c t U) ≤ meas c U :=
  (gridC_le (U := U) (V := stepU c t U) (fun x d h => hU.dec x d h) ((half c).toNat + 1) ((half c).toNat + 1)).1

/-- ways that are narrowed -/
structure Narrow (c : ByteArray) (t a : Int → Int) : Prop where
  w : WOk c t a
  m : ∀ x, 0 ≤ x → x < half c → (∀ q, q ∈ nxt c x → 0 < t q) → MeetAt c t a x (a x)

theorem junction_found {c : ByteArray} {t a : Int → Int} (hr : Ranged c) (N : Narrow c t a) {i : Int} (h0 : 0 ≤ i) (h1 : i < half c) (hall : ∀ x, Reach c (One i) (-1) x → 0 < t x) : IsJ c i (a i) := by
  have H := N.w
  have hi := hall i (Reach.start rfl (by omega))
  have hd := H.down i hi (by omega)
  have hp := H.pos _ hd.1
  have hne : a i ≠ i := fun e => by rw [e] at hd; omega
  have hon : OnAll c i (a i) := fun hR => by
    have := hR (fun x => Reach c (One i) (-1) x ∧ x ≠ a i ∧ OnWay c a x (a i)) (fun x hx hw => ?_) (fun x y hx he hw => ?_)
    · rcases this.2.2.cases with h | ⟨h, _⟩
      · exact this.2.1 h.symm
      · exact h rfl
    · have hx : x = i := hx
      subst hx
      exact ⟨Reach.start rfl (by omega), hw, (OnWay.refl _ _ _).snoc (by omega)⟩
    · have hy := hx.1.step he (by have := (hr x y he).1; omega)
      refine ⟨hy, hw, ?_⟩
      rcases hx.2.2.cases with h | ⟨_, h⟩
      · exact absurd h.symm hx.2.1
      · exact ((N.m x he.1 he.2.1 (fun q hq => hall q (hx.1.step ⟨he.1, he.2.1, hq⟩ (by have := (hr x q ⟨he.1, he.2.1, hq⟩).1; omega)))).here y he.2.2).2.trans h
  refine ⟨hp.1, hp.2, hne, hon, fun b hb0 hb1 hbi hbj hob hR => ?_⟩
  have hbpos := hall b (hR.free hr h0)
  have hw := on_way H (t i).toNat i b (by omega) hi hbi hob
  have hlt : t b < t (a i) := by
    rcases hw.cases with h | ⟨_, h⟩
    · exact absurd h hbi
    · rcases (way_pos H hd.1 h).2 with h2 | h2
      · exact absurd h2 hbj
      · exact h2
  have hnot : ¬ OnAll c b (a i) := fun ho => by
    have := way_le H hbpos (on_way H (t b).toNat b (a i) (by omega) hbpos (fun e => hbj e.symm) ho)
    omega
  exact hnot (fun hK => hon (hR.trans hK))
end Go.Proofs.Ytcnbifdlkalimaa
