/-
  The walks of the package translation, fifteenth part: statements; for every translator.
-/
import Derived.Test.YtcnbifdlkalimabGreatTrnB
namespace Go.Proofs.YtcnbifdlkalimabGreat
open Go.RowKit
set_option linter.unusedVariables false
set_option maxRecDepth 100000

set_option maxHeartbeats 1600000 in
theorem statement_1 (b : Nat) (s : ByteArray) (hs : s.size ≤ 300) (k : Nat) (ih : Kp (StGo b s k)) (ou : Int) (q : Tq) (S : Nat → Value) (w : World) (H : TrAt w b s q S) (G : Gd s q) (hk : rem s q.r + 2 ≤ k + 1) (he : q.r.er = 0) (hp : pot s q ≤ 6000) (h1 : tok s q.r = 62) :
    Calls Tryz.prog 95 #[.pointer (some ⟨b, 0, none⟩), .int .i64 ou] w (StPost b s S w (stmQ s (k + 1) ou q)) := by
  have hP := peekR_any b s q.r w H.rdAt (G.ok hs)
  have hA := fun (w1 : World) (T : RdTo w w1 b (adv s q.r)) => H.rd T
  have Ga : Gd s { q with r := adv s q.r } := G.r (adv_le G.le)
  have pa : pot s { q with r := adv s q.r } ≤ 6000 := potOf (potR_adv _ _) hp
  have ka : rem s (adv s q.r) + 1 ≤ k := by have := rem_adv s q.r; omega
  obtain ⟨y, hy⟩ : ∃ y, stmQ s (k + 1) ou q = y := ⟨_, rfl⟩
  obtain ⟨a, ha⟩ : ∃ a, (adv s q.r).a = a := ⟨_, rfl⟩
  rw [hy]
  simp only [stmQ] at hy
  rw [if_pos h1] at hy
  rw [h1] at hP
  have hC : Kp (∀ w1, RdTo w w1 b (adv s q.r) → Calls Tryz.prog 163 #[.pointer (some ⟨b, 0, none⟩), .agg #[.int .i64 0, .int .i64 a, .int .i64 ou, .int .i64 0, .bool false, .bool false, .bool false, .bool false, .bool false, .bool false, .bool false, .bool false, .bool false, .bool false, .bool false, .bool false]] (w1.alloc (.cells #[.int .i64 0, .int .i64 a, .int .i64 ou, .int .i64 0, .bool false, .bool false, .bool false, .bool false, .bool false, .bool false, .bool false, .bool false, .bool false, .bool false, .bool false, .bool false] 109)) (StPost b s S (w1.alloc (.cells #[.int .i64 0, .int .i64 a, .int .i64 ou, .int .i64 0, .bool false, .bool false, .bool false, .bool false, .bool false, .bool false, .bool false, .bool false, .bool false, .bool false, .bool false, .bool false] 109)) y)) := ⟨fun w1 T => by
    rw [← hy, ← ha]
    exact write_any b s hs { q with r := adv s q.r } ⟨0, ((adv s q.r).a : Int), ou, 0, none6, none6⟩ S _ (H.rd T |>.step ((Below.refl _ _).alloc (Nat.le_refl _) _)) Ga (by omega)⟩
  replace hP : Kp _ := ⟨hP⟩
  replace hA : Kp _ := ⟨hA⟩
  clear H G hk he hp Ga pa hy
  go_enter Tryz.func95, Tryz.ntmps95
  go_wp2_with fail
  refine hP.out.mono ?_
  rintro e w1 ⟨rfl, R1⟩
  have c1 : w1.cell? ⟨b, 1, none⟩ = some (.int .i64 a) := by rw [← ha]; exact R1.c1
  have hb1 := (hA.out w1 R1).lt
  replace R1 : Kp _ := ⟨R1⟩
  go_wp2_with fail
  refine (hC.out _ R1.out).mono ?_
  rintro e w2 ⟨rfl, S2, A2, T2⟩
  replace A2 : Kp _ := ⟨A2⟩
  replace T2 : Kp _ := ⟨T2⟩
  go_wp2_with fail
  first | go_end0 | refine bodyPost_ret (results_none rfl _ _ _) rfl ?_
  exact ⟨rfl, S2, A2.out, ((TrTo.rd R1.out).trans (TrTo.below ((Below.refl _ _).alloc (Nat.le_refl _) _))).trans T2.out⟩

set_option maxHeartbeats 1600000 in
theorem statement_2 (b : Nat) (s : ByteArray) (hs : s.size ≤ 300) (k : Nat) (ih : Kp (StGo b s k)) (ou : Int) (q : Tq) (S : Nat → Value) (w : World) (H : TrAt w b s q S) (G : Gd s q) (hk : rem s q.r + 2 ≤ k + 1) (he : q.r.er = 0) (hp : pot s q ≤ 6000) (h1 : ¬ tok s q.r = 62) (h2 : tok s q.r = 63) :
    Calls Tryz.prog 95 #[.pointer (some ⟨b, 0, none⟩), .int .i64 ou] w (StPost b s S w (stmQ s (k + 1) ou q)) := by
  have hP := peekR_any b s q.r w H.rdAt (G.ok hs)
  have hA := fun (w1 : World) (T : RdTo w w1 b (adv s q.r)) => H.rd T
  have Ga : Gd s { q with r := adv s q.r } := G.r (adv_le G.le)
  have pa : pot s { q with r := adv s q.r } ≤ 6000 := potOf (potR_adv _ _) hp
  have ka : rem s (adv s q.r) + 1 ≤ k := by have := rem_adv s q.r; omega
  obtain ⟨y, hy⟩ : ∃ y, stmQ s (k + 1) ou q = y := ⟨_, rfl⟩
  obtain ⟨a, ha⟩ : ∃ a, (adv s q.r).a = a := ⟨_, rfl⟩
  rw [hy]
  simp only [stmQ] at hy
  rw [if_neg h1, if_pos h2] at hy
  rw [h2] at hP
  have hC : Kp (∀ w1, RdTo w w1 b (adv s q.r) → Calls Tryz.prog 164 #[.pointer (some ⟨b, 0, none⟩), .agg #[.int .i64 0, .int .i64 a, .int .i64 ou, .int .i64 0, .bool false, .bool false, .bool false, .bool false, .bool false, .bool false, .bool false, .bool false, .bool false, .bool false, .bool false, .bool false]] (w1.alloc (.cells #[.int .i64 0, .int .i64 a, .int .i64 ou, .int .i64 0, .bool false, .bool false, .bool false, .bool false, .bool false, .bool false, .bool false, .bool false, .bool false, .bool false, .bool false, .bool false] 109)) (StPost b s S (w1.alloc (.cells #[.int .i64 0, .int .i64 a, .int .i64 ou, .int .i64 0, .bool false, .bool false, .bool false, .bool false, .bool false, .bool false, .bool false, .bool false, .bool false, .bool false, .bool false, .bool false] 109)) y)) := ⟨fun w1 T => by
    rw [← hy, ← ha]
    exact choose_any b s hs k ih { q with r := adv s q.r } ⟨0, ((adv s q.r).a : Int), ou, 0, none6, none6⟩ S _ (H.rd T |>.step ((Below.refl _ _).alloc (Nat.le_refl _) _)) Ga (by show tok s (adv s q.r) = 63; rw [tok_adv]; exact h2) ka pa⟩
  replace hP : Kp _ := ⟨hP⟩
  replace hA : Kp _ := ⟨hA⟩
  clear H G hk he hp Ga pa hy h1
  go_enter Tryz.func95, Tryz.ntmps95
  go_wp2_with fail
  refine hP.out.mono ?_
  rintro e w1 ⟨rfl, R1⟩
  have c1 : w1.cell? ⟨b, 1, none⟩ = some (.int .i64 a) := by rw [← ha]; exact R1.c1
  have hb1 := (hA.out w1 R1).lt
  replace R1 : Kp _ := ⟨R1⟩
  go_wp2_with fail
  refine (hC.out _ R1.out).mono ?_
  rintro e w2 ⟨rfl, S2, A2, T2⟩
  replace A2 : Kp _ := ⟨A2⟩
  replace T2 : Kp _ := ⟨T2⟩
  go_wp2_with fail
  first | go_end0 | refine bodyPost_ret (results_none rfl _ _ _) rfl ?_
  exact ⟨rfl, S2, A2.out, ((TrTo.rd R1.out).trans (TrTo.below ((Below.refl _ _).alloc (Nat.le_refl _) _))).trans T2.out⟩

set_option maxHeartbeats 1600000 in
theorem statement_3 (b : Nat) (s : ByteArray) (hs : s.size ≤ 300) (k : Nat) (ih : Kp (StGo b s k)) (ou : Int) (q : Tq) (S : Nat → Value) (w : World) (H : TrAt w b s q S) (G : Gd s q) (hk : rem s q.r + 2 ≤ k + 1) (he : q.r.er = 0) (hp : pot s q ≤ 6000) (h1 : ¬ tok s q.r = 62) (h2 : ¬ tok s q.r = 63) (h3 : tok s q.r = 64) :
    Calls Tryz.prog 95 #[.pointer (some ⟨b, 0, none⟩), .int .i64 ou] w (StPost b s S w (stmQ s (k + 1) ou q)) := by
  have hP := peekR_any b s q.r w H.rdAt (G.ok hs)
  have hA := fun (w1 : World) (T : RdTo w w1 b (adv s q.r)) => H.rd T
  have Ga : Gd s { q with r := adv s q.r } := G.r (adv_le G.le)
  have pa : pot s { q with r := adv s q.r } ≤ 6000 := potOf (potR_adv _ _) hp
  have ka : rem s (adv s q.r) + 1 ≤ k := by have := rem_adv s q.r; omega
  obtain ⟨y, hy⟩ : ∃ y, stmQ s (k + 1) ou q = y := ⟨_, rfl⟩
  obtain ⟨a, ha⟩ : ∃ a, (adv s q.r).a = a := ⟨_, rfl⟩
  rw [hy]
  simp only [stmQ] at hy
  rw [if_neg h1, if_neg h2, if_pos h3] at hy
  rw [h3] at hP
  have hC : Kp (∀ w1, RdTo w w1 b (adv s q.r) → Calls Tryz.prog 165 #[.pointer (some ⟨b, 0, none⟩), .agg #[.int .i64 0, .int .i64 a, .int .i64 ou, .int .i64 0, .bool false, .bool false, .bool false, .bool false, .bool false, .bool false, .bool false, .bool false, .bool false, .bool false, .bool false, .bool false]] (w1.alloc (.cells #[.int .i64 0, .int .i64 a, .int .i64 ou, .int .i64 0, .bool false, .bool false, .bool false, .bool false, .bool false, .bool false, .bool false, .bool false, .bool false, .bool false, .bool false, .bool false] 109)) (StPost b s S (w1.alloc (.cells #[.int .i64 0, .int .i64 a, .int .i64 ou, .int .i64 0, .bool false, .bool false, .bool false, .bool false, .bool false, .bool false, .bool false, .bool false, .bool false, .bool false, .bool false, .bool false] 109)) y)) := ⟨fun w1 T => by
    rw [← hy, ← ha]
    exact repeat_any b s hs k ih { q with r := adv s q.r } ⟨0, ((adv s q.r).a : Int), ou, 0, none6, none6⟩ S _ (H.rd T |>.step ((Below.refl _ _).alloc (Nat.le_refl _) _)) Ga (by show tok s (adv s q.r) = 64; rw [tok_adv]; exact h3) ka pa⟩
  replace hP : Kp _ := ⟨hP⟩
  replace hA : Kp _ := ⟨hA⟩
  clear H G hk he hp Ga pa hy h1 h2
  go_enter Tryz.func95, Tryz.ntmps95
  go_wp2_with fail
  refine hP.out.mono ?_
  rintro e w1 ⟨rfl, R1⟩
  have c1 : w1.cell? ⟨b, 1, none⟩ = some (.int .i64 a) := by rw [← ha]; exact R1.c1
  have hb1 := (hA.out w1 R1).lt
  replace R1 : Kp _ := ⟨R1⟩
  go_wp2_with fail
  refine (hC.out _ R1.out).mono ?_
  rintro e w2 ⟨rfl, S2, A2, T2⟩
  replace A2 : Kp _ := ⟨A2⟩
  replace T2 : Kp _ := ⟨T2⟩
  go_wp2_with fail
  first | go_end0 | refine bodyPost_ret (results_none rfl _ _ _) rfl ?_
  exact ⟨rfl, S2, A2.out, ((TrTo.rd R1.out).trans (TrTo.below ((Below.refl _ _).alloc (Nat.le_refl _) _))).trans T2.out⟩

set_option maxHeartbeats 1600000 in
theorem statement_4 (b : Nat) (s : ByteArray) (hs : s.size ≤ 300) (k : Nat) (ih : Kp (StGo b s k)) (ou : Int) (q : Tq) (S : Nat → Value) (w : World) (H : TrAt w b s q S) (G : Gd s q) (hk : rem s q.r + 2 ≤ k + 1) (he : q.r.er = 0) (hp : pot s q ≤ 6000) (h1 : ¬ tok s q.r = 62) (h2 : ¬ tok s q.r = 63) (h3 : ¬ tok s q.r = 64) :
    Calls Tryz.prog 95 #[.pointer (some ⟨b, 0, none⟩), .int .i64 ou] w (StPost b s S w (stmQ s (k + 1) ou q)) := by
  have hP := peekR_any b s q.r w H.rdAt (G.ok hs)
  have hA := fun (w1 : World) (T : RdTo w w1 b (adv s q.r)) => H.rd T
  have Ga : Gd s { q with r := adv s q.r } := G.r (adv_le G.le)
  have pa : pot s { q with r := adv s q.r } ≤ 6000 := potOf (potR_adv _ _) hp
  have ka : rem s (adv s q.r) + 1 ≤ k := by have := rem_adv s q.r; omega
  obtain ⟨y, hy⟩ : ∃ y, stmQ s (k + 1) ou q = y := ⟨_, rfl⟩
  obtain ⟨a, ha⟩ : ∃ a, (adv s q.r).a = a := ⟨_, rfl⟩
  rw [hy]
  simp only [stmQ] at hy
  rw [if_neg h1, if_neg h2, if_neg h3] at hy
  have k1 : (tok s q.r == 62) = false := beq_eq_false_iff_ne.2 h1
  have k2 : (tok s q.r == 63) = false := beq_eq_false_iff_ne.2 h2
  have k3 : (tok s q.r == 64) = false := beq_eq_false_iff_ne.2 h3
  have hC : Kp (∀ w1, RdTo w w1 b (adv s q.r) → Calls Tryz.prog 166 #[.pointer (some ⟨b, 0, none⟩), .agg #[.int .i64 0, .int .i64 a, .int .i64 ou, .int .i64 0, .bool false, .bool false, .bool false, .bool false, .bool false, .bool false, .bool false, .bool false, .bool false, .bool false, .bool false, .bool false]] (w1.alloc (.cells #[.int .i64 0, .int .i64 a, .int .i64 ou, .int .i64 0, .bool false, .bool false, .bool false, .bool false, .bool false, .bool false, .bool false, .bool false, .bool false, .bool false, .bool false, .bool false] 109)) (StPost b s S (w1.alloc (.cells #[.int .i64 0, .int .i64 a, .int .i64 ou, .int .i64 0, .bool false, .bool false, .bool false, .bool false, .bool false, .bool false, .bool false, .bool false, .bool false, .bool false, .bool false, .bool false] 109)) y)) := ⟨fun w1 T => by
    rw [← hy, ← ha]
    exact assign_any b s hs { q with r := adv s q.r } ⟨0, ((adv s q.r).a : Int), ou, 0, none6, none6⟩ S _ (H.rd T |>.step ((Below.refl _ _).alloc (Nat.le_refl _) _)) Ga (by omega)⟩
  generalize tok s q.r = t at *
  clear h1 h2 h3
  replace hP : Kp _ := ⟨hP⟩
  replace hA : Kp _ := ⟨hA⟩
  clear H G hk he hp Ga pa hy
  go_enter Tryz.func95, Tryz.ntmps95
  go_wp2_with fail
  refine hP.out.mono ?_
  rintro e w1 ⟨rfl, R1⟩
  have c1 : w1.cell? ⟨b, 1, none⟩ = some (.int .i64 a) := by rw [← ha]; exact R1.c1
  have hb1 := (hA.out w1 R1).lt
  replace R1 : Kp _ := ⟨R1⟩
  go_wp2_with fail
  refine (hC.out _ R1.out).mono ?_
  rintro e w2 ⟨rfl, S2, A2, T2⟩
  replace A2 : Kp _ := ⟨A2⟩
  replace T2 : Kp _ := ⟨T2⟩
  go_wp2_with fail
  first | go_end0 | refine bodyPost_ret (results_none rfl _ _ _) rfl ?_
  exact ⟨rfl, S2, A2.out, ((TrTo.rd R1.out).trans (TrTo.below ((Below.refl _ _).alloc (Nat.le_refl _) _))).trans T2.out⟩

theorem statement_step (b : Nat) (s : ByteArray) (hs : s.size ≤ 300) (k : Nat) (ih : Kp (StGo b s k)) : StGo b s (k + 1) := by
  intro ou q S w H G hk he hp
  by_cases h1 : tok s q.r = 62
  · exact statement_1 b s hs k ih ou q S w H G hk he hp h1
  · by_cases h2 : tok s q.r = 63
    · exact statement_2 b s hs k ih ou q S w H G hk he hp h1 h2
    · by_cases h3 : tok s q.r = 64
      · exact statement_3 b s hs k ih ou q S w H G hk he hp h1 h2 h3
      · exact statement_4 b s hs k ih ou q S w H G hk he hp h1 h2 h3

theorem statement_any (b : Nat) (s : ByteArray) (hs : s.size ≤ 300) : ∀ k, StGo b s k
  | 0 => fun ou q S w H G hk he hp => by omega
  | k + 1 => statement_step b s hs k ⟨statement_any b s hs k⟩

set_option maxHeartbeats 1600000 in
theorem body_any (b : Nat) (s : ByteArray) (hs : s.size ≤ 300) (q : Tq) (S : Nat → Value) (w : World) (H : TrAt w b s q S) (G : Gd s q) (hp : pot s q ≤ 6000) :
    Calls Tryz.prog 39 #[.pointer (some ⟨b, 0, none⟩)] w (StPost b s S w (bodyQ s (s.size + 1) q)) := by
  obtain ⟨fin, hfin⟩ : ∃ fin, bodyQ s (s.size + 1) q = fin := ⟨_, rfl⟩
  rw [hfin]
  have hB : Kp (∀ (z : Tq) w1 S1, TrAt w1 b s z S1 → Gd s z → Calls Tryz.prog 94 #[.pointer (some ⟨b, 0, none⟩)] w1 fun e w' => e = .returned (.bool (decide (z.r.er = 0 ∧ (adv s z.r).a < s.size))) ∧ RdTo w1 w' b (adv s z.r)) := ⟨fun z w1 S1 A Gz => isBeforeEnd_any b s z.r w1 A.rdAt (Gz.ok hs)⟩
  have mk : muR s q.r ≤ s.size + 1 := by have := rem_le s q.r; unfold muR; split <;> omega
  have H0 : Kp _ := ⟨H⟩
  have G0 : Kp _ := ⟨G⟩
  replace hp : Kp _ := ⟨hp⟩
  replace mk : Kp _ := ⟨mk⟩
  replace hfin : Kp _ := ⟨hfin⟩
  clear H G
  go_enter Tryz.func39, Tryz.ntmps39
  go_wp2_with fail
  go_loopg [2] (muR s q.r) (fun gm pv wr => ∃ (j : Nat) (z : Tq) (S' : Nat → Value), Kp (TrAt wr b s z S') ∧ Kp (Gd s z) ∧ Kp (pot s z ≤ 6000) ∧ Kp (muR s z.r ≤ j) ∧ Kp (bodyQ s j z = fin) ∧ Kp (TrTo b b S S' w wr) ∧ Kp (gm = muR s z.r))
  case atStart => exact ⟨s.size + 1, q, S, H0, G0, hp, mk, hfin, ⟨TrTo.refl _ _ _ _⟩, ⟨rfl⟩⟩
  case round =>
    clear H0 G0 hp mk hfin
    obtain ⟨j, z, S', hA, hG, hp, hj, hf, hT, hm⟩ := hrel
    have hI := hB.out z wr S' hA.out hG.out
    by_cases hc : z.r.er = 0 ∧ (adv s z.r).a < s.size
    · rw [decide_eq_true hc] at hI
      have hmz : muR s z.r = rem s z.r + 1 := by unfold muR; rw [if_pos hc.1]
      have hj1 := hj.out
      obtain ⟨j, rfl⟩ : ∃ i, j = i + 1 := ⟨j - 1, by omega⟩
      have Ga : Gd s { z with r := adv s z.r } := hG.out.r (adv_le hG.out.le)
      have pa : pot s { z with r := adv s z.r } ≤ 6000 := potOf (potR_adv _ _) hp.out
      have hk : rem s z.r + 2 ≤ s.size + 2 := by have := rem_le s z.r; omega
      have ka : rem s (adv s z.r) + 2 ≤ s.size + 2 := by have := rem_le s (adv s z.r); omega
      have hmu := mu_stm (s := s) (ou := -1) hk hc.1
      have hf2 : bodyQ s j (stmQ s (s.size + 2) (-1) { z with r := adv s z.r }) = fin := by
        rw [← hf.out]
        simp only [bodyQ]
        rw [if_pos hc]
      have hS : Kp (∀ w1, RdTo wr w1 b (adv s z.r) → Calls Tryz.prog 95 #[.pointer (some ⟨b, 0, none⟩), .int .i64 (-1)] w1 (StPost b s S' w1 (stmQ s (s.size + 2) (-1) { z with r := adv s z.r }))) := ⟨fun w1 T => statement_any b s hs (s.size + 2) (-1) { z with r := adv s z.r } S' w1 (hA.out.rd T) Ga ka (by show (adv s z.r).er = 0; rw [adv_er]; exact hc.1) pa⟩
      have Gn : Kp (Gd s (stmQ s (s.size + 2) (-1) { z with r := adv s z.r })) := ⟨gd_stm _ _ _ Ga⟩
      have pn : Kp (pot s (stmQ s (s.size + 2) (-1) { z with r := adv s z.r }) ≤ 6000) := ⟨Nat.le_trans (pot_stm s _ _ _ (by show (adv s z.r).er = 0; rw [adv_er]; exact hc.1)) pa⟩
      have jn : Kp (muR s (stmQ s (s.size + 2) (-1) { z with r := adv s z.r }).r ≤ j ∧ muR s (stmQ s (s.size + 2) (-1) { z with r := adv s z.r }).r < muR s z.r) := ⟨by have := hmu.1; omega⟩
      generalize stmQ s (s.size + 2) (-1) { z with r := adv s z.r } = z2 at *
      replace hI : Kp _ := ⟨hI⟩
      replace hf2 : Kp _ := ⟨hf2⟩
      clear hc hmz hj1 Ga pa ka hmu hf hG hp hj hk
      go_wp2_with fail
      refine hI.out.mono ?_
      rintro e w2 ⟨rfl, R2⟩
      replace R2 : Kp _ := ⟨R2⟩
      go_wp2_with fail
      refine (hS.out _ R2.out).mono ?_
      rintro e w3 ⟨rfl, S3, A3, T3⟩
      replace A3 : Kp _ := ⟨A3⟩
      have T4 : Kp (TrTo b b S S3 w w3) := ⟨hT.out.trans ((TrTo.rd R2.out).trans T3)⟩
      clear T3
      go_wp2_with fail
      go_roundg (muR s z2.r)
      case measure => have h1 := hm.out; have h2 := jn.out; omega
      case rel => exact ⟨j, z2, S3, A3, Gn, pn, ⟨jn.out.1⟩, hf2, T4, ⟨rfl⟩⟩
    · rw [decide_eq_false hc] at hI
      have hf2 : { z with r := adv s z.r } = fin := by
        rw [← hf.out]
        cases j with
        | zero => rfl
        | succ j => simp only [bodyQ]; rw [if_neg hc]
      have hA2 : Kp (∀ w1, RdTo wr w1 b (adv s z.r) → TrAt w1 b s fin S') := ⟨fun w1 T => by rw [← hf2]; exact hA.out.rd T⟩
      replace hI : Kp _ := ⟨hI⟩
      clear hc hf2 hf hG hp hj hA
      go_wp2_with fail
      refine hI.out.mono ?_
      rintro e w2 ⟨rfl, R2⟩
      have A2 := hA2.out _ R2
      replace R2 : Kp _ := ⟨R2⟩
      replace A2 : Kp _ := ⟨A2⟩
      go_wp2_with fail
      first | go_end0 | refine bodyPost_ret (results_none rfl _ _ _) rfl ?_
      exact ⟨rfl, S', A2.out, hT.out.trans (TrTo.rd R2.out)⟩
end Go.Proofs.YtcnbifdlkalimabGreat
