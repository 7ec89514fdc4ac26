/-
  The walks of the document's own answer on files (package sluiceref, P4), third part: the last steps of 'cut'; for every text that has the form of a file so far.
-/
import Derived.Test.YtcnbifdlkalimaaGreatRf2
import Derived.Deep.QuietTactic
import Derived.BigQuiet
import Derived.RegionTactic
namespace Go.Proofs.YtcnbifdlkalimaaGreat
open Go.RowKit
set_option linter.unusedVariables false

theorem Two.drewN {w wr : World} {us : List Value} (h : Two w wr us) (k : Nat) : Two w (wr.drewN k) us :=
  h.step (below_drewN (Below.refl _ _) k)

set_option maxHeartbeats 1600000 in
theorem cut_core (s tb r1 vs r2 cd : ByteArray) (n v0 : Int) (w : World) (hs : s.size ≤ maxLen) (k1 : 2 ≤ s.size) (k3 : 1 ≤ n) (k4 : n ≤ 6) (hv0 : (v0 != 83) = false)
    (hbg : Kp (∃ h1 : 1 < (hd s 2).size, (((hd s 2)[0]'(Nat.lt_of_succ_lt h1)).toNat : Int) = v0 ∧ (((hd s 2)[1]'h1).toNat : Int) = n))
    (hR : Kp ((tl s 2).size ≤ maxLen)) (h2 : Kp (n * n ≤ (tl s 2).size)) (hF : Kp (hd (tl s 2) (n * n) = tb ∧ tl (tl s 2) (n * n) = r1)) (hR1 : Kp (r1.size ≤ maxLen)) (h3 : Kp (cOk r1 1 8 = true)) (hV : Kp (cPart r1 1 = vs ∧ cRest r1 1 = r2))
    (hR2 : Kp (r2.size ≤ maxLen)) (h4 : Kp (cOk r2 2 200 = true)) (hC : Kp (cPart r2 2 = cd ∧ cRest r2 2 = { data := #[] })) (ht : tb.size ≤ maxLen) (hvs : vs.size ≤ maxLen) (hcd : cd.size ≤ maxLen) (hok : varsOk vs n = true) :
    Calls Tryz.prog 45 #[.string s] w fun e w' => e = .returned (.tuple #[.agg #[.int .i64 n, .string tb, .string vs, .string cd, .int .i64 (half cd)], .bool (tabN tb == n)]) ∧ Below w.heap.size w w' := by
  have hall : Kp (∀ i : Nat, i < vs.size → bv vs i < n) := ⟨fun i hi => of_decide_eq_true (allTo_true.1 hok i hi)⟩
  clear hok
  have hmx : s.size ≤ maxLen := hs
  have hmx2 : vs.size ≤ maxLen := hvs
  have hmx3 : cd.size ≤ maxLen := hcd
  unfold maxLen at hmx hmx2 hmx3
  have t0 := Two.start w
  have m0 := sq_le _ k3 k4
  have m1 : 0 ≤ n * n := Int.mul_nonneg (by omega) (by omega)
  go_enter Tryz.func45, Tryz.ntmps45
  go_wp2_with fail
  refine (first_yes s 2 _ hs (by omega) (by omega)).mono ?_
  rintro e w1 ⟨rfl, hb1⟩
  replace t0 := t0.step hb1
  clear hb1
  obtain ⟨hb, e0, e1⟩ := hbg.out
  clear hbg
  generalize hd s 2 = bg at *
  have ol := t0.o.lt
  have pl := t0.p.lt
  have q0 := t0.o.c 0 _ rfl
  have q1 := t0.o.c 1 _ rfl
  have q2 := t0.o.c 2 _ rfl
  have q3 := t0.o.c 3 _ rfl
  have q4 := t0.o.c 4 _ rfl
  have g0 := t0.o.f 0 _ rfl
  have g1 := t0.o.f 1 _ rfl
  have g2 := t0.o.f 2 _ rfl
  have g3 := t0.o.f 3 _ rfl
  have g4 := t0.o.f 4 _ rfl
  have r0 := t0.p.c 0 _ rfl
  have r1 := t0.p.c 1 _ rfl
  have r2 := t0.p.c 2 _ rfl
  have r3 := t0.p.c 3 _ rfl
  have r4 := t0.p.c 4 _ rfl
  have k0f := t0.p.f 0 _ rfl
  have k1f := t0.p.f 1 _ rfl
  have k2f := t0.p.f 2 _ rfl
  have k3f := t0.p.f 3 _ rfl
  have k4f := t0.p.f 4 _ rfl
  go_wp2_with fail
  replace t0 : Two w _ [.int .i64 n, .string { data := #[] }, .string { data := #[] }, .string { data := #[] }, .int .i64 0] := t0.set 0 _ (.int .i64 n) rfl
  clear ol pl q0 g0 r0 k0f q1 g1 r1 k1f q2 g2 r2 k2f q3 g3 r3 k3f q4 g4 r4 k4f
  refine (first_yes (tl s 2) (n * n) _ hR.out m1 h2.out).mono ?_
  rintro e w2 ⟨rfl, hb1⟩
  replace t0 := t0.step hb1
  clear hb1
  rw [hF.out.1, hF.out.2]
  have ol := t0.o.lt
  have pl := t0.p.lt
  have q0 := t0.o.c 0 _ rfl
  have q1 := t0.o.c 1 _ rfl
  have q2 := t0.o.c 2 _ rfl
  have q3 := t0.o.c 3 _ rfl
  have q4 := t0.o.c 4 _ rfl
  have g0 := t0.o.f 0 _ rfl
  have g1 := t0.o.f 1 _ rfl
  have g2 := t0.o.f 2 _ rfl
  have g3 := t0.o.f 3 _ rfl
  have g4 := t0.o.f 4 _ rfl
  have r0 := t0.p.c 0 _ rfl
  have r1 := t0.p.c 1 _ rfl
  have r2 := t0.p.c 2 _ rfl
  have r3 := t0.p.c 3 _ rfl
  have r4 := t0.p.c 4 _ rfl
  have k0f := t0.p.f 0 _ rfl
  have k1f := t0.p.f 1 _ rfl
  have k2f := t0.p.f 2 _ rfl
  have k3f := t0.p.f 3 _ rfl
  have k4f := t0.p.f 4 _ rfl
  go_wp2_with fail
  clear ol pl q0 g0 r0 k0f q1 g1 r1 k1f q2 g2 r2 k2f q3 g3 r3 k3f q4 g4 r4 k4f
  refine (counted_yes r1 1 8 _ hR1.out (by omega) (by omega) h3.out).mono ?_
  rintro e w2 ⟨rfl, hb1⟩
  replace t0 := t0.step hb1
  clear hb1
  rw [hV.out.1, hV.out.2]
  have ol := t0.o.lt
  have pl := t0.p.lt
  have q0 := t0.o.c 0 _ rfl
  have q1 := t0.o.c 1 _ rfl
  have q2 := t0.o.c 2 _ rfl
  have q3 := t0.o.c 3 _ rfl
  have q4 := t0.o.c 4 _ rfl
  have g0 := t0.o.f 0 _ rfl
  have g1 := t0.o.f 1 _ rfl
  have g2 := t0.o.f 2 _ rfl
  have g3 := t0.o.f 3 _ rfl
  have g4 := t0.o.f 4 _ rfl
  have r0 := t0.p.c 0 _ rfl
  have r1 := t0.p.c 1 _ rfl
  have r2 := t0.p.c 2 _ rfl
  have r3 := t0.p.c 3 _ rfl
  have r4 := t0.p.c 4 _ rfl
  have k0f := t0.p.f 0 _ rfl
  have k1f := t0.p.f 1 _ rfl
  have k2f := t0.p.f 2 _ rfl
  have k3f := t0.p.f 3 _ rfl
  have k4f := t0.p.f 4 _ rfl
  go_wp2_with fail
  clear ol pl q0 g0 r0 k0f q1 g1 r1 k1f q2 g2 r2 k2f q3 g3 r3 k3f q4 g4 r4 k4f
  refine (counted_yes r2 2 200 _ hR2.out (by omega) (by omega) h4.out).mono ?_
  rintro e w2 ⟨rfl, hb1⟩
  replace t0 := t0.step hb1
  clear hb1
  rw [hC.out.1, hC.out.2]
  have ol := t0.o.lt
  have pl := t0.p.lt
  have q0 := t0.o.c 0 _ rfl
  have q1 := t0.o.c 1 _ rfl
  have q2 := t0.o.c 2 _ rfl
  have q3 := t0.o.c 3 _ rfl
  have q4 := t0.o.c 4 _ rfl
  have g0 := t0.o.f 0 _ rfl
  have g1 := t0.o.f 1 _ rfl
  have g2 := t0.o.f 2 _ rfl
  have g3 := t0.o.f 3 _ rfl
  have g4 := t0.o.f 4 _ rfl
  have r0 := t0.p.c 0 _ rfl
  have r1 := t0.p.c 1 _ rfl
  have r2 := t0.p.c 2 _ rfl
  have r3 := t0.p.c 3 _ rfl
  have r4 := t0.p.c 4 _ rfl
  have k0f := t0.p.f 0 _ rfl
  have k1f := t0.p.f 1 _ rfl
  have k2f := t0.p.f 2 _ rfl
  have k3f := t0.p.f 3 _ rfl
  have k4f := t0.p.f 4 _ rfl
  go_wp2_with fail
  clear ol pl q0 g0 r0 k0f q1 g1 r1 k1f q2 g2 r2 k2f q3 g3 r3 k3f q4 g4 r4 k4f
  replace t0 : Two w _ [.int .i64 n, .string tb, .string { data := #[] }, .string { data := #[] }, .int .i64 0] := t0.set 1 _ (.string tb) rfl
  replace t0 : Two w _ [.int .i64 n, .string tb, .string vs, .string { data := #[] }, .int .i64 0] := t0.set 2 _ (.string vs) rfl
  replace t0 : Two w _ [.int .i64 n, .string tb, .string vs, .string cd, .int .i64 0] := t0.set 3 _ (.string cd) rfl
  replace t0 : Two w _ [.int .i64 n, .string tb, .string vs, .string cd, .int .i64 (half cd)] := t0.set 4 _ (.int .i64 (half cd)) rfl
  go_loopw [11] (fun c wr => ∃ k : Nat, k ≤ vs.size ∧ c = .int .i64 k ∧ Two w wr [.int .i64 n, .string tb, .string vs, .string cd, .int .i64 (half cd)]) (fun c _ => vs.size - (intOf c).toNat)
  case atStart => exact ⟨0, by omega, rfl, t0⟩
  case round =>
    clear t0
    obtain ⟨k, hk, rfl, t0⟩ := hrel
    have ol := t0.o.lt
    have pl := t0.p.lt
    have q0 := t0.o.c 0 _ rfl
    have q1 := t0.o.c 1 _ rfl
    have q2 := t0.o.c 2 _ rfl
    have q3 := t0.o.c 3 _ rfl
    have q4 := t0.o.c 4 _ rfl
    have g0 := t0.o.f 0 _ rfl
    have g1 := t0.o.f 1 _ rfl
    have g2 := t0.o.f 2 _ rfl
    have g3 := t0.o.f 3 _ rfl
    have g4 := t0.o.f 4 _ rfl
    have r0 := t0.p.c 0 _ rfl
    have r1 := t0.p.c 1 _ rfl
    have r2 := t0.p.c 2 _ rfl
    have r3 := t0.p.c 3 _ rfl
    have r4 := t0.p.c 4 _ rfl
    have k0f := t0.p.f 0 _ rfl
    have k1f := t0.p.f 1 _ rfl
    have k2f := t0.p.f 2 _ rfl
    have k3f := t0.p.f 3 _ rfl
    have k4f := t0.p.f 4 _ rfl
    by_cases hlt : k < vs.size
    · have hg := hall.out k hlt
      have e2 := bv_nat vs k hlt
      obtain ⟨c0, c1⟩ := bv_bd vs k
      have hlt2 : (k : Int) < (vs.size : Int) := by omega
      generalize bv vs k = x at *
      go_wp2
      go_quiet (fail)
      go_wp2
      go_roundw
      case rel => exact ⟨k + 1, by omega, by go_num, t0.drewN _⟩
      case measure => simp [intOf]; omega
    · go_wp2_with fail
      refine (size_ref tb _ ht).mono ?_
      rintro e w9 ⟨rfl, rfl⟩
      generalize htn : tabN tb = tn
      replace htn : Kp _ := ⟨htn⟩
      go_wp2_with fail
      go_region
      go_wp2
      exact bodyPost_ret (v := .tuple #[.agg #[.int .i64 n, .string tb, .string vs, .string cd, .int .i64 (half cd)], .bool (tn == n)]) (by simp [results, Tryz.results45, go_sem, q0, q1, q2, q3, q4]) rfl ⟨by rw [htn.out], (((((t0.b.setCell (Nat.le_refl _) _).setCell (Nat.le_refl _) _).setCell (Nat.le_refl _) _).setCell (Nat.le_refl _) _).setCell (Nat.le_refl _) _).drew⟩

set_option maxHeartbeats 1600000 in
theorem cut_core_no (s tb r1 vs r2 cd : ByteArray) (n v0 : Int) (w : World) (hs : s.size ≤ maxLen) (k1 : 2 ≤ s.size) (k3 : 1 ≤ n) (k4 : n ≤ 6) (hv0 : (v0 != 83) = false)
    (hbg : Kp (∃ h1 : 1 < (hd s 2).size, (((hd s 2)[0]'(Nat.lt_of_succ_lt h1)).toNat : Int) = v0 ∧ (((hd s 2)[1]'h1).toNat : Int) = n))
    (hR : Kp ((tl s 2).size ≤ maxLen)) (h2 : Kp (n * n ≤ (tl s 2).size)) (hF : Kp (hd (tl s 2) (n * n) = tb ∧ tl (tl s 2) (n * n) = r1)) (hR1 : Kp (r1.size ≤ maxLen)) (h3 : Kp (cOk r1 1 8 = true)) (hV : Kp (cPart r1 1 = vs ∧ cRest r1 1 = r2))
    (hR2 : Kp (r2.size ≤ maxLen)) (h4 : Kp (cOk r2 2 200 = true)) (hC : Kp (cPart r2 2 = cd ∧ cRest r2 2 = { data := #[] })) (ht : tb.size ≤ maxLen) (hvs : vs.size ≤ maxLen) (hcd : cd.size ≤ maxLen) (hok : varsOk vs n = false) :
    Calls Tryz.prog 45 #[.string s] w fun e w' => NoUnit e ∧ Below w.heap.size w w' := by
  have hall : Kp (¬ ∀ i : Nat, i < vs.size → bv vs i < n) := ⟨fun hall => by
    unfold varsOk at hok
    rw [allTo_true.2 (fun i hi => decide_eq_true (hall i hi))] at hok
    exact absurd hok (by simp)⟩
  clear hok
  have hmx : s.size ≤ maxLen := hs
  have hmx2 : vs.size ≤ maxLen := hvs
  have hmx3 : cd.size ≤ maxLen := hcd
  unfold maxLen at hmx hmx2 hmx3
  have t0 := Two.start w
  have m0 := sq_le _ k3 k4
  have m1 : 0 ≤ n * n := Int.mul_nonneg (by omega) (by omega)
  go_enter Tryz.func45, Tryz.ntmps45
  go_wp2_with fail
  refine (first_yes s 2 _ hs (by omega) (by omega)).mono ?_
  rintro e w1 ⟨rfl, hb1⟩
  replace t0 := t0.step hb1
  clear hb1
  obtain ⟨hb, e0, e1⟩ := hbg.out
  clear hbg
  generalize hd s 2 = bg at *
  have ol := t0.o.lt
  have pl := t0.p.lt
  have q0 := t0.o.c 0 _ rfl
  have q1 := t0.o.c 1 _ rfl
  have q2 := t0.o.c 2 _ rfl
  have q3 := t0.o.c 3 _ rfl
  have q4 := t0.o.c 4 _ rfl
  have g0 := t0.o.f 0 _ rfl
  have g1 := t0.o.f 1 _ rfl
  have g2 := t0.o.f 2 _ rfl
  have g3 := t0.o.f 3 _ rfl
  have g4 := t0.o.f 4 _ rfl
  have r0 := t0.p.c 0 _ rfl
  have r1 := t0.p.c 1 _ rfl
  have r2 := t0.p.c 2 _ rfl
  have r3 := t0.p.c 3 _ rfl
  have r4 := t0.p.c 4 _ rfl
  have k0f := t0.p.f 0 _ rfl
  have k1f := t0.p.f 1 _ rfl
  have k2f := t0.p.f 2 _ rfl
  have k3f := t0.p.f 3 _ rfl
  have k4f := t0.p.f 4 _ rfl
  go_wp2_with fail
  replace t0 : Two w _ [.int .i64 n, .string { data := #[] }, .string { data := #[] }, .string { data := #[] }, .int .i64 0] := t0.set 0 _ (.int .i64 n) rfl
  clear ol pl q0 g0 r0 k0f q1 g1 r1 k1f q2 g2 r2 k2f q3 g3 r3 k3f q4 g4 r4 k4f
  refine (first_yes (tl s 2) (n * n) _ hR.out m1 h2.out).mono ?_
  rintro e w2 ⟨rfl, hb1⟩
  replace t0 := t0.step hb1
  clear hb1
  rw [hF.out.1, hF.out.2]
  have ol := t0.o.lt
  have pl := t0.p.lt
  have q0 := t0.o.c 0 _ rfl
  have q1 := t0.o.c 1 _ rfl
  have q2 := t0.o.c 2 _ rfl
  have q3 := t0.o.c 3 _ rfl
  have q4 := t0.o.c 4 _ rfl
  have g0 := t0.o.f 0 _ rfl
  have g1 := t0.o.f 1 _ rfl
  have g2 := t0.o.f 2 _ rfl
  have g3 := t0.o.f 3 _ rfl
  have g4 := t0.o.f 4 _ rfl
  have r0 := t0.p.c 0 _ rfl
  have r1 := t0.p.c 1 _ rfl
  have r2 := t0.p.c 2 _ rfl
  have r3 := t0.p.c 3 _ rfl
  have r4 := t0.p.c 4 _ rfl
  have k0f := t0.p.f 0 _ rfl
  have k1f := t0.p.f 1 _ rfl
  have k2f := t0.p.f 2 _ rfl
  have k3f := t0.p.f 3 _ rfl
  have k4f := t0.p.f 4 _ rfl
  go_wp2_with fail
  clear ol pl q0 g0 r0 k0f q1 g1 r1 k1f q2 g2 r2 k2f q3 g3 r3 k3f q4 g4 r4 k4f
  refine (counted_yes r1 1 8 _ hR1.out (by omega) (by omega) h3.out).mono ?_
  rintro e w2 ⟨rfl, hb1⟩
  replace t0 := t0.step hb1
  clear hb1
  rw [hV.out.1, hV.out.2]
  have ol := t0.o.lt
  have pl := t0.p.lt
  have q0 := t0.o.c 0 _ rfl
  have q1 := t0.o.c 1 _ rfl
  have q2 := t0.o.c 2 _ rfl
  have q3 := t0.o.c 3 _ rfl
  have q4 := t0.o.c 4 _ rfl
  have g0 := t0.o.f 0 _ rfl
  have g1 := t0.o.f 1 _ rfl
  have g2 := t0.o.f 2 _ rfl
  have g3 := t0.o.f 3 _ rfl
  have g4 := t0.o.f 4 _ rfl
  have r0 := t0.p.c 0 _ rfl
  have r1 := t0.p.c 1 _ rfl
  have r2 := t0.p.c 2 _ rfl
  have r3 := t0.p.c 3 _ rfl
  have r4 := t0.p.c 4 _ rfl
  have k0f := t0.p.f 0 _ rfl
  have k1f := t0.p.f 1 _ rfl
  have k2f := t0.p.f 2 _ rfl
  have k3f := t0.p.f 3 _ rfl
  have k4f := t0.p.f 4 _ rfl
  go_wp2_with fail
  clear ol pl q0 g0 r0 k0f q1 g1 r1 k1f q2 g2 r2 k2f q3 g3 r3 k3f q4 g4 r4 k4f
  refine (counted_yes r2 2 200 _ hR2.out (by omega) (by omega) h4.out).mono ?_
  rintro e w2 ⟨rfl, hb1⟩
  replace t0 := t0.step hb1
  clear hb1
  rw [hC.out.1, hC.out.2]
  have ol := t0.o.lt
  have pl := t0.p.lt
  have q0 := t0.o.c 0 _ rfl
  have q1 := t0.o.c 1 _ rfl
  have q2 := t0.o.c 2 _ rfl
  have q3 := t0.o.c 3 _ rfl
  have q4 := t0.o.c 4 _ rfl
  have g0 := t0.o.f 0 _ rfl
  have g1 := t0.o.f 1 _ rfl
  have g2 := t0.o.f 2 _ rfl
  have g3 := t0.o.f 3 _ rfl
  have g4 := t0.o.f 4 _ rfl
  have r0 := t0.p.c 0 _ rfl
  have r1 := t0.p.c 1 _ rfl
  have r2 := t0.p.c 2 _ rfl
  have r3 := t0.p.c 3 _ rfl
  have r4 := t0.p.c 4 _ rfl
  have k0f := t0.p.f 0 _ rfl
  have k1f := t0.p.f 1 _ rfl
  have k2f := t0.p.f 2 _ rfl
  have k3f := t0.p.f 3 _ rfl
  have k4f := t0.p.f 4 _ rfl
  go_wp2_with fail
  clear ol pl q0 g0 r0 k0f q1 g1 r1 k1f q2 g2 r2 k2f q3 g3 r3 k3f q4 g4 r4 k4f
  replace t0 : Two w _ [.int .i64 n, .string tb, .string { data := #[] }, .string { data := #[] }, .int .i64 0] := t0.set 1 _ (.string tb) rfl
  replace t0 : Two w _ [.int .i64 n, .string tb, .string vs, .string { data := #[] }, .int .i64 0] := t0.set 2 _ (.string vs) rfl
  replace t0 : Two w _ [.int .i64 n, .string tb, .string vs, .string cd, .int .i64 0] := t0.set 3 _ (.string cd) rfl
  replace t0 : Two w _ [.int .i64 n, .string tb, .string vs, .string cd, .int .i64 (half cd)] := t0.set 4 _ (.int .i64 (half cd)) rfl
  go_loopw [11] (fun c wr => ∃ k : Nat, k ≤ vs.size ∧ c = .int .i64 k ∧ Kp (∀ i : Nat, i < k → bv vs i < n) ∧ Two w wr [.int .i64 n, .string tb, .string vs, .string cd, .int .i64 (half cd)]) (fun c _ => vs.size - (intOf c).toNat)
  case atStart => exact ⟨0, by omega, rfl, ⟨fun i hi => absurd hi (by omega)⟩, t0⟩
  case round =>
    clear t0
    obtain ⟨k, hk, rfl, hin, t0⟩ := hrel
    have ol := t0.o.lt
    have pl := t0.p.lt
    have q0 := t0.o.c 0 _ rfl
    have q1 := t0.o.c 1 _ rfl
    have q2 := t0.o.c 2 _ rfl
    have q3 := t0.o.c 3 _ rfl
    have q4 := t0.o.c 4 _ rfl
    have g0 := t0.o.f 0 _ rfl
    have g1 := t0.o.f 1 _ rfl
    have g2 := t0.o.f 2 _ rfl
    have g3 := t0.o.f 3 _ rfl
    have g4 := t0.o.f 4 _ rfl
    have r0 := t0.p.c 0 _ rfl
    have r1 := t0.p.c 1 _ rfl
    have r2 := t0.p.c 2 _ rfl
    have r3 := t0.p.c 3 _ rfl
    have r4 := t0.p.c 4 _ rfl
    have k0f := t0.p.f 0 _ rfl
    have k1f := t0.p.f 1 _ rfl
    have k2f := t0.p.f 2 _ rfl
    have k3f := t0.p.f 3 _ rfl
    have k4f := t0.p.f 4 _ rfl
    by_cases hlt : k < vs.size
    · have e2 := bv_nat vs k hlt
      obtain ⟨c0, c1⟩ := bv_bd vs k
      have hlt2 : (k : Int) < (vs.size : Int) := by omega
      by_cases hg : bv vs k < n
      · have hmore : Kp (∀ i : Nat, i < k + 1 → bv vs i < n) := ⟨by
          intro i hi
          by_cases e : i = k
          · rw [e]; exact hg
          · exact hin.out i (by omega)⟩
        generalize bv vs k = x at *
        go_wp2
        go_quiet (fail)
        go_wp2
        go_roundw
        case rel => exact ⟨k + 1, by omega, by go_num, hmore, t0.drewN _⟩
        case measure => simp [intOf]; omega
      · generalize bv vs k = x at *
        go_wp2
        go_quiet (fail)
        go_wp2
        exact bodyPost_ret (v := .tuple #[.agg #[.int .i64 n, .string tb, .string vs, .string cd, .int .i64 (half cd)], .bool false]) (by simp [results, Tryz.results45, go_sem, q0, q1, q2, q3, q4]) rfl ⟨⟨_, _, _, _, _, rfl⟩, below_drewN (((((t0.b.setCell (Nat.le_refl _) _).setCell (Nat.le_refl _) _).setCell (Nat.le_refl _) _).setCell (Nat.le_refl _) _).setCell (Nat.le_refl _) _) _⟩
    · exact absurd (fun i hi => hin.out i (by omega)) hall.out

theorem cut_yes (s : ByteArray) (w : World) (hs : s.size ≤ maxLen) (h : fOk s = true) :
    Calls Tryz.prog 45 #[.string s] w fun e w' => e = .returned (.tuple #[.agg #[.int .i64 (bv s 1), .string (fTab s), .string (fVars s), .string (fCode s), .int .i64 (half (fCode s))], .bool true]) ∧ Below w.heap.size w w' := by
  unfold fOk at h
  rw [Bool.and_eq_true, Bool.and_eq_true, Bool.and_eq_true] at h
  obtain ⟨h1, h2, h3, h4⟩ := h
  have hN := (fTab_tab h1).2.1
  unfold fTabOk at h1
  rw [Bool.and_eq_true, Bool.and_eq_true] at h1
  obtain ⟨a1, a2, a3⟩ := h1
  unfold vOk at h2
  rw [Bool.and_eq_true] at h2
  obtain ⟨k1, k2, k3, k4⟩ := fHead_t a1
  have hR1 : (fR1 s).size ≤ maxLen := Nat.le_trans (tl_le _ _) (Nat.le_trans (tl_le _ _) hs)
  have hR2 : (fR2 s).size ≤ maxLen := Nat.le_trans (tl_le _ _) (Nat.le_trans (tl_le _ _) hR1)
  have h3e : cRest (fR2 s) 2 = { data := #[] } := ByteArray.ext (Array.eq_empty_of_size_eq_zero (of_decide_eq_true h4))
  refine (cut_core s (fTab s) (fR1 s) (fVars s) (fR2 s) (fCode s) (bv s 1) (bv s 0) w hs k1 k3 k4 (by rw [k2]; rfl) ⟨head_bytes k1⟩ ⟨Nat.le_trans (tl_le s 2) hs⟩ ⟨of_decide_eq_true a2⟩ ⟨⟨rfl, rfl⟩⟩ ⟨hR1⟩ ⟨h2.1⟩ ⟨⟨rfl, rfl⟩⟩ ⟨hR2⟩ ⟨h3⟩ ⟨⟨rfl, h3e⟩⟩
    (Nat.le_trans (hd_le _ _) (Nat.le_trans (tl_le _ _) hs)) (Nat.le_trans (hd_le _ _) (Nat.le_trans (tl_le _ _) hR1)) (Nat.le_trans (hd_le _ _) (Nat.le_trans (tl_le _ _) hR2)) h2.2).mono ?_
  rintro e w1 ⟨rfl, hb⟩
  refine ⟨?_, hb⟩
  rw [hN]
  simp

theorem cut_no (s : ByteArray) (w : World) (hs : s.size ≤ maxLen) (h : fOk s = false) :
    Calls Tryz.prog 45 #[.string s] w fun e w' => NoUnit e ∧ Below w.heap.size w w' := by
  cases a1 : fHead s with
  | false => exact cut_head s w hs a1
  | true =>
    by_cases a2 : bv s 1 * bv s 1 ≤ (tl s 2).size
    · cases h3 : cOk (fR1 s) 1 8 with
      | false => exact cut_vars s w hs a1 a2 h3
      | true =>
        cases h4 : cOk (fR2 s) 2 200 with
        | false => exact cut_code s w hs a1 a2 h3 h4
        | true =>
          by_cases h5 : (fR3 s).size = 0
          · obtain ⟨k1, k2, k3, k4⟩ := fHead_t a1
            have hR1 : (fR1 s).size ≤ maxLen := Nat.le_trans (tl_le _ _) (Nat.le_trans (tl_le _ _) hs)
            have hR2 : (fR2 s).size ≤ maxLen := Nat.le_trans (tl_le _ _) (Nat.le_trans (tl_le _ _) hR1)
            have h3e : cRest (fR2 s) 2 = { data := #[] } := ByteArray.ext (Array.eq_empty_of_size_eq_zero h5)
            cases h6 : varsOk (fVars s) (bv s 1) with
            | false =>
              exact cut_core_no s (fTab s) (fR1 s) (fVars s) (fR2 s) (fCode s) (bv s 1) (bv s 0) w hs k1 k3 k4 (by rw [k2]; rfl) ⟨head_bytes k1⟩ ⟨Nat.le_trans (tl_le s 2) hs⟩ ⟨a2⟩ ⟨⟨rfl, rfl⟩⟩ ⟨hR1⟩ ⟨h3⟩ ⟨⟨rfl, rfl⟩⟩ ⟨hR2⟩ ⟨h4⟩ ⟨⟨rfl, h3e⟩⟩
                (Nat.le_trans (hd_le _ _) (Nat.le_trans (tl_le _ _) hs)) (Nat.le_trans (hd_le _ _) (Nat.le_trans (tl_le _ _) hR1)) (Nat.le_trans (hd_le _ _) (Nat.le_trans (tl_le _ _) hR2)) h6
            | true =>
              have hb : bits (fTab s) = false := by
                cases hb : bits (fTab s) with
                | false => rfl
                | true =>
                  unfold fOk fTabOk vOk at h
                  have h6' : varsOk (cPart (fR1 s) 1) (bv s 1) = true := h6
                  rw [a1, decide_eq_true a2, hb, h3, h6', h4, decide_eq_true h5] at h
                  exact absurd h (by decide)
              have hN := fTab_n a1 a2
              rw [hb] at hN
              refine (cut_core s (fTab s) (fR1 s) (fVars s) (fR2 s) (fCode s) (bv s 1) (bv s 0) w hs k1 k3 k4 (by rw [k2]; rfl) ⟨head_bytes k1⟩ ⟨Nat.le_trans (tl_le s 2) hs⟩ ⟨a2⟩ ⟨⟨rfl, rfl⟩⟩ ⟨hR1⟩ ⟨h3⟩ ⟨⟨rfl, rfl⟩⟩ ⟨hR2⟩ ⟨h4⟩ ⟨⟨rfl, h3e⟩⟩
                (Nat.le_trans (hd_le _ _) (Nat.le_trans (tl_le _ _) hs)) (Nat.le_trans (hd_le _ _) (Nat.le_trans (tl_le _ _) hR1)) (Nat.le_trans (hd_le _ _) (Nat.le_trans (tl_le _ _) hR2)) h6).mono ?_
              rintro e w1 ⟨rfl, hb⟩
              refine ⟨⟨bv s 1, half (fCode s), fTab s, fVars s, fCode s, ?_⟩, hb⟩
              have hn : (tabN (fTab s) == bv s 1) = false := by
                rw [hN, beq_eq_false_iff_ne]
                show (0 : Int) ≠ _
                omega
              rw [hn]
          · exact cut_late s w hs a1 a2 h3 h4 h5
    · exact cut_short s w hs a1 (by omega)
end Go.Proofs.YtcnbifdlkalimaaGreat
