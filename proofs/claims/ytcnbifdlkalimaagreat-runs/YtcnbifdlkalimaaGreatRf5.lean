/-
  The walks of the document's own answer on files (package sluiceref, P4), last part: Read; for every text.
-/
import Derived.Test.YtcnbifdlkalimaaGreatRf3
import Derived.Test.YtcnbifdlkalimaaGreatRf4
import Derived.Test.YtcnbifdlkalimaaGreatRef3
namespace Go.Proofs.YtcnbifdlkalimaaGreat
open Go.RowKit
set_option linter.unusedVariables false

set_option maxHeartbeats 400000 in
theorem rread_long (s : ByteArray) (w : World) (hs : s.size ≤ maxLen) (h : 448 < (s.size : Int)) :
    Calls Tryz.prog 16 #[.string s] w fun e w' => e = .returned (.tuple #[.agg #[.int .i64 0, .string { data := #[] }, .string { data := #[] }, .string { data := #[] }, .int .i64 0], .int .i64 1]) ∧ Below w.heap.size w w' := by
  have t0 := Two.start w
  have tb := t0.b
  unfold maxLen at hs
  go_enter Tryz.func16, Tryz.ntmps16
  go_wp2
  exact bodyPost_ret (v := .tuple #[.agg #[.int .i64 0, .string { data := #[] }, .string { data := #[] }, .string { data := #[] }, .int .i64 0], .int .i64 1]) (by simp [results, Tryz.results16, go_sem]) rfl ⟨rfl, tb⟩

set_option maxHeartbeats 400000 in
theorem rread_file (s : ByteArray) (w : World) (hs : s.size ≤ maxLen) (h : s.size ≤ 448) (hf : Kp (fOk s = false)) :
    Calls Tryz.prog 16 #[.string s] w fun e w' => e = .returned (.tuple #[.agg #[.int .i64 0, .string { data := #[] }, .string { data := #[] }, .string { data := #[] }, .int .i64 0], .int .i64 2]) ∧ Below w.heap.size w w' := by
  have t0 := Two.start w
  go_enter Tryz.func16, Tryz.ntmps16
  go_wp2_with fail
  refine (cut_no s _ hs hf.out).mono ?_
  rintro e w1 ⟨⟨u0, u4, u1, u2, u3, rfl⟩, hb1⟩
  replace t0 := t0.step hb1
  clear hb1
  have ol := t0.o.lt
  have pl := t0.p.lt
  have q0 := t0.o.c 0 _ rfl
  have q1 := t0.o.c 1 _ rfl
  have q2 := t0.o.c 2 _ rfl
  have q3 := t0.o.c 3 _ rfl
  have q4 := t0.o.c 4 _ rfl
  have g0 := t0.o.f 0 _ rfl
  have g1 := t0.o.f 1 _ rfl
  have g2 := t0.o.f 2 _ rfl
  have g3 := t0.o.f 3 _ rfl
  have g4 := t0.o.f 4 _ rfl
  have r0 := t0.p.c 0 _ rfl
  have r1 := t0.p.c 1 _ rfl
  have r2 := t0.p.c 2 _ rfl
  have r3 := t0.p.c 3 _ rfl
  have r4 := t0.p.c 4 _ rfl
  go_wp2
  exact bodyPost_ret (v := .tuple #[.agg #[.int .i64 0, .string { data := #[] }, .string { data := #[] }, .string { data := #[] }, .int .i64 0], .int .i64 2]) (by simp [results, Tryz.results16, go_sem, ol, q0, q1, q2, q3, q4]) rfl ⟨rfl, (((((t0.b.setCell (Nat.le_refl _) _).setCell (Nat.le_refl _) _).setCell (Nat.le_refl _) _).setCell (Nat.le_refl _) _).setCell (Nat.le_refl _) _).alloc (by simp; omega) _⟩

/-- behind 'cut': the unit lies in a box of its own -/
theorem unit_box {w w1 : World} (t0 : Two w w1 [.int .i64 0, .string { data := #[] }, .string { data := #[] }, .string { data := #[] }, .int .i64 0]) (n : Int) (t v c : ByteArray) : Two w (w1.alloc (.cells #[.int .i64 n, .string t, .string v, .string c, .int .i64 (half c)] 54)) [.int .i64 0, .string { data := #[] }, .string { data := #[] }, .string { data := #[] }, .int .i64 0] ∧ Own (w1.alloc (.cells #[.int .i64 n, .string t, .string v, .string c, .int .i64 (half c)] 54)) w1.heap.size [.int .i64 n, .string t, .string v, .string c, .int .i64 (half c)] :=
  ⟨t0.step ((Below.refl _ _).alloc (Nat.le_refl _) _), Own.new5 w1 _ _ _ _ _ _⟩

set_option maxHeartbeats 800000 in
theorem rread_lev (s t v c : ByteArray) (n er : Int) (w : World) (hs : s.size ≤ maxLen) (h : s.size ≤ 448) (ht : t.size ≤ maxLen) (her : (er != 0) = true) (hE : Kp (levE t = er))
    (hcut : Kp (∀ w : World, Calls Tryz.prog 45 #[.string s] w fun e w' => e = .returned (.tuple #[.agg #[.int .i64 n, .string t, .string v, .string c, .int .i64 (half c)], .bool true]) ∧ Below w.heap.size w w')) :
    Calls Tryz.prog 16 #[.string s] w fun e w' => e = .returned (.tuple #[.agg #[.int .i64 0, .string { data := #[] }, .string { data := #[] }, .string { data := #[] }, .int .i64 0], .int .i64 er]) ∧ Below w.heap.size w w' := by
  have t0 := Two.start w
  go_enter Tryz.func16, Tryz.ntmps16
  go_wp2_with fail
  refine (hcut.out _).mono ?_
  rintro e w1 ⟨rfl, hb1⟩
  replace t0 := t0.step hb1
  clear hb1
  have ol := t0.o.lt
  have pl := t0.p.lt
  have q0 := t0.o.c 0 _ rfl
  have q1 := t0.o.c 1 _ rfl
  have q2 := t0.o.c 2 _ rfl
  have q3 := t0.o.c 3 _ rfl
  have q4 := t0.o.c 4 _ rfl
  have g0 := t0.o.f 0 _ rfl
  have g1 := t0.o.f 1 _ rfl
  have g2 := t0.o.f 2 _ rfl
  have g3 := t0.o.f 3 _ rfl
  have g4 := t0.o.f 4 _ rfl
  have r0 := t0.p.c 0 _ rfl
  have r1 := t0.p.c 1 _ rfl
  have r2 := t0.p.c 2 _ rfl
  have r3 := t0.p.c 3 _ rfl
  have r4 := t0.p.c 4 _ rfl
  go_wp2_with fail
  clear ol pl q0 g0 r0 q1 g1 r1 q2 g2 r2 q3 g3 r3 q4 g4 r4
  obtain ⟨t1, u0⟩ := unit_box t0 n t v c
  clear t0
  refine (levels_ref t _ ht).mono ?_
  rintro e w2 ⟨rfl, rfl⟩
  rw [hE.out]
  generalize levN t = ln
  have t0 := t1
  clear t1
  have ol := t0.o.lt
  have pl := t0.p.lt
  have q0 := t0.o.c 0 _ rfl
  have q1 := t0.o.c 1 _ rfl
  have q2 := t0.o.c 2 _ rfl
  have q3 := t0.o.c 3 _ rfl
  have q4 := t0.o.c 4 _ rfl
  have g0 := t0.o.f 0 _ rfl
  have g1 := t0.o.f 1 _ rfl
  have g2 := t0.o.f 2 _ rfl
  have g3 := t0.o.f 3 _ rfl
  have g4 := t0.o.f 4 _ rfl
  have r0 := t0.p.c 0 _ rfl
  have r1 := t0.p.c 1 _ rfl
  have r2 := t0.p.c 2 _ rfl
  have r3 := t0.p.c 3 _ rfl
  have r4 := t0.p.c 4 _ rfl
  go_wp2
  exact bodyPost_ret (v := .tuple #[.agg #[.int .i64 0, .string { data := #[] }, .string { data := #[] }, .string { data := #[] }, .int .i64 0], .int .i64 er]) (by simp [results, Tryz.results16, go_sem, q0, q1, q2, q3, q4]) rfl ⟨rfl, ((((t0.b.setCell (Nat.le_refl _) _).setCell (Nat.le_refl _) _).setCell (Nat.le_refl _) _).setCell (Nat.le_refl _) _).setCell (Nat.le_refl _) _⟩

set_option maxHeartbeats 1600000 in
theorem rread_ok (s t v c : ByteArray) (n : Int) (w : World) (hs : s.size ≤ maxLen) (h : s.size ≤ 448) (ht : t.size ≤ maxLen) (hv : v.size ≤ maxLen) (hc : c.size ≤ maxLen) (hE : Kp (levE t = 0)) (hcode : codeOk c v n = true)
    (hcut : Kp (∀ w : World, Calls Tryz.prog 45 #[.string s] w fun e w' => e = .returned (.tuple #[.agg #[.int .i64 n, .string t, .string v, .string c, .int .i64 (half c)], .bool true]) ∧ Below w.heap.size w w')) :
    Calls Tryz.prog 16 #[.string s] w fun e w' => e = .returned (.tuple #[.agg #[.int .i64 n, .string t, .string v, .string c, .int .i64 (half c)], .int .i64 0]) ∧ Below w.heap.size w w' := by
  have hins : Kp (∀ i : Nat, i < (half c).toNat → insOk c v n i = true) := ⟨allTo_true.1 hcode⟩
  clear hcode
  have hmx : c.size ≤ maxLen := hc
  have hmx2 : v.size ≤ maxLen := hv
  unfold maxLen at hmx hmx2
  have hh := half_bd c
  have t0 := Two.start w
  go_enter Tryz.func16, Tryz.ntmps16
  go_wp2_with fail
  refine (hcut.out _).mono ?_
  rintro e w1 ⟨rfl, hb1⟩
  replace t0 := t0.step hb1
  clear hb1
  have ol := t0.o.lt
  have pl := t0.p.lt
  have q0 := t0.o.c 0 _ rfl
  have q1 := t0.o.c 1 _ rfl
  have q2 := t0.o.c 2 _ rfl
  have q3 := t0.o.c 3 _ rfl
  have q4 := t0.o.c 4 _ rfl
  have g0 := t0.o.f 0 _ rfl
  have g1 := t0.o.f 1 _ rfl
  have g2 := t0.o.f 2 _ rfl
  have g3 := t0.o.f 3 _ rfl
  have g4 := t0.o.f 4 _ rfl
  have r0 := t0.p.c 0 _ rfl
  have r1 := t0.p.c 1 _ rfl
  have r2 := t0.p.c 2 _ rfl
  have r3 := t0.p.c 3 _ rfl
  have r4 := t0.p.c 4 _ rfl
  go_wp2_with fail
  clear ol pl q0 g0 r0 q1 g1 r1 q2 g2 r2 q3 g3 r3 q4 g4 r4
  obtain ⟨t1, u0⟩ := unit_box t0 n t v c
  have hB : w.heap.size + 1 < w1.heap.size := t0.p.lt
  clear t0
  refine (levels_ref t _ ht).mono ?_
  rintro e w2 ⟨rfl, rfl⟩
  rw [hE.out]
  generalize levN t = ln
  have t0 := t1
  clear t1
  have ol := t0.o.lt
  have pl := t0.p.lt
  have q0 := t0.o.c 0 _ rfl
  have q1 := t0.o.c 1 _ rfl
  have q2 := t0.o.c 2 _ rfl
  have q3 := t0.o.c 3 _ rfl
  have q4 := t0.o.c 4 _ rfl
  have g0 := t0.o.f 0 _ rfl
  have g1 := t0.o.f 1 _ rfl
  have g2 := t0.o.f 2 _ rfl
  have g3 := t0.o.f 3 _ rfl
  have g4 := t0.o.f 4 _ rfl
  have r0 := t0.p.c 0 _ rfl
  have r1 := t0.p.c 1 _ rfl
  have r2 := t0.p.c 2 _ rfl
  have r3 := t0.p.c 3 _ rfl
  have r4 := t0.p.c 4 _ rfl
  have ul := u0.lt
  have m0 := u0.c 0 _ rfl
  have m1 := u0.c 1 _ rfl
  have m2 := u0.c 2 _ rfl
  have m3 := u0.c 3 _ rfl
  have m4 := u0.c 4 _ rfl
  go_wp2_with fail
  clear ol pl q0 g0 r0 q1 g1 r1 q2 g2 r2 q3 g3 r3 q4 g4 r4
  clear ul m0 m1 m2 m3 m4
  go_loopw [9] (fun i wr => ∃ k : Nat, (k : Int) ≤ half c ∧ i = .int .i64 k ∧ Two w wr [.int .i64 0, .string { data := #[] }, .string { data := #[] }, .string { data := #[] }, .int .i64 0] ∧ Own wr w1.heap.size [.int .i64 n, .string t, .string v, .string c, .int .i64 (half c)]) (fun i _ => (half c).toNat - (intOf i).toNat)
  case atStart => exact ⟨0, by omega, rfl, t0, u0⟩
  case round =>
    clear t0 u0
    obtain ⟨k, hk, rfl, t0, u0⟩ := hrel
    have ol := t0.o.lt
    have pl := t0.p.lt
    have q0 := t0.o.c 0 _ rfl
    have q1 := t0.o.c 1 _ rfl
    have q2 := t0.o.c 2 _ rfl
    have q3 := t0.o.c 3 _ rfl
    have q4 := t0.o.c 4 _ rfl
    have g0 := t0.o.f 0 _ rfl
    have g1 := t0.o.f 1 _ rfl
    have g2 := t0.o.f 2 _ rfl
    have g3 := t0.o.f 3 _ rfl
    have g4 := t0.o.f 4 _ rfl
    have r0 := t0.p.c 0 _ rfl
    have r1 := t0.p.c 1 _ rfl
    have r2 := t0.p.c 2 _ rfl
    have r3 := t0.p.c 3 _ rfl
    have r4 := t0.p.c 4 _ rfl
    have ul := u0.lt
    have m0 := u0.c 0 _ rfl
    have m1 := u0.c 1 _ rfl
    have m2 := u0.c 2 _ rfl
    have m3 := u0.c 3 _ rfl
    have m4 := u0.c 4 _ rfl
    by_cases hlt : (k : Int) < half c
    · have hk1 := hins.out k (by omega)
      go_wp2_with fail
      refine (uarg_any n k t v c _ hc (by omega) hlt).mono ?_
      rintro e w9 ⟨rfl, hb1⟩
      replace t0 := t0.step hb1
      replace u0 := u0.step hb1
      clear ol pl q0 g0 r0 q1 g1 r1 q2 g2 r2 q3 g3 r3 q4 g4 r4
      clear ul m0 m1 m2 m3 m4
      clear hb1
      have ol := t0.o.lt
      have pl := t0.p.lt
      have q0 := t0.o.c 0 _ rfl
      have q1 := t0.o.c 1 _ rfl
      have q2 := t0.o.c 2 _ rfl
      have q3 := t0.o.c 3 _ rfl
      have q4 := t0.o.c 4 _ rfl
      have g0 := t0.o.f 0 _ rfl
      have g1 := t0.o.f 1 _ rfl
      have g2 := t0.o.f 2 _ rfl
      have g3 := t0.o.f 3 _ rfl
      have g4 := t0.o.f 4 _ rfl
      have r0 := t0.p.c 0 _ rfl
      have r1 := t0.p.c 1 _ rfl
      have r2 := t0.p.c 2 _ rfl
      have r3 := t0.p.c 3 _ rfl
      have r4 := t0.p.c 4 _ rfl
      have ul := u0.lt
      have m0 := u0.c 0 _ rfl
      have m1 := u0.c 1 _ rfl
      have m2 := u0.c 2 _ rfl
      have m3 := u0.c 3 _ rfl
      have m4 := u0.c 4 _ rfl
      go_wp2_with fail
      refine (uop_any n k t v c _ hc (by omega) hlt).mono ?_
      rintro e w9 ⟨rfl, hb1⟩
      replace t0 := t0.step hb1
      replace u0 := u0.step hb1
      clear ol pl q0 g0 r0 q1 g1 r1 q2 g2 r2 q3 g3 r3 q4 g4 r4
      clear ul m0 m1 m2 m3 m4
      clear hb1
      have ol := t0.o.lt
      have pl := t0.p.lt
      have q0 := t0.o.c 0 _ rfl
      have q1 := t0.o.c 1 _ rfl
      have q2 := t0.o.c 2 _ rfl
      have q3 := t0.o.c 3 _ rfl
      have q4 := t0.o.c 4 _ rfl
      have g0 := t0.o.f 0 _ rfl
      have g1 := t0.o.f 1 _ rfl
      have g2 := t0.o.f 2 _ rfl
      have g3 := t0.o.f 3 _ rfl
      have g4 := t0.o.f 4 _ rfl
      have r0 := t0.p.c 0 _ rfl
      have r1 := t0.p.c 1 _ rfl
      have r2 := t0.p.c 2 _ rfl
      have r3 := t0.p.c 3 _ rfl
      have r4 := t0.p.c 4 _ rfl
      have ul := u0.lt
      have m0 := u0.c 0 _ rfl
      have m1 := u0.c 1 _ rfl
      have m2 := u0.c 2 _ rfl
      have m3 := u0.c 3 _ rfl
      have m4 := u0.c 4 _ rfl
      go_wp2_with fail
      refine (ubound_any n k t v c _ hc hv (by omega) hlt).mono ?_
      rintro e w9 ⟨rfl, hb1⟩
      replace t0 := t0.step hb1
      replace u0 := u0.step hb1
      clear ol pl q0 g0 r0 q1 g1 r1 q2 g2 r2 q3 g3 r3 q4 g4 r4
      clear ul m0 m1 m2 m3 m4
      clear hb1
      have ol := t0.o.lt
      have pl := t0.p.lt
      have q0 := t0.o.c 0 _ rfl
      have q1 := t0.o.c 1 _ rfl
      have q2 := t0.o.c 2 _ rfl
      have q3 := t0.o.c 3 _ rfl
      have q4 := t0.o.c 4 _ rfl
      have g0 := t0.o.f 0 _ rfl
      have g1 := t0.o.f 1 _ rfl
      have g2 := t0.o.f 2 _ rfl
      have g3 := t0.o.f 3 _ rfl
      have g4 := t0.o.f 4 _ rfl
      have r0 := t0.p.c 0 _ rfl
      have r1 := t0.p.c 1 _ rfl
      have r2 := t0.p.c 2 _ rfl
      have r3 := t0.p.c 3 _ rfl
      have r4 := t0.p.c 4 _ rfl
      have ul := u0.lt
      have m0 := u0.c 0 _ rfl
      have m1 := u0.c 1 _ rfl
      have m2 := u0.c 2 _ rfl
      have m3 := u0.c 3 _ rfl
      have m4 := u0.c 4 _ rfl
      obtain ⟨d0, d1⟩ := bv_bd c (2 * k)
      obtain ⟨d2, d3⟩ := bv_bd c (2 * k + 1)
      have hI : insOk c v n k = (!(decide (11 < bv c (2 * k))) && !(decide (boundF v.size (half c) n (bv c (2 * k)) ≤ bv c (2 * k + 1)))) := bound_ok d0 d2 d3
      rw [hk1] at hI
      have hI2 := hI.symm
      rw [Bool.and_eq_true, Bool.not_eq_true', Bool.not_eq_true', decide_eq_false_iff_not, decide_eq_false_iff_not] at hI2
      obtain ⟨hI3, hI4⟩ := hI2
      clear hI hk1
      generalize boundF v.size (half c) n (bv c (2 * k)) = bF at *
      generalize bv c (2 * k) = x at *
      generalize bv c (2 * k + 1) = y at *
      go_wp2
      go_roundw
      case rel => exact ⟨k + 1, by omega, by go_num, t0, u0⟩
      case measure => simp [intOf]; omega
    · have hq := t0.b
      go_wp2
      exact bodyPost_ret (v := .tuple #[.agg #[.int .i64 n, .string t, .string v, .string c, .int .i64 (half c)], .int .i64 0]) (by simp [results, Tryz.results16, go_sem, q0, q1, q2, q3, q4]) rfl ⟨rfl, ((((t0.b.setCell (Nat.le_refl _) _).setCell (Nat.le_refl _) _).setCell (Nat.le_refl _) _).setCell (Nat.le_refl _) _).setCell (Nat.le_refl _) _⟩

set_option maxHeartbeats 1600000 in
theorem rread_code (s t v c : ByteArray) (n : Int) (w : World) (hs : s.size ≤ maxLen) (h : s.size ≤ 448) (ht : t.size ≤ maxLen) (hv : v.size ≤ maxLen) (hc : c.size ≤ maxLen) (hE : Kp (levE t = 0)) (hcode : codeOk c v n = false)
    (hcut : Kp (∀ w : World, Calls Tryz.prog 45 #[.string s] w fun e w' => e = .returned (.tuple #[.agg #[.int .i64 n, .string t, .string v, .string c, .int .i64 (half c)], .bool true]) ∧ Below w.heap.size w w')) :
    Calls Tryz.prog 16 #[.string s] w fun e w' => e = .returned (.tuple #[.agg #[.int .i64 0, .string { data := #[] }, .string { data := #[] }, .string { data := #[] }, .int .i64 0], .int .i64 6]) ∧ Below w.heap.size w w' := by
  have hins : Kp (¬ ∀ i : Nat, i < (half c).toNat → insOk c v n i = true) := ⟨fun hh => by
    unfold codeOk at hcode
    rw [allTo_true.2 hh] at hcode
    exact absurd hcode (by simp)⟩
  clear hcode
  have hmx : c.size ≤ maxLen := hc
  have hmx2 : v.size ≤ maxLen := hv
  unfold maxLen at hmx hmx2
  have hh := half_bd c
  have t0 := Two.start w
  go_enter Tryz.func16, Tryz.ntmps16
  go_wp2_with fail
  refine (hcut.out _).mono ?_
  rintro e w1 ⟨rfl, hb1⟩
  replace t0 := t0.step hb1
  clear hb1
  have ol := t0.o.lt
  have pl := t0.p.lt
  have q0 := t0.o.c 0 _ rfl
  have q1 := t0.o.c 1 _ rfl
  have q2 := t0.o.c 2 _ rfl
  have q3 := t0.o.c 3 _ rfl
  have q4 := t0.o.c 4 _ rfl
  have g0 := t0.o.f 0 _ rfl
  have g1 := t0.o.f 1 _ rfl
  have g2 := t0.o.f 2 _ rfl
  have g3 := t0.o.f 3 _ rfl
  have g4 := t0.o.f 4 _ rfl
  have r0 := t0.p.c 0 _ rfl
  have r1 := t0.p.c 1 _ rfl
  have r2 := t0.p.c 2 _ rfl
  have r3 := t0.p.c 3 _ rfl
  have r4 := t0.p.c 4 _ rfl
  go_wp2_with fail
  clear ol pl q0 g0 r0 q1 g1 r1 q2 g2 r2 q3 g3 r3 q4 g4 r4
  obtain ⟨t1, u0⟩ := unit_box t0 n t v c
  have hB : w.heap.size + 1 < w1.heap.size := t0.p.lt
  clear t0
  refine (levels_ref t _ ht).mono ?_
  rintro e w2 ⟨rfl, rfl⟩
  rw [hE.out]
  generalize levN t = ln
  have t0 := t1
  clear t1
  have ol := t0.o.lt
  have pl := t0.p.lt
  have q0 := t0.o.c 0 _ rfl
  have q1 := t0.o.c 1 _ rfl
  have q2 := t0.o.c 2 _ rfl
  have q3 := t0.o.c 3 _ rfl
  have q4 := t0.o.c 4 _ rfl
  have g0 := t0.o.f 0 _ rfl
  have g1 := t0.o.f 1 _ rfl
  have g2 := t0.o.f 2 _ rfl
  have g3 := t0.o.f 3 _ rfl
  have g4 := t0.o.f 4 _ rfl
  have r0 := t0.p.c 0 _ rfl
  have r1 := t0.p.c 1 _ rfl
  have r2 := t0.p.c 2 _ rfl
  have r3 := t0.p.c 3 _ rfl
  have r4 := t0.p.c 4 _ rfl
  have ul := u0.lt
  have m0 := u0.c 0 _ rfl
  have m1 := u0.c 1 _ rfl
  have m2 := u0.c 2 _ rfl
  have m3 := u0.c 3 _ rfl
  have m4 := u0.c 4 _ rfl
  go_wp2_with fail
  clear ol pl q0 g0 r0 q1 g1 r1 q2 g2 r2 q3 g3 r3 q4 g4 r4
  clear ul m0 m1 m2 m3 m4
  go_loopw [9] (fun i wr => ∃ k : Nat, (k : Int) ≤ half c ∧ i = .int .i64 k ∧ Kp (∀ i : Nat, i < k → insOk c v n i = true) ∧ Two w wr [.int .i64 0, .string { data := #[] }, .string { data := #[] }, .string { data := #[] }, .int .i64 0] ∧ Own wr w1.heap.size [.int .i64 n, .string t, .string v, .string c, .int .i64 (half c)]) (fun i _ => (half c).toNat - (intOf i).toNat)
  case atStart => exact ⟨0, by omega, rfl, ⟨fun i hi => absurd hi (by omega)⟩, t0, u0⟩
  case round =>
    clear t0 u0
    obtain ⟨k, hk, rfl, hin, t0, u0⟩ := hrel
    have ol := t0.o.lt
    have pl := t0.p.lt
    have q0 := t0.o.c 0 _ rfl
    have q1 := t0.o.c 1 _ rfl
    have q2 := t0.o.c 2 _ rfl
    have q3 := t0.o.c 3 _ rfl
    have q4 := t0.o.c 4 _ rfl
    have g0 := t0.o.f 0 _ rfl
    have g1 := t0.o.f 1 _ rfl
    have g2 := t0.o.f 2 _ rfl
    have g3 := t0.o.f 3 _ rfl
    have g4 := t0.o.f 4 _ rfl
    have r0 := t0.p.c 0 _ rfl
    have r1 := t0.p.c 1 _ rfl
    have r2 := t0.p.c 2 _ rfl
    have r3 := t0.p.c 3 _ rfl
    have r4 := t0.p.c 4 _ rfl
    have ul := u0.lt
    have m0 := u0.c 0 _ rfl
    have m1 := u0.c 1 _ rfl
    have m2 := u0.c 2 _ rfl
    have m3 := u0.c 3 _ rfl
    have m4 := u0.c 4 _ rfl
    by_cases hlt : (k : Int) < half c
    · go_wp2_with fail
      refine (uarg_any n k t v c _ hc (by omega) hlt).mono ?_
      rintro e w9 ⟨rfl, hb1⟩
      replace t0 := t0.step hb1
      replace u0 := u0.step hb1
      clear ol pl q0 g0 r0 q1 g1 r1 q2 g2 r2 q3 g3 r3 q4 g4 r4
      clear ul m0 m1 m2 m3 m4
      clear hb1
      have ol := t0.o.lt
      have pl := t0.p.lt
      have q0 := t0.o.c 0 _ rfl
      have q1 := t0.o.c 1 _ rfl
      have q2 := t0.o.c 2 _ rfl
      have q3 := t0.o.c 3 _ rfl
      have q4 := t0.o.c 4 _ rfl
      have g0 := t0.o.f 0 _ rfl
      have g1 := t0.o.f 1 _ rfl
      have g2 := t0.o.f 2 _ rfl
      have g3 := t0.o.f 3 _ rfl
      have g4 := t0.o.f 4 _ rfl
      have r0 := t0.p.c 0 _ rfl
      have r1 := t0.p.c 1 _ rfl
      have r2 := t0.p.c 2 _ rfl
      have r3 := t0.p.c 3 _ rfl
      have r4 := t0.p.c 4 _ rfl
      have ul := u0.lt
      have m0 := u0.c 0 _ rfl
      have m1 := u0.c 1 _ rfl
      have m2 := u0.c 2 _ rfl
      have m3 := u0.c 3 _ rfl
      have m4 := u0.c 4 _ rfl
      go_wp2_with fail
      refine (uop_any n k t v c _ hc (by omega) hlt).mono ?_
      rintro e w9 ⟨rfl, hb1⟩
      replace t0 := t0.step hb1
      replace u0 := u0.step hb1
      clear ol pl q0 g0 r0 q1 g1 r1 q2 g2 r2 q3 g3 r3 q4 g4 r4
      clear ul m0 m1 m2 m3 m4
      clear hb1
      have ol := t0.o.lt
      have pl := t0.p.lt
      have q0 := t0.o.c 0 _ rfl
      have q1 := t0.o.c 1 _ rfl
      have q2 := t0.o.c 2 _ rfl
      have q3 := t0.o.c 3 _ rfl
      have q4 := t0.o.c 4 _ rfl
      have g0 := t0.o.f 0 _ rfl
      have g1 := t0.o.f 1 _ rfl
      have g2 := t0.o.f 2 _ rfl
      have g3 := t0.o.f 3 _ rfl
      have g4 := t0.o.f 4 _ rfl
      have r0 := t0.p.c 0 _ rfl
      have r1 := t0.p.c 1 _ rfl
      have r2 := t0.p.c 2 _ rfl
      have r3 := t0.p.c 3 _ rfl
      have r4 := t0.p.c 4 _ rfl
      have ul := u0.lt
      have m0 := u0.c 0 _ rfl
      have m1 := u0.c 1 _ rfl
      have m2 := u0.c 2 _ rfl
      have m3 := u0.c 3 _ rfl
      have m4 := u0.c 4 _ rfl
      go_wp2_with fail
      refine (ubound_any n k t v c _ hc hv (by omega) hlt).mono ?_
      rintro e w9 ⟨rfl, hb1⟩
      replace t0 := t0.step hb1
      replace u0 := u0.step hb1
      clear ol pl q0 g0 r0 q1 g1 r1 q2 g2 r2 q3 g3 r3 q4 g4 r4
      clear ul m0 m1 m2 m3 m4
      clear hb1
      have ol := t0.o.lt
      have pl := t0.p.lt
      have q0 := t0.o.c 0 _ rfl
      have q1 := t0.o.c 1 _ rfl
      have q2 := t0.o.c 2 _ rfl
      have q3 := t0.o.c 3 _ rfl
      have q4 := t0.o.c 4 _ rfl
      have g0 := t0.o.f 0 _ rfl
      have g1 := t0.o.f 1 _ rfl
      have g2 := t0.o.f 2 _ rfl
      have g3 := t0.o.f 3 _ rfl
      have g4 := t0.o.f 4 _ rfl
      have r0 := t0.p.c 0 _ rfl
      have r1 := t0.p.c 1 _ rfl
      have r2 := t0.p.c 2 _ rfl
      have r3 := t0.p.c 3 _ rfl
      have r4 := t0.p.c 4 _ rfl
      have ul := u0.lt
      have m0 := u0.c 0 _ rfl
      have m1 := u0.c 1 _ rfl
      have m2 := u0.c 2 _ rfl
      have m3 := u0.c 3 _ rfl
      have m4 := u0.c 4 _ rfl
      obtain ⟨d0, d1⟩ := bv_bd c (2 * k)
      obtain ⟨d2, d3⟩ := bv_bd c (2 * k + 1)
      have hI : insOk c v n k = (!(decide (11 < bv c (2 * k))) && !(decide (boundF v.size (half c) n (bv c (2 * k)) ≤ bv c (2 * k + 1)))) := bound_ok d0 d2 d3
      have hmore : Kp (insOk c v n k = true → ∀ i : Nat, i < k + 1 → insOk c v n i = true) := ⟨fun hx => all_more hin.out hx⟩
      replace hI : Kp _ := ⟨hI⟩
      generalize boundF v.size (half c) n (bv c (2 * k)) = bF at *
      generalize bv c (2 * k) = x at *
      generalize bv c (2 * k + 1) = y at *
      by_cases h11 : 11 < x
      · clear hI hmore
        go_wp2
        exact bodyPost_ret (v := .tuple #[.agg #[.int .i64 0, .string { data := #[] }, .string { data := #[] }, .string { data := #[] }, .int .i64 0], .int .i64 6]) (by simp [results, Tryz.results16, go_sem, q0, q1, q2, q3, q4]) rfl ⟨rfl, ((((t0.b.setCell (Nat.le_refl _) _).setCell (Nat.le_refl _) _).setCell (Nat.le_refl _) _).setCell (Nat.le_refl _) _).setCell (Nat.le_refl _) _⟩
      · by_cases hby : bF ≤ y
        · clear hI hmore
          go_wp2
          exact bodyPost_ret (v := .tuple #[.agg #[.int .i64 0, .string { data := #[] }, .string { data := #[] }, .string { data := #[] }, .int .i64 0], .int .i64 6]) (by simp [results, Tryz.results16, go_sem, q0, q1, q2, q3, q4]) rfl ⟨rfl, ((((t0.b.setCell (Nat.le_refl _) _).setCell (Nat.le_refl _) _).setCell (Nat.le_refl _) _).setCell (Nat.le_refl _) _).setCell (Nat.le_refl _) _⟩
        · have hx : Kp (insOk c v n k = true) := ⟨by rw [hI.out, decide_eq_false h11, decide_eq_false hby]; rfl⟩
          go_wp2
          go_roundw
          case rel => exact ⟨k + 1, by omega, by go_num, ⟨hmore.out hx.out⟩, t0, u0⟩
          case measure => simp [intOf]; omega
    · exact absurd (fun i hi => hin.out i (by omega)) hins.out

theorem unit_small {s : ByteArray} (hs : s.size ≤ maxLen) : (fTab s).size ≤ maxLen ∧ (fVars s).size ≤ maxLen ∧ (fCode s).size ≤ maxLen := by
  have h1 : (fR1 s).size ≤ maxLen := Nat.le_trans (tl_le _ _) (Nat.le_trans (tl_le _ _) hs)
  have h2 : (fR2 s).size ≤ maxLen := Nat.le_trans (tl_le _ _) (Nat.le_trans (tl_le _ _) h1)
  exact ⟨Nat.le_trans (hd_le _ _) (Nat.le_trans (tl_le _ _) hs), Nat.le_trans (hd_le _ _) (Nat.le_trans (tl_le _ _) h1), Nat.le_trans (hd_le _ _) (Nat.le_trans (tl_le _ _) h2)⟩

theorem rread_no (s : ByteArray) (w : World) (hs : s.size ≤ maxLen) (h : scanE s ≠ 0) :
    Calls Tryz.prog 16 #[.string s] w fun e w' => e = .returned (.tuple #[.agg #[.int .i64 0, .string { data := #[] }, .string { data := #[] }, .string { data := #[] }, .int .i64 0], .int .i64 (scanE s)]) ∧ Below w.heap.size w w' := by
  obtain ⟨z1, z2, z3⟩ := unit_small hs
  rcases scan_cases s with ⟨k1, k2⟩ | ⟨k1, k2, k3⟩ | ⟨k1, k2, k3, k4⟩ | ⟨k1, k2, k3, k4, k5⟩ | ⟨k1, k2, k3, k4, k5⟩
  · rw [k2]; exact rread_long s w hs k1
  · rw [k3]; exact rread_file s w hs k1 ⟨k2⟩
  · rw [k4]; exact rread_lev s (fTab s) (fVars s) (fCode s) (bv s 1) (levE (fTab s)) w hs k1 z1 (bne_iff_ne.2 k3) ⟨rfl⟩ ⟨fun w => cut_yes s w hs k2⟩
  · rw [k5]; exact rread_code s (fTab s) (fVars s) (fCode s) (bv s 1) w hs k1 z1 z2 z3 ⟨k3⟩ k4 ⟨fun w => cut_yes s w hs k2⟩
  · exact absurd k5 h

theorem rread_yes (s : ByteArray) (w : World) (hs : s.size ≤ maxLen) (h : scanE s = 0) :
    Calls Tryz.prog 16 #[.string s] w fun e w' => e = .returned (.tuple #[.agg #[.int .i64 (bv s 1), .string (fTab s), .string (fVars s), .string (fCode s), .int .i64 (half (fCode s))], .int .i64 0]) ∧ Below w.heap.size w w' := by
  obtain ⟨z1, z2, z3⟩ := unit_small hs
  rcases scan_cases s with ⟨k1, k2⟩ | ⟨k1, k2, k3⟩ | ⟨k1, k2, k3, k4⟩ | ⟨k1, k2, k3, k4, k5⟩ | ⟨k1, k2, k3, k4, k5⟩
  · omega
  · omega
  · omega
  · omega
  · exact rread_ok s (fTab s) (fVars s) (fCode s) (bv s 1) w hs k1 z1 z2 z3 ⟨k3⟩ k4 ⟨fun w => cut_yes s w hs k2⟩
end Go.Proofs.YtcnbifdlkalimaaGreat
