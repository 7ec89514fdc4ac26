/-
  The walk of the statement Longer; for every text, tapes and fuels.
-/
import Derived.Test.YtcnbifdlkalimaaKs5
import Derived.Test.YtcnbifdlkalimaaEqs0
import Derived.Deep.QuietTactic
import Derived.BigQuiet
namespace Go.Proofs.Ytcnbifdlkalimaa
open Go.RowKit
set_option linter.unusedVariables false
set_option maxRecDepth 100000

set_option maxHeartbeats 3200000 in
theorem longer_walk (s : ByteArray) (f1 f2 : Int) (T : Int → ByteArray) (w : World) (hs : s.size ≤ maxLen) (c2 : -9223372036854775808 ≤ f1 ∧ f1 ≤ 9223372036854775807) (c3 : -9223372036854775808 ≤ f2 ∧ f2 ≤ 9223372036854775807) (hT : ∀ l : Nat, l < 6 → (T l).size ≤ maxLen) :
    Calls Try.prog 8 #[.string s, tapV T, .int .i64 f1, .int .i64 f2] w fun e w' => e = .returned (.bool true) ∧ Below w.heap.size w w' := by
  obtain ⟨wb, hwb⟩ : ∃ wb, wb = w.alloc (.cells #[.string (T 0), .string (T 1), .string (T 2), .string (T 3), .string (T 4), .string (T 5)] 49) := ⟨_, rfl⟩
  have A0 : TapAt wb w.heap.size (fun j => T j) := by rw [hwb]; exact TapAt.new w 49 (T 0) (T 1) (T 2) (T 3) (T 4) (T 5) (f := fun j => T j) ⟨rfl, rfl, rfl, rfl, rfl, rfl⟩
  have hB0 : Below w.heap.size w wb := by rw [hwb]; exact (Below.refl _ _).alloc (Nat.le_refl _) _
  replace hwb : Kp _ := ⟨hwb⟩
  replace A0 : Kp _ := ⟨A0⟩
  replace hB0 : Kp _ := ⟨hB0⟩
  obtain ⟨a, ha⟩ : ∃ a : Nat, pickF f1 20001 = a := ⟨(pickF f1 20001).toNat, by have := pickF_bd (c := f1) (n := 20001) (by omega); omega⟩
  have la : a ≤ 20000 := by have := pickF_bd (c := f1) (n := 20001) (by omega); omega
  obtain ⟨d, hd⟩ : ∃ d : Nat, pickF f2 (20001 - a) = d := ⟨(pickF f2 (20001 - a)).toNat, by have := pickF_bd (c := f2) (n := 20001 - a) (by omega); omega⟩
  have ld : a + d ≤ 20000 := by have := pickF_bd (c := f2) (n := 20001 - a) (by omega); omega
  have hP1 := fun W => pickN_any f1 20001 W c2 (by omega) (by omega)
  have hP2 := fun W => pickN_any f2 (20001 - a) W c3 (by omega) (by omega)
  rw [ha] at hP1
  rw [hd] at hP2
  replace hP1 : Kp _ := ⟨hP1⟩
  replace hP2 : Kp _ := ⟨hP2⟩
  replace ha : Kp _ := ⟨ha⟩
  replace hd : Kp _ := ⟨hd⟩
  have hT2 : Kp _ := ⟨hT⟩
  clear hT c2 c3
  unfold tapV
  go_enter Try.func8, Try.ntmps8
  go_wp2_with fail
  rw [← hwb.out]
  clear hwb
  refine (known_any _).mono ?_
  rintro e w1 ⟨rfl, b1⟩
  have A1 : Kp _ := ⟨A0.out.step b1⟩
  have hB1 : Kp _ := ⟨hB0.out.trans (b1.mono hB0.out.size)⟩
  clear A0 hB0 b1
  go_wp2_with fail
  refine (check_any s _ hs).mono ?_
  rintro e w2 ⟨p, x, rfl, hC, b1⟩
  have A2 : Kp _ := ⟨A1.out.step b1⟩
  have hB2 : Kp _ := ⟨hB1.out.trans (b1.mono hB1.out.size)⟩
  clear A1 hB1 b1
  go_wp2_with fail
  refine (hP1.out _).mono ?_
  rintro e w3 ⟨rfl, hw3⟩
  subst hw3
  go_wp2_with fail
  refine (hP2.out _).mono ?_
  rintro e w3 ⟨rfl, hw3⟩
  subst hw3
  have t0 := A2.out.c 0 (by omega)
  have t1 := A2.out.c 1 (by omega)
  have t2 := A2.out.c 2 (by omega)
  have t3 := A2.out.c 3 (by omega)
  have t4 := A2.out.c 4 (by omega)
  have t5 := A2.out.c 5 (by omega)
  by_cases hx : x = 0
  · subst hx
    obtain ⟨hsc, rfl, hgt, P⟩ := check_ok hs hC.out
    have R1 := fun W => prun_ok s T a W hs hC.out la hT2.out
    have R2 := fun W => prun_ok s T (a + d) W hs hC.out ld hT2.out
    rw [show (((a + d : Nat)) : Int) = (a : Int) + d from by omega] at R2
    have hR3 : Kp (∀ (k : Nat) W, k ≤ 20000 → Calls Try.prog 29 #[.string s, tapV T, .int .i64 k] W fun e w' => e = .returned (.tuple #[resV (fCode s) (fVars s) T k, .int .i64 0]) ∧ Below W.heap.size W w') := ⟨fun k W hk => prun_ok s T k W hs hC.out hk hT2.out⟩
    obtain ⟨y1, hy1⟩ : ∃ y1 : Nat → ByteArray, (fun j : Nat => logOf (fCode s) T a j) = y1 := ⟨_, rfl⟩
    obtain ⟨y2, hy2⟩ : ∃ y2 : Nat → ByteArray, (fun j : Nat => logOf (fCode s) T (a + d) j) = y2 := ⟨_, rfl⟩
    have hZ1 : Kp (∀ j : Nat, (y1 j).size ≤ maxLen ∧ (y2 j).size ≤ maxLen ∧ (y1 j).size ≤ (y2 j).size ∧ startsB (y1 j) (y2 j) = true) := ⟨fun j => by
      rw [← hy1, ← hy2]
      obtain ⟨e, he⟩ := log_more (fCode s) T (show a ≤ a + d from by omega) j
      refine ⟨log_size _ _ _ _ la, log_size _ _ _ _ ld, ?_, ?_⟩
      · show (logOf (fCode s) T a j).size ≤ (logOf (fCode s) T (a + d) j).size
        rw [he]; simp
      · show startsB (logOf (fCode s) T a j) (logOf (fCode s) T (a + d) j) = true
        rw [he]; exact starts_left _ _⟩
    rcases end_cases (fCode s) T a with ⟨en, he⟩ | ⟨en, he⟩
    · obtain ⟨kk, hkk⟩ : ∃ kk : Nat, numM (fCode s) T a start = kk := ⟨_, rfl⟩
      have hka : kk ≤ a := by rw [← hkk]; exact stepsM_le _ _ _ _
      have hst : cntOf (fCode s) T a = kk := by unfold cntOf; rw [hkk]
      have r2 : resV (fCode s) (fVars s) T (a + d) = resV (fCode s) (fVars s) T a := res_more (by omega) he
      have r3 : resV (fCode s) (fVars s) T kk = resV (fCode s) (fVars s) T a := by rw [← hkk]; exact res_just he
      have R3 := fun W => hR3.out kk W (by omega)
      have R4 : Kp (1 ≤ kk → ∀ W, Calls Try.prog 29 #[.string s, tapV T, .int .i64 ((kk : Int) - 1)] W fun e w' => e = .returned (.tuple #[resA 2 ((kk : Int) - 1) (fun j => logOf (fCode s) T (kk - 1) j) (varsOf (fCode s) (fVars s) T (kk - 1)), .int .i64 0]) ∧ Below W.heap.size W w') := ⟨fun h1 W => by
        have := hR3.out (kk - 1) W (by omega)
        obtain ⟨z1, z2⟩ := res_less (c := fCode s) (T := T) (a := a) (k := kk - 1) (by rw [hkk]; omega)
        rw [resV_resA, z1, z2, show ((kk - 1 : Nat) : Int) = (kk : Int) - 1 from by omega] at this
        exact this⟩
      rw [r2] at R2
      rw [r3] at R3
      simp only [resV_resA] at R1 R2 R3
      rw [en, hst, hy1] at R1 R2 R3
      generalize varsOf (fCode s) (fVars s) T a = v1 at *
      obtain ⟨y4, hy4⟩ : ∃ y4 : Nat → ByteArray, (fun j : Nat => logOf (fCode s) T (kk - 1) j) = y4 := ⟨_, rfl⟩
      rw [hy4] at R4
      generalize varsOf (fCode s) (fVars s) T (kk - 1) = v4 at *
      unfold resA tapV at R1 R2 R3 R4
      replace R1 : Kp _ := ⟨R1⟩
      replace R2 : Kp _ := ⟨R2⟩
      replace R3 : Kp _ := ⟨R3⟩
      have hZ2 : Kp (∀ j : Nat, (y1 j).size ≤ maxLen ∧ startsB (y1 j) (y1 j) = true) := ⟨fun j => ⟨(hZ1.out j).1, by
        have := starts_left (y1 j) { data := #[] }
        have e : y1 j ++ ({ data := #[] } : ByteArray) = y1 j := by
          apply ByteArray.ext
          rw [ByteArray.data_append]
          simp
        rw [e] at this
        exact this⟩⟩
      have hQ := eq_tap
      clear hR3 hy1 hy2 hsc en he hst hP1 hP2 hC P hZ1 r2 r3 hkk hy4
      go_wp2_with fail
      refine (R1.out _).mono ?_
      rintro e w4 ⟨rfl, b4⟩
      have A4 := A2.out.step b4
      have hB4 := hB2.out.trans (b4.mono hB2.out.size)
      clear t0 t1 t2 t3 t4 t5
      have t0 := A4.c 0 (by omega)
      have t1 := A4.c 1 (by omega)
      have t2 := A4.c 2 (by omega)
      have t3 := A4.c 3 (by omega)
      have t4 := A4.c 4 (by omega)
      have t5 := A4.c 5 (by omega)
      have hl4 := A4.lt
      obtain ⟨wc, hwc⟩ : ∃ wc, wc = w4.alloc (.cells #[.int .i64 1, .int .i64 kk, .string (y1 0), .string (y1 1), .string (y1 2), .string (y1 3), .string (y1 4), .string (y1 5), .string v1] 51) := ⟨_, rfl⟩
      have X4 : ResAt wc w4.heap.size 1 kk y1 v1 := by rw [hwc]; exact ResAt.box w4 _ 1 kk y1 v1
      have hBc : Below w.heap.size w wc := by rw [hwc]; exact hB4.alloc hB4.size _
      have A5 : TapAt wc w.heap.size (fun j => T j) := by rw [hwc]; exact A4.step ((Below.refl _ _).alloc (Nat.le_refl _) _)
      replace hwc : Kp _ := ⟨hwc⟩
      clear A2 hB2 b4 A4 hB4 R1
      go_wp2_with fail
      rw [← hwc.out]
      clear hwc t0 t1 t2 t3 t4 t5
      refine (R2.out _).mono ?_
      rintro e w5 ⟨rfl, b5⟩
      obtain ⟨wd, hwd⟩ : ∃ wd, wd = w5.alloc (.cells #[.int .i64 1, .int .i64 kk, .string (y1 0), .string (y1 1), .string (y1 2), .string (y1 3), .string (y1 4), .string (y1 5), .string v1] 51) := ⟨_, rfl⟩
      have X5 : ResAt wd w5.heap.size 1 kk y1 v1 := by rw [hwd]; exact ResAt.box w5 _ 1 kk y1 v1
      have X6 : ResAt wd w4.heap.size 1 kk y1 v1 := by rw [hwd]; exact (X4.step b5).step ((Below.refl _ _).alloc (Nat.le_refl _) _)
      have A6 : TapAt wd w.heap.size (fun j => T j) := by rw [hwd]; exact (A5.step b5).step ((Below.refl _ _).alloc (Nat.le_refl _) _)
      have hBd : Below w.heap.size w wd := by rw [hwd]; have := hBc.trans (b5.mono hBc.size); exact this.alloc this.size _
      replace hwd : Kp _ := ⟨hwd⟩
      replace X5 : Kp _ := ⟨X5⟩
      replace X6 : Kp _ := ⟨X6⟩
      replace A6 : Kp _ := ⟨A6⟩
      replace hBd : Kp _ := ⟨hBd⟩
      clear X4 hBc b5 R2 A5
      go_wp2_with fail
      rw [← hwd.out]
      generalize w4.heap.size = g1 at *
      generalize w5.heap.size = g2 at *
      clear hwd hl4
      go_loopw [18] (fun lv wr => ∃ l : Nat, l ≤ 6 ∧ lv = .int .i64 l ∧ Kp (ResAt wr g1 1 kk y1 v1) ∧ Kp (ResAt wr g2 1 kk y1 v1) ∧ Kp (TapAt wr w.heap.size (fun j => T j)) ∧ Kp (Below w.heap.size w wr)) (fun lv _ => 6 - (intOf lv).toNat)
      case atStart => exact ⟨0, by omega, rfl, X6, X5, A6, hBd⟩
      case round =>
        clear X5 X6 A6 hBd
        obtain ⟨l, hl, rfl, Y1, Y2, A7, hB⟩ := hrel
        by_cases hl6 : l < 6
        · have hli : (l : Int) < 6 := by omega
          have p1 := Y1.out.cl l hl6
          have p2 := Y2.out.cl l hl6
          obtain ⟨z1, z4⟩ := hZ2.out l
          have hS := fun W => starts_any (y1 l) (y1 l) W z1 z1
          rw [z4] at hS
          obtain ⟨u1, hu1⟩ : ∃ u1, y1 l = u1 := ⟨_, rfl⟩
          rw [hu1] at p1 p2 hS z1
          have z3d : decide ((u1.size : Int) < u1.size) = false := decide_eq_false (by omega)
          unfold maxLen at z1
          replace hS : Kp _ := ⟨hS⟩
          replace hu1 : Kp _ := ⟨hu1⟩
          clear z4
          go_wp2_with fail
          go_quiet (fail)
          have Z1 := Y1.out.step (below_drewN (Below.refl _ _) nq)
          have Z2 := Y2.out.step (below_drewN (Below.refl _ _) nq)
          have Z3 := A7.out.step (below_drewN (Below.refl _ _) nq)
          have hB5 := below_drewN hB.out nq
          generalize wr.drewN nq = w6 at Z1 Z2 Z3 hB5 ⊢
          have p3 := Z1.cl l hl6
          have p4 := Z2.cl l hl6
          rw [hu1.out] at p3 p4
          replace Z1 : Kp _ := ⟨Z1⟩
          replace Z2 : Kp _ := ⟨Z2⟩
          replace Z3 : Kp _ := ⟨Z3⟩
          replace hB5 : Kp _ := ⟨hB5⟩
          clear p1 p2 Y1 Y2 hB A7
          go_wp2_with fail
          go_quiet ((go_at_call 31; exact Calls.quiet_of_same (hS.out _)))
          go_wp2_with fail
          go_roundw
          case rel => exact ⟨l + 1, by omega, by go_num, ⟨Z1.out.step (below_drewN (Below.refl _ _) _)⟩, ⟨Z2.out.step (below_drewN (Below.refl _ _) _)⟩, ⟨Z3.out.step (below_drewN (Below.refl _ _) _)⟩, ⟨below_drewN hB5.out _⟩⟩
          case measure => simp [intOf]; omega
        · have e6 : l = 6 := by omega
          subst e6
          have q0 := Y1.out.c0
          have q1 := Y1.out.c1
          have t0 := A7.out.c 0 (by omega)
          have t1 := A7.out.c 1 (by omega)
          have t2 := A7.out.c 2 (by omega)
          have t3 := A7.out.c 3 (by omega)
          have t4 := A7.out.c 4 (by omega)
          have t5 := A7.out.c 5 (by omega)
          go_wp2_with fail
          refine (R3.out _).mono ?_
          rintro e w8 ⟨rfl, b8⟩
          have X8 := Y1.out.step b8
          have X9 := Y2.out.step b8
          have A8 := A7.out.step b8
          have hB8 := hB.out.trans (b8.mono hB.out.size)
          have hx8 := X8.lt
          have hx9 := X9.lt
          have ha8 := A8.lt
          clear q0 q1 t0 t1 t2 t3 t4 t5
          have p0 := X8.c0
          have p1 := X8.c1
          have p2 := X8.cl 0 (by omega)
          have p3 := X8.cl 1 (by omega)
          have p4 := X8.cl 2 (by omega)
          have p5 := X8.cl 3 (by omega)
          have p6 := X8.cl 4 (by omega)
          have p7 := X8.cl 5 (by omega)
          have p8 := X8.cv
          have q0 := X9.c0
          have q1 := X9.c1
          have q2 := X9.cl 0 (by omega)
          have q3 := X9.cl 1 (by omega)
          have q4 := X9.cl 2 (by omega)
          have q5 := X9.cl 3 (by omega)
          have q6 := X9.cl 4 (by omega)
          have q7 := X9.cl 5 (by omega)
          have q8 := X9.cv
          have t0 := A8.c 0 (by omega)
          have t1 := A8.c 1 (by omega)
          have t2 := A8.c 2 (by omega)
          have t3 := A8.c 3 (by omega)
          have t4 := A8.c 4 (by omega)
          have t5 := A8.c 5 (by omega)
          have dka : decide ((a : Int) < kk) = false := decide_eq_false (by omega)
          by_cases hk0 : kk = 0
          · have hk00 : ((kk : Int) == 0) = true := by simp; omega
            clear X8 X9 A8 b8 R3 R4
            go_wp2_with fail
            go_ret
            exact ⟨rfl, hB8.alloc hB8.size _⟩
          · have hk00 : ((kk : Int) == 0) = false := by simp; omega
            have R5 : Kp _ := ⟨R4.out (by omega)⟩
            obtain ⟨wf, hwf⟩ : ∃ wf, wf = w8.alloc (.cells #[.int .i64 1, .int .i64 kk, .string (y1 0), .string (y1 1), .string (y1 2), .string (y1 3), .string (y1 4), .string (y1 5), .string v1] 51) := ⟨_, rfl⟩
            have X10 : ResAt wf w8.heap.size 1 kk y1 v1 := by rw [hwf]; exact ResAt.box w8 _ 1 kk y1 v1
            have X11 : ResAt wf g1 1 kk y1 v1 := by rw [hwf]; exact X8.step ((Below.refl _ _).alloc (Nat.le_refl _) _)
            have hBf : Below w.heap.size w wf := by rw [hwf]; exact hB8.alloc hB8.size _
            have hgw8 : w.heap.size ≤ w8.heap.size := Nat.le_of_lt ha8
            replace hwf : Kp _ := ⟨hwf⟩
            replace X10 : Kp _ := ⟨X10⟩
            replace X11 : Kp _ := ⟨X11⟩
            replace hBf : Kp _ := ⟨hBf⟩
            clear X8 X9 A8 b8 R3 R4 hB8
            go_wp2_with fail
            rw [← hwf.out]
            clear hwf
            refine (R5.out _).mono ?_
            rintro e w9 ⟨rfl, b9⟩
            have Y10 := X10.out.step b9
            have Y11 := X11.out.step b9
            have hB9 := hBf.out.trans (b9.mono hBf.out.size)
            have hy10 := Y10.lt
            have hy11 := Y11.lt
            clear p0 p1 p2 p3 p4 p5 p6 p7 p8 q0 q1 q2 q3 q4 q5 q6 q7 q8 t0 t1 t2 t3 t4 t5
            have p0 := Y10.c0
            have p1 := Y10.c1
            have p2 := Y10.cl 0 (by omega)
            have p3 := Y10.cl 1 (by omega)
            have p4 := Y10.cl 2 (by omega)
            have p5 := Y10.cl 3 (by omega)
            have p6 := Y10.cl 4 (by omega)
            have p7 := Y10.cl 5 (by omega)
            have p8 := Y10.cv
            have f0 := Y10.f 0 (by omega)
            have f1 := Y10.f 1 (by omega)
            have f2 := Y10.f 2 (by omega)
            have f3 := Y10.f 3 (by omega)
            have f4 := Y10.f 4 (by omega)
            have f5 := Y10.f 5 (by omega)
            have f6 := Y10.f 6 (by omega)
            have f7 := Y10.f 7 (by omega)
            have f8 := Y10.f 8 (by omega)
            have q1 := Y11.c1
            have hgg : w8.heap.size ≠ g1 := by omega
            clear X10 X11 Y10 Y11 hBf b9 R5
            go_wp2_with fail
            go_ret
            exact ⟨rfl, ((((((((hB9.setCell hgw8 _).setCell hgw8 _).setCell hgw8 _).setCell hgw8 _).setCell hgw8 _).setCell hgw8 _).setCell hgw8 _).setCell hgw8 _).setCell hgw8 _⟩
    · have hst : cntOf (fCode s) T a = a := by unfold cntOf; rw [stepsM_all _ _ a start he]
      have hst2 : (a : Int) ≤ cntOf (fCode s) T (a + d) := by have := num_ge (c := fCode s) (T := T) a (a + d) start he (by omega); unfold cntOf; omega
      have hst3 : cntOf (fCode s) T (a + d) ≤ 20000 := by have := stepsM_le (fCode s) T (a + d) start; unfold cntOf; omega
      simp only [resV_resA] at R1 R2
      rw [en, hst, hy1] at R1
      rw [hy2] at R2
      generalize endOf (fCode s) T (a + d) = en2 at *
      generalize cntOf (fCode s) T (a + d) = st2 at *
      generalize varsOf (fCode s) (fVars s) T a = v1 at *
      generalize varsOf (fCode s) (fVars s) T (a + d) = v2 at *
      unfold resA tapV at R1 R2
      replace R1 : Kp _ := ⟨R1⟩
      replace R2 : Kp _ := ⟨R2⟩
      clear hR3 hy1 hy2 hsc en he hst hP1 hP2 hC P
      go_wp2_with fail
      refine (R1.out _).mono ?_
      rintro e w4 ⟨rfl, b4⟩
      have A4 := A2.out.step b4
      have hB4 := hB2.out.trans (b4.mono hB2.out.size)
      clear t0 t1 t2 t3 t4 t5
      have t0 := A4.c 0 (by omega)
      have t1 := A4.c 1 (by omega)
      have t2 := A4.c 2 (by omega)
      have t3 := A4.c 3 (by omega)
      have t4 := A4.c 4 (by omega)
      have t5 := A4.c 5 (by omega)
      have hl4 := A4.lt
      obtain ⟨wc, hwc⟩ : ∃ wc, wc = w4.alloc (.cells #[.int .i64 2, .int .i64 a, .string (y1 0), .string (y1 1), .string (y1 2), .string (y1 3), .string (y1 4), .string (y1 5), .string v1] 51) := ⟨_, rfl⟩
      have X4 : ResAt wc w4.heap.size 2 a y1 v1 := by rw [hwc]; exact ResAt.box w4 _ 2 a y1 v1
      have hBc : Below w.heap.size w wc := by rw [hwc]; exact hB4.alloc hB4.size _
      replace hwc : Kp _ := ⟨hwc⟩
      clear A2 hB2 b4 A4 hB4 R1
      go_wp2_with fail
      rw [← hwc.out]
      clear hwc t0 t1 t2 t3 t4 t5
      refine (R2.out _).mono ?_
      rintro e w5 ⟨rfl, b5⟩
      obtain ⟨wd, hwd⟩ : ∃ wd, wd = w5.alloc (.cells #[.int .i64 en2, .int .i64 st2, .string (y2 0), .string (y2 1), .string (y2 2), .string (y2 3), .string (y2 4), .string (y2 5), .string v2] 51) := ⟨_, rfl⟩
      have X5 : ResAt wd w5.heap.size en2 st2 y2 v2 := by rw [hwd]; exact ResAt.box w5 _ en2 st2 y2 v2
      have X6 : ResAt wd w4.heap.size 2 a y1 v1 := by rw [hwd]; exact (X4.step b5).step ((Below.refl _ _).alloc (Nat.le_refl _) _)
      have hBd : Below w.heap.size w wd := by rw [hwd]; have := hBc.trans (b5.mono hBc.size); exact this.alloc this.size _
      replace hwd : Kp _ := ⟨hwd⟩
      replace X5 : Kp _ := ⟨X5⟩
      replace X6 : Kp _ := ⟨X6⟩
      replace hBd : Kp _ := ⟨hBd⟩
      clear X4 hBc b5 R2
      go_wp2_with fail
      rw [← hwd.out]
      generalize w4.heap.size = g1 at *
      generalize w5.heap.size = g2 at *
      clear hwd hl4
      go_loopw [18] (fun lv wr => ∃ l : Nat, l ≤ 6 ∧ lv = .int .i64 l ∧ Kp (ResAt wr g1 2 a y1 v1) ∧ Kp (ResAt wr g2 en2 st2 y2 v2) ∧ Kp (Below w.heap.size w wr)) (fun lv _ => 6 - (intOf lv).toNat)
      case atStart => exact ⟨0, by omega, rfl, X6, X5, hBd⟩
      case round =>
        clear X5 X6 hBd
        obtain ⟨l, hl, rfl, Y1, Y2, hB⟩ := hrel
        by_cases hl6 : l < 6
        · have hli : (l : Int) < 6 := by omega
          have p1 := Y1.out.cl l hl6
          have p2 := Y2.out.cl l hl6
          obtain ⟨z1, z2, z3, z4⟩ := hZ1.out l
          have hS := fun W => starts_any (y1 l) (y2 l) W z1 z2
          rw [z4] at hS
          obtain ⟨u1, hu1⟩ : ∃ u1, y1 l = u1 := ⟨_, rfl⟩
          obtain ⟨u2, hu2⟩ : ∃ u2, y2 l = u2 := ⟨_, rfl⟩
          rw [hu1] at p1 hS z1 z3
          rw [hu2] at p2 hS z2 z3
          have z3i : ¬ (u2.size : Int) < u1.size := by omega
          have z3d : decide ((u2.size : Int) < u1.size) = false := decide_eq_false z3i
          unfold maxLen at z1 z2
          replace hS : Kp _ := ⟨hS⟩
          replace hu1 : Kp _ := ⟨hu1⟩
          replace hu2 : Kp _ := ⟨hu2⟩
          clear z4
          go_wp2_with fail
          go_quiet (fail)
          have Z1 := Y1.out.step (below_drewN (Below.refl _ _) nq)
          have Z2 := Y2.out.step (below_drewN (Below.refl _ _) nq)
          have hB5 := below_drewN hB.out nq
          generalize wr.drewN nq = w6 at Z1 Z2 hB5 ⊢
          have p3 := Z1.cl l hl6
          have p4 := Z2.cl l hl6
          rw [hu1.out] at p3
          rw [hu2.out] at p4
          replace Z1 : Kp _ := ⟨Z1⟩
          replace Z2 : Kp _ := ⟨Z2⟩
          replace hB5 : Kp _ := ⟨hB5⟩
          clear p1 p2 Y1 Y2 hB
          go_wp2_with fail
          go_quiet ((go_at_call 31; exact Calls.quiet_of_same (hS.out _)))
          go_wp2_with fail
          go_roundw
          case rel => exact ⟨l + 1, by omega, by go_num, ⟨Z1.out.step (below_drewN (Below.refl _ _) _)⟩, ⟨Z2.out.step (below_drewN (Below.refl _ _) _)⟩, ⟨below_drewN hB5.out _⟩⟩
          case measure => simp [intOf]; omega
        · have e6 : l = 6 := by omega
          subst e6
          have q0 := Y1.out.c0
          have q1 := Y1.out.c1
          have q2 := Y2.out.c1
          have dd : decide ((a : Int) ≤ st2) = true := decide_eq_true hst2
          go_wp2_with fail
          go_ret
          exact ⟨ret_bool (by simp), hB.out⟩
  · have hk : (x != 0) = true := bne_iff_ne.2 hx
    have hnn : (x != x) = false := by simp
    have R1 := fun W => prun_bad s T a p x W hs hC.out hx hT2.out
    have R2 := fun W => prun_bad s T ((a : Int) + d) p x W hs hC.out hx hT2.out
    unfold tapV resZ at R1 R2
    replace R1 : Kp _ := ⟨R1⟩
    replace R2 : Kp _ := ⟨R2⟩
    clear hP1 hP2 hC hx
    go_wp2_with fail
    refine (R1.out _).mono ?_
    rintro e w4 ⟨rfl, b4⟩
    have A4 := A2.out.step b4
    have hB4 := hB2.out.trans (b4.mono hB2.out.size)
    clear t0 t1 t2 t3 t4 t5
    have t0 := A4.c 0 (by omega)
    have t1 := A4.c 1 (by omega)
    have t2 := A4.c 2 (by omega)
    have t3 := A4.c 3 (by omega)
    have t4 := A4.c 4 (by omega)
    have t5 := A4.c 5 (by omega)
    have hl4 := A4.lt
    obtain ⟨wc, hwc⟩ : ∃ wc, wc = w4.alloc (.cells #[.int .i64 0, .int .i64 0, .string { data := #[] }, .string { data := #[] }, .string { data := #[] }, .string { data := #[] }, .string { data := #[] }, .string { data := #[] }, .string { data := #[] }] 51) := ⟨_, rfl⟩
    have X4 : ResAt wc w4.heap.size 0 0 (fun _ => { data := #[] }) { data := #[] } := by rw [hwc]; exact ResAt.new w4 _ 0 0
    have hBc : Below w.heap.size w wc := by rw [hwc]; exact hB4.alloc hB4.size _
    replace hwc : Kp _ := ⟨hwc⟩
    clear A2 hB2 b4 A4 hB4 R1
    go_wp2_with fail
    rw [← hwc.out]
    clear hwc t0 t1 t2 t3 t4 t5
    refine (R2.out _).mono ?_
    rintro e w5 ⟨rfl, b5⟩
    have X5 := X4.step b5
    have hB5 := hBc.trans (b5.mono hBc.size)
    have hl5 := X5.lt
    have q0 := X5.c0
    have q1 := X5.c1
    have q2 := X5.cl 0 (by omega)
    have q3 := X5.cl 1 (by omega)
    have q4 := X5.cl 2 (by omega)
    have q5 := X5.cl 3 (by omega)
    have q6 := X5.cl 4 (by omega)
    have q7 := X5.cl 5 (by omega)
    have q8 := X5.cv
    have hQ := eq_tap
    clear X4 X5 hBc b5 R2
    go_wp2_with fail
    go_ret
    exact ⟨rfl, hB5.alloc hB5.size _⟩
end Go.Proofs.Ytcnbifdlkalimaa
