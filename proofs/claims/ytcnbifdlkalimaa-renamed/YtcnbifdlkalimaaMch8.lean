/-
  The walk of sluice.Run: it answers what the document's words give; for every text, all tapes and every fuel.
-/
import Derived.Test.YtcnbifdlkalimaaMch7
import Derived.Test.YtcnbifdlkalimaaRun1
namespace Go.Proofs.Ytcnbifdlkalimaa
open Go.RowKit
set_option linter.unusedVariables false
set_option maxRecDepth 100000

/-- what Run answers -/
def RunAns (s : ByteArray) (T : Int → ByteArray) (f : Int) (r : Value) (x : Int) : Prop :=
  (∃ p, CheckIs s p x ∧ x ≠ 0 ∧ r = resZ) ∨ (CheckIs s 0 0 ∧ (f < 0 ∨ 20000 < f) ∧ x = 10 ∧ r = resZ) ∨ (CheckIs s 0 0 ∧ 0 ≤ f ∧ f ≤ 20000 ∧ x = 0 ∧ r = resV (fCode s) (fVars s) T f.toNat)

/-- what it leaves -/
def RunPost (s : ByteArray) (T : Int → ByteArray) (f : Int) (w : World) (e : Ending) (w' : World) : Prop :=
  ∃ (r : Value) (x : Int), e = .returned (.tuple #[r, .int .i64 x]) ∧ Kp (RunAns s T f r x) ∧ Below w.heap.size w w'

theorem scan_parts {s : ByteArray} (hs : s.size ≤ maxLen) (h : scanE s = 0) : (fVars s).size ≤ 8 ∧ 1 ≤ bv s 1 ∧ bv s 1 ≤ 6 ∧ ((fVars s).size : Int) = bv (fR1 s) 0 := by
  rcases scan_cases s with ⟨_, k⟩ | ⟨_, _, k⟩ | ⟨_, _, k3, k⟩ | ⟨_, _, _, _, k⟩ | ⟨k1, k2, k3, k4, k5⟩
  · omega
  · omega
  · omega
  · omega
  · unfold fOk fTabOk vOk at k2
    simp only [Bool.and_eq_true] at k2
    obtain ⟨⟨f1, _⟩, ⟨f2, _⟩, _⟩ := k2
    obtain ⟨_, _, a, b⟩ := fHead_t f1
    obtain ⟨c1, c2, c3⟩ := cOk_t f2
    have hsz : ((fVars s).size : Int) = 1 * bv (fR1 s) 0 := hd_size (by have := (bv_bd (fR1 s) 0).1; omega) c3
    exact ⟨by omega, a, b, by omega⟩

theorem runF_of {s : ByteArray} {T : Int → ByteArray} (F : FileF (fCode s) (fVars s) (fTab s) (bv s 1)) (hs : s.size ≤ maxLen) (h : scanE s = 0) (hT : ∀ l : Nat, l < 6 → (T l).size ≤ maxLen) : RunF (fCode s) (fVars s) (bv s 1) T :=
  ⟨F.hc, F.hK, (scan_parts hs h).1, (scan_parts hs h).2.2.1, hT⟩

set_option maxHeartbeats 1600000 in
theorem prun_any (s : ByteArray) (T : Int → ByteArray) (f : Int) (w : World) (hs : s.size ≤ maxLen) (hT : ∀ l : Nat, l < 6 → (T l).size ≤ maxLen) : Calls Try.prog 29 #[.string s, tapV T, .int .i64 f] w (RunPost s T f w) := by
  obtain ⟨w0, hw0⟩ : ∃ w0, w0 = (w.alloc (.cells #[.string (T 0), .string (T 1), .string (T 2), .string (T 3), .string (T 4), .string (T 5)] 49)).alloc (.cells #[.int .i64 0, .int .i64 0, .string { data := #[] }, .string { data := #[] }, .string { data := #[] }, .string { data := #[] }, .string { data := #[] }, .string { data := #[] }, .string { data := #[] }] 51) := ⟨_, rfl⟩
  have X0 : ResAt w0 (w.heap.size + 1) 0 0 (fun _ => { data := #[] }) { data := #[] } := by
    rw [hw0]
    have := ResAt.new (w.alloc (.cells #[.string (T 0), .string (T 1), .string (T 2), .string (T 3), .string (T 4), .string (T 5)] 49)) 51 0 0
    simpa using this
  have T0 : TapAt w0 w.heap.size (fun j => T j) := by
    rw [hw0]
    exact (TapAt.new w 49 (T 0) (T 1) (T 2) (T 3) (T 4) (T 5) (f := fun j => T j) ⟨rfl, rfl, rfl, rfl, rfl, rfl⟩).step ((Below.refl _ _).alloc (Nat.le_refl _) _)
  have hB0 : Below w.heap.size w w0 := by rw [hw0]; exact ((Below.refl _ _).alloc (Nat.le_refl _) _).alloc (by simp) _
  replace hw0 : Kp _ := ⟨hw0⟩
  obtain ⟨xb, hxb⟩ : ∃ xb, xb = w.heap.size + 1 := ⟨_, rfl⟩
  have hwx : w.heap.size ≤ xb := by omega
  rw [← hxb] at X0
  replace hxb : Kp _ := ⟨hxb⟩
  replace X0 : Kp _ := ⟨X0⟩
  replace T0 : Kp _ := ⟨T0⟩
  by_cases h : scanE s = 0
  · have F : Kp (FileF (fCode s) (fVars s) (fTab s) (bv s 1)) := ⟨file_ok hs h⟩
    have R : Kp (RunF (fCode s) (fVars s) (bv s 1) T) := ⟨runF_of F.out hs h hT⟩
    replace h : Kp _ := ⟨h⟩
    replace hT : Kp _ := ⟨hT⟩
    unfold tapV
    go_enter Try.func29, Try.ntmps29
    go_wp2_with fail
    rw [← hw0.out, ← hxb.out]
    refine (popen_yes s _ hs h.out).mono ?_
    rintro e w1 ⟨rfl, hb1⟩
    have hbA : Below w0.heap.size w0 (w1.alloc (.cells #[.int .i64 (bv s 1), .string (fTab s), .string (fVars s), .string (fCode s)] 77)) := hb1.trans (((Below.refl _ _).alloc (Nat.le_refl _) _).mono hb1.size)
    have O1 := Own.new4 w1 (.int .i64 (bv s 1)) (.string (fTab s)) (.string (fVars s)) (.string (fCode s)) 77
    have hl1 := hb1.size
    go_wp2_with fail
    obtain ⟨wa, hwa⟩ : ∃ wa, wa = w1.alloc (.cells #[.int .i64 (bv s 1), .string (fTab s), .string (fVars s), .string (fCode s)] 77) := ⟨_, rfl⟩
    rw [← hwa] at hbA O1 ⊢
    clear hwa
    refine (judgeC_any (bv s 1) (fTab s) (fVars s) (fCode s) _ F).mono ?_
    rintro e w2 ⟨p, x, rfl, hA, hb2⟩
    have hC : CheckIs s p x := .inr ⟨h.out, hA.out⟩
    have hbr : Below w0.heap.size w0 w2 := hbA.trans (hb2.mono hbA.size)
    have X2 := X0.out.step hbr
    have T2 := T0.out.step hbr
    have O2 := O1.step hb2
    have hBX : Below w.heap.size w w2 := hB0.trans (hbr.mono hB0.size)
    have hxl := X2.lt
    have hl2 := hBX.size
    have r0 := X2.c0
    have r1 := X2.c1
    have r2 := X2.cl 0 (by omega)
    have r3 := X2.cl 1 (by omega)
    have r4 := X2.cl 2 (by omega)
    have r5 := X2.cl 3 (by omega)
    have r6 := X2.cl 4 (by omega)
    have r7 := X2.cl 5 (by omega)
    have r8 := X2.cv
    have f0 := X2.f 0 (by omega)
    have f1 := X2.f 1 (by omega)
    have f2 := X2.f 2 (by omega)
    have f3 := X2.f 3 (by omega)
    have f4 := X2.f 4 (by omega)
    have f5 := X2.f 5 (by omega)
    have f6 := X2.f 6 (by omega)
    have f7 := X2.f 7 (by omega)
    have f8 := X2.f 8 (by omega)
    by_cases hx : x = 0
    · subst hx
      obtain ⟨_, rfl, hgt, P⟩ := check_ok hs hC
      replace hC : Kp _ := ⟨hC⟩
      by_cases hf : 0 ≤ f ∧ f ≤ 20000
      · obtain ⟨hf0, hf1⟩ := hf
        obtain ⟨k, rfl⟩ : ∃ k : Nat, f = k := ⟨f.toNat, by omega⟩
        have hk2 : k ≤ 20000 := by omega
        have hM := fun w5 => mrun_any (bv s 1) (fTab s) (fVars s) (fCode s) T hgt k w5 R.out ⟨P⟩ hk2
        have hans : Kp (RunAns s T k (resV (fCode s) (fVars s) T k) 0) := ⟨.inr (.inr ⟨hC.out, hf0, hf1, rfl, rfl⟩)⟩
        unfold tapV at hM
        unfold resV at hM hans
        generalize endOf (fCode s) T k = en at *
        generalize cntOf (fCode s) T k = st at *
        generalize logOf (fCode s) T k 0 = y0 at *
        generalize logOf (fCode s) T k 1 = y1 at *
        generalize logOf (fCode s) T k 2 = y2 at *
        generalize logOf (fCode s) T k 3 = y3 at *
        generalize logOf (fCode s) T k 4 = y4 at *
        generalize logOf (fCode s) T k 5 = y5 at *
        generalize varsOf (fCode s) (fVars s) T k = yv at *
        have t0 := T2.c 0 (by omega)
        have t1 := T2.c 1 (by omega)
        have t2 := T2.c 2 (by omega)
        have t3 := T2.c 3 (by omega)
        have t4 := T2.c 4 (by omega)
        have t5 := T2.c 5 (by omega)
        have o0 := O2.c 0 _ rfl
        have o1 := O2.c 1 _ rfl
        have o2 := O2.c 2 _ rfl
        have o3 := O2.c 3 _ rfl
        replace hM : Kp _ := ⟨hM⟩
        have X2' : Kp _ := ⟨X2⟩
        have hBX' : Kp _ := ⟨hBX⟩
        clear X2 T2 O2 hbr hb2 hb1 hbA O1 hA r0 r1 r2 r3 r4 r5 r6 r7 r8 f0 f1 f2 f3 f4 f5 f6 f7 f8 hBX P X0 T0
        go_wp2_with fail
        refine (hM.out w2).mono ?_
        rintro e w3 ⟨rfl, hb3⟩
        have X3 := X2'.out.step hb3
        have hBX : Below w.heap.size w w3 := hBX'.out.trans (hb3.mono hBX'.out.size)
        have hxl3 := X3.lt
        have r0 := X3.c0
        have r1 := X3.c1
        have r2 := X3.cl 0 (by omega)
        have r3 := X3.cl 1 (by omega)
        have r4 := X3.cl 2 (by omega)
        have r5 := X3.cl 3 (by omega)
        have r6 := X3.cl 4 (by omega)
        have r7 := X3.cl 5 (by omega)
        have r8 := X3.cv
        have f0 := X3.f 0 (by omega)
        have f1 := X3.f 1 (by omega)
        have f2 := X3.f 2 (by omega)
        have f3 := X3.f 3 (by omega)
        have f4 := X3.f 4 (by omega)
        have f5 := X3.f 5 (by omega)
        have f6 := X3.f 6 (by omega)
        have f7 := X3.f 7 (by omega)
        have f8 := X3.f 8 (by omega)
        clear X3 hb3 hM t0 t1 t2 t3 t4 t5 o0 o1 o2 o3
        go_wp2_with fail
        exact bodyPost_ret (v := .tuple #[.agg #[.int .i64 en, .int .i64 st, .string y0, .string y1, .string y2, .string y3, .string y4, .string y5, .string yv], .int .i64 0]) (by simp [results, Try.results29, go_sem, r0, r1, r2, r3, r4, r5, r6, r7, r8]) rfl ⟨_, _, rfl, hans, ((((((((hBX.setCell hwx _).setCell hwx _).setCell hwx _).setCell hwx _).setCell hwx _).setCell hwx _).setCell hwx _).setCell hwx _).setCell hwx _⟩
      · have hans : Kp (RunAns s T f resZ 10) := ⟨.inr (.inl ⟨hC.out, by omega, rfl, rfl⟩)⟩
        unfold resZ at hans
        have X2' : Kp _ := ⟨X2⟩
        clear X2 T2 O2 hbr hb2 hb1 hbA O1 hA P X0 T0
        by_cases hf0 : f < 0
        all_goals
          have hfd : ¬ (0 ≤ f ∧ f ≤ 20000) := hf
          clear hf
          go_wp2_with fail
          exact bodyPost_ret (v := .tuple #[.agg #[.int .i64 0, .int .i64 0, .string { data := #[] }, .string { data := #[] }, .string { data := #[] }, .string { data := #[] }, .string { data := #[] }, .string { data := #[] }, .string { data := #[] }], .int .i64 10]) (by simp [results, Try.results29, go_sem, r0, r1, r2, r3, r4, r5, r6, r7, r8]) rfl ⟨_, _, rfl, hans, ((((((((hBX.setCell hwx _).setCell hwx _).setCell hwx _).setCell hwx _).setCell hwx _).setCell hwx _).setCell hwx _).setCell hwx _).setCell hwx _⟩
    · have hk : (x != 0) = true := bne_iff_ne.2 hx
      have hans : Kp (RunAns s T f resZ x) := ⟨.inl ⟨p, hC, hx, rfl⟩⟩
      unfold resZ at hans
      clear X2 T2 O2 hbr hb2 hb1 hbA O1 hA X0 T0 hC
      go_wp2_with fail
      exact bodyPost_ret (v := .tuple #[.agg #[.int .i64 0, .int .i64 0, .string { data := #[] }, .string { data := #[] }, .string { data := #[] }, .string { data := #[] }, .string { data := #[] }, .string { data := #[] }, .string { data := #[] }], .int .i64 x]) (by simp [results, Try.results29, go_sem, r0, r1, r2, r3, r4, r5, r6, r7, r8]) rfl ⟨_, _, rfl, hans, ((((((((hBX.setCell hwx _).setCell hwx _).setCell hwx _).setCell hwx _).setCell hwx _).setCell hwx _).setCell hwx _).setCell hwx _).setCell hwx _⟩
  · have hk : (scanE s != 0) = true := bne_iff_ne.2 h
    have hans : Kp (RunAns s T f resZ (scanE s)) := ⟨.inl ⟨0, .inl ⟨h, rfl, rfl⟩, h, rfl⟩⟩
    unfold resZ at hans
    have hO := fun w1 => popen_no s w1 hs h
    replace h : Kp _ := ⟨h⟩
    generalize scanE s = er at *
    replace hO : Kp _ := ⟨hO⟩
    unfold tapV
    go_enter Try.func29, Try.ntmps29
    go_wp2_with fail
    rw [← hw0.out, ← hxb.out]
    refine (hO.out _).mono ?_
    rintro e w1 ⟨rfl, hb1⟩
    have hbr : Below w0.heap.size w0 (w1.alloc (.cells #[.int .i64 0, .string { data := #[] }, .string { data := #[] }, .string { data := #[] }] 77)) := hb1.trans (((Below.refl _ _).alloc (Nat.le_refl _) _).mono hb1.size)
    have X1 := X0.out.step hb1
    have hBX : Below w.heap.size w w1 := hB0.trans (hb1.mono hB0.size)
    have hlw := hBX.size
    have hxl := X1.lt
    have r0 := X1.c0
    have r1 := X1.c1
    have r2 := X1.cl 0 (by omega)
    have r3 := X1.cl 1 (by omega)
    have r4 := X1.cl 2 (by omega)
    have r5 := X1.cl 3 (by omega)
    have r6 := X1.cl 4 (by omega)
    have r7 := X1.cl 5 (by omega)
    have r8 := X1.cv
    have f0 := X1.f 0 (by omega)
    have f1 := X1.f 1 (by omega)
    have f2 := X1.f 2 (by omega)
    have f3 := X1.f 3 (by omega)
    have f4 := X1.f 4 (by omega)
    have f5 := X1.f 5 (by omega)
    have f6 := X1.f 6 (by omega)
    have f7 := X1.f 7 (by omega)
    have f8 := X1.f 8 (by omega)
    clear X1 hbr hb1 X0 T0 hO
    go_wp2_with fail
    exact bodyPost_ret (v := .tuple #[.agg #[.int .i64 0, .int .i64 0, .string { data := #[] }, .string { data := #[] }, .string { data := #[] }, .string { data := #[] }, .string { data := #[] }, .string { data := #[] }, .string { data := #[] }], .int .i64 er]) (by simp [results, Try.results29, go_sem, hxl, r0, r1, r2, r3, r4, r5, r6, r7, r8]) rfl ⟨_, _, rfl, hans, (((((((((hBX.setCell hwx _).setCell hwx _).setCell hwx _).setCell hwx _).setCell hwx _).setCell hwx _).setCell hwx _).setCell hwx _).setCell hwx _).alloc (by simp; omega) _⟩
end Go.Proofs.Ytcnbifdlkalimaa
