/-
  The walks of program.Open and sluice.Scan: each answers what the document's own answer gives; for every text.
-/
import Derived.Test.YtcnbifdlkalimabGreatPrg3
import Derived.Test.YtcnbifdlkalimabGreatPrg4
namespace Go.Proofs.YtcnbifdlkalimabGreat
open Go.RowKit
set_option linter.unusedVariables false

theorem parts_small {s : ByteArray} (hs : s.size ≤ maxLen) : (fTab s).size ≤ maxLen ∧ (fVars s).size ≤ maxLen ∧ (fCode s).size ≤ maxLen := by
  have h1 : (fR1 s).size ≤ maxLen := Nat.le_trans (tl_le _ _) (Nat.le_trans (tl_le _ _) hs)
  have h2 : (fR2 s).size ≤ maxLen := Nat.le_trans (tl_le _ _) (Nat.le_trans (tl_le _ _) h1)
  exact ⟨Nat.le_trans (hd_le _ _) (Nat.le_trans (tl_le _ _) hs), Nat.le_trans (hd_le _ _) (Nat.le_trans (tl_le _ _) h1), Nat.le_trans (hd_le _ _) (Nat.le_trans (tl_le _ _) h2)⟩

set_option maxHeartbeats 800000 in
theorem popen_no (s : ByteArray) (w : World) (hs : s.size ≤ maxLen) (h : scanE s ≠ 0) :
    Calls Tryz.prog 24 #[.string s] w fun e w' => e = .returned (.tuple #[.agg #[.int .i64 0, .string { data := #[] }, .string { data := #[] }, .string { data := #[] }], .int .i64 (scanE s)]) ∧ Below w.heap.size w w' := by
  have hps := parts_small hs
  have hps : Kp _ := ⟨hps⟩
  have o0 := Own.new4 w (.int .i64 0) (.string { data := #[] }) (.string { data := #[] }) (.string { data := #[] }) 76
  have b0 : Below w.heap.size w (w.alloc (.cells #[.int .i64 0, .string { data := #[] }, .string { data := #[] }, .string { data := #[] }] 76)) := (Below.refl _ _).alloc (Nat.le_refl _) _
  have hmx : s.size ≤ maxLen := hs
  unfold maxLen at hmx
  rcases scan_cases s with ⟨k1, k2⟩ | ⟨k1, k2, k3⟩ | ⟨k1, k2, k3, k4⟩ | ⟨k1, k2, k3, k4, k5⟩ | ⟨k1, k2, k3, k4, k5⟩
  · rw [k2]
    clear k2 h
    go_enter Tryz.func24, Tryz.ntmps24
    go_wp2
    exact bodyPost_ret (v := .tuple #[.agg #[.int .i64 0, .string { data := #[] }, .string { data := #[] }, .string { data := #[] }], .int .i64 1]) (by simp [results, Tryz.results24, go_sem]) rfl ⟨rfl, b0⟩
  · rw [k3]
    clear k3 h
    replace k2 : Kp _ := ⟨k2⟩
    go_enter Tryz.func24, Tryz.ntmps24
    go_wp2_with fail
    refine (split_no s _ hs k2.out).mono ?_
    rintro e w1 ⟨rfl, hb1⟩
    replace b0 := b0.trans (hb1.mono (by simp))
    replace o0 := o0.step hb1
    clear hb1
    have o0l := o0.lt
    have q0 := o0.c 0 _ rfl
    have q1 := o0.c 1 _ rfl
    have q2 := o0.c 2 _ rfl
    have q3 := o0.c 3 _ rfl
    have q4 := o0.f 0 _ rfl
    have q5 := o0.f 1 _ rfl
    have q6 := o0.f 2 _ rfl
    have q7 := o0.f 3 _ rfl
    go_wp2
    exact bodyPost_ret (v := .tuple #[.agg #[.int .i64 0, .string { data := #[] }, .string { data := #[] }, .string { data := #[] }], .int .i64 2]) (by simp [results, Tryz.results24, go_sem, o0l, q0, q1, q2, q3]) rfl ⟨rfl, ((((b0.setCell (Nat.le_refl _) _).setCell (Nat.le_refl _) _).setCell (Nat.le_refl _) _).setCell (Nat.le_refl _) _).alloc (by simp; omega) _⟩
  · rw [k4]
    clear k4 h
    have k5 : (levE (fTab s) != 0) = true := bne_iff_ne.2 k3
    clear k3
    have ht := fTab_tab (s := s) (by unfold fOk at k2; rw [Bool.and_eq_true] at k2; exact k2.1)
    replace k2 : Kp _ := ⟨k2⟩
    replace ht : Kp _ := ⟨ht⟩
    generalize levE (fTab s) = le1 at *
    go_enter Tryz.func24, Tryz.ntmps24
    go_wp2_with fail
    refine (split_yes s _ hs k2.out).mono ?_
    rintro e w1 ⟨rfl, hb1⟩
    replace b0 := b0.trans (hb1.mono (by simp))
    replace o0 := o0.step hb1
    clear hb1
    have p0 := Own.new4 w1 (.int .i64 (bv s 1)) (.string (fTab s)) (.string (fVars s)) (.string (fCode s)) 76
    have o1 := o0.lt
    replace b0 := b0.alloc (Nat.le_of_lt o0.lt) (.cells #[.int .i64 (bv s 1), .string (fTab s), .string (fVars s), .string (fCode s)] 76)
    replace o0 := o0.alloc (.cells #[.int .i64 (bv s 1), .string (fTab s), .string (fVars s), .string (fCode s)] 76)
    go_wp2_with fail
    refine (judge_any ht.out.1 _).mono ?_
    rintro e w2 ⟨rfl, hb1⟩
    replace b0 := b0.trans (hb1.mono (by simp; omega))
    replace o0 := o0.step hb1
    replace p0 := p0.step hb1
    clear hb1 o1
    rw [ht.out.2.2]
    have o0l := o0.lt
    have q0 := o0.c 0 _ rfl
    have q1 := o0.c 1 _ rfl
    have q2 := o0.c 2 _ rfl
    have q3 := o0.c 3 _ rfl
    have q4 := o0.f 0 _ rfl
    have q5 := o0.f 1 _ rfl
    have q6 := o0.f 2 _ rfl
    have q7 := o0.f 3 _ rfl
    go_wp2
    exact bodyPost_ret (v := .tuple #[.agg #[.int .i64 0, .string { data := #[] }, .string { data := #[] }, .string { data := #[] }], .int .i64 le1]) (by simp [results, Tryz.results24, go_sem, q0, q1, q2, q3]) rfl ⟨rfl, (((b0.setCell (Nat.le_refl _) _).setCell (Nat.le_refl _) _).setCell (Nat.le_refl _) _).setCell (Nat.le_refl _) _⟩
  · rw [k5]
    clear k5 h
    have ht := fTab_tab (s := s) (by unfold fOk at k2; rw [Bool.and_eq_true] at k2; exact k2.1)
    replace k2 : Kp _ := ⟨k2⟩
    replace ht : Kp _ := ⟨ht⟩
    go_enter Tryz.func24, Tryz.ntmps24
    go_wp2_with fail
    refine (split_yes s _ hs k2.out).mono ?_
    rintro e w1 ⟨rfl, hb1⟩
    replace b0 := b0.trans (hb1.mono (by simp))
    replace o0 := o0.step hb1
    clear hb1
    have p0 := Own.new4 w1 (.int .i64 (bv s 1)) (.string (fTab s)) (.string (fVars s)) (.string (fCode s)) 76
    have o1 := o0.lt
    replace b0 := b0.alloc (Nat.le_of_lt o0.lt) (.cells #[.int .i64 (bv s 1), .string (fTab s), .string (fVars s), .string (fCode s)] 76)
    replace o0 := o0.alloc (.cells #[.int .i64 (bv s 1), .string (fTab s), .string (fVars s), .string (fCode s)] 76)
    go_wp2_with fail
    refine (judge_any ht.out.1 _).mono ?_
    rintro e w2 ⟨rfl, hb1⟩
    replace b0 := b0.trans (hb1.mono (by simp; omega))
    replace o0 := o0.step hb1
    replace p0 := p0.step hb1
    clear hb1 o1
    rw [ht.out.2.2]
    rw [k3]
    clear k3
    have p1 := p0.lt
    have r0 := p0.c 0 _ rfl
    have r1 := p0.c 1 _ rfl
    have r2 := p0.c 2 _ rfl
    have r3 := p0.c 3 _ rfl
    go_wp2_with fail
    refine (sound_any (bv s 1) (fTab s) (fVars s) (fCode s) _ hps.out.2.2 hps.out.2.1).mono ?_
    rintro e w3 ⟨rfl, hb1⟩
    have o1 := o0.lt
    replace b0 := b0.trans (hb1.mono (by omega))
    replace o0 := o0.step hb1
    replace p0 := p0.step hb1
    clear hb1 o1 p1 r0 r1 r2 r3
    have p1 := p0.lt
    have r0 := p0.c 0 _ rfl
    have r1 := p0.c 1 _ rfl
    have r2 := p0.c 2 _ rfl
    have r3 := p0.c 3 _ rfl
    rw [k4]
    clear k4
    have o0l := o0.lt
    have q0 := o0.c 0 _ rfl
    have q1 := o0.c 1 _ rfl
    have q2 := o0.c 2 _ rfl
    have q3 := o0.c 3 _ rfl
    have q4 := o0.f 0 _ rfl
    have q5 := o0.f 1 _ rfl
    have q6 := o0.f 2 _ rfl
    have q7 := o0.f 3 _ rfl
    go_wp2
    exact bodyPost_ret (v := .tuple #[.agg #[.int .i64 0, .string { data := #[] }, .string { data := #[] }, .string { data := #[] }], .int .i64 6]) (by simp [results, Tryz.results24, go_sem, q0, q1, q2, q3]) rfl ⟨rfl, (((b0.setCell (Nat.le_refl _) _).setCell (Nat.le_refl _) _).setCell (Nat.le_refl _) _).setCell (Nat.le_refl _) _⟩
  · exact absurd k5 h

set_option maxHeartbeats 800000 in
theorem popen_yes (s : ByteArray) (w : World) (hs : s.size ≤ maxLen) (h : scanE s = 0) :
    Calls Tryz.prog 24 #[.string s] w fun e w' => e = .returned (.tuple #[.agg #[.int .i64 (bv s 1), .string (fTab s), .string (fVars s), .string (fCode s)], .int .i64 0]) ∧ Below w.heap.size w w' := by
  have hps := parts_small hs
  have hps : Kp _ := ⟨hps⟩
  have o0 := Own.new4 w (.int .i64 0) (.string { data := #[] }) (.string { data := #[] }) (.string { data := #[] }) 76
  have b0 : Below w.heap.size w (w.alloc (.cells #[.int .i64 0, .string { data := #[] }, .string { data := #[] }, .string { data := #[] }] 76)) := (Below.refl _ _).alloc (Nat.le_refl _) _
  have hmx : s.size ≤ maxLen := hs
  unfold maxLen at hmx
  rcases scan_cases s with ⟨k1, k2⟩ | ⟨k1, k2, k3⟩ | ⟨k1, k2, k3, k4⟩ | ⟨k1, k2, k3, k4, k5⟩ | ⟨k1, k2, k3, k4, k5⟩
  · omega
  · omega
  · omega
  · omega
  · clear k5 h
    have ht := fTab_tab (s := s) (by unfold fOk at k2; rw [Bool.and_eq_true] at k2; exact k2.1)
    replace k2 : Kp _ := ⟨k2⟩
    replace ht : Kp _ := ⟨ht⟩
    go_enter Tryz.func24, Tryz.ntmps24
    go_wp2_with fail
    refine (split_yes s _ hs k2.out).mono ?_
    rintro e w1 ⟨rfl, hb1⟩
    replace b0 := b0.trans (hb1.mono (by simp))
    replace o0 := o0.step hb1
    clear hb1
    have p0 := Own.new4 w1 (.int .i64 (bv s 1)) (.string (fTab s)) (.string (fVars s)) (.string (fCode s)) 76
    have o1 := o0.lt
    replace b0 := b0.alloc (Nat.le_of_lt o0.lt) (.cells #[.int .i64 (bv s 1), .string (fTab s), .string (fVars s), .string (fCode s)] 76)
    replace o0 := o0.alloc (.cells #[.int .i64 (bv s 1), .string (fTab s), .string (fVars s), .string (fCode s)] 76)
    go_wp2_with fail
    refine (judge_any ht.out.1 _).mono ?_
    rintro e w2 ⟨rfl, hb1⟩
    replace b0 := b0.trans (hb1.mono (by simp; omega))
    replace o0 := o0.step hb1
    replace p0 := p0.step hb1
    clear hb1 o1
    rw [ht.out.2.2]
    rw [k3]
    clear k3
    have p1 := p0.lt
    have r0 := p0.c 0 _ rfl
    have r1 := p0.c 1 _ rfl
    have r2 := p0.c 2 _ rfl
    have r3 := p0.c 3 _ rfl
    go_wp2_with fail
    refine (sound_any (bv s 1) (fTab s) (fVars s) (fCode s) _ hps.out.2.2 hps.out.2.1).mono ?_
    rintro e w3 ⟨rfl, hb1⟩
    have o1 := o0.lt
    replace b0 := b0.trans (hb1.mono (by omega))
    replace o0 := o0.step hb1
    replace p0 := p0.step hb1
    clear hb1 o1 p1 r0 r1 r2 r3
    have p1 := p0.lt
    have r0 := p0.c 0 _ rfl
    have r1 := p0.c 1 _ rfl
    have r2 := p0.c 2 _ rfl
    have r3 := p0.c 3 _ rfl
    rw [k4]
    clear k4
    have o0l := o0.lt
    have q0 := o0.c 0 _ rfl
    have q1 := o0.c 1 _ rfl
    have q2 := o0.c 2 _ rfl
    have q3 := o0.c 3 _ rfl
    have q4 := o0.f 0 _ rfl
    have q5 := o0.f 1 _ rfl
    have q6 := o0.f 2 _ rfl
    have q7 := o0.f 3 _ rfl
    go_wp2
    exact bodyPost_ret (v := .tuple #[.agg #[.int .i64 (bv s 1), .string (fTab s), .string (fVars s), .string (fCode s)], .int .i64 0]) (by simp [results, Tryz.results24, go_sem, q0, q1, q2, q3]) rfl ⟨rfl, (((b0.setCell (Nat.le_refl _) _).setCell (Nat.le_refl _) _).setCell (Nat.le_refl _) _).setCell (Nat.le_refl _) _⟩
end Go.Proofs.YtcnbifdlkalimabGreat
