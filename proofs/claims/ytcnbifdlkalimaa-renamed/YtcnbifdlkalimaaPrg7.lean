/-
  The walk of sluice.Scan: it answers what the plain functions give; for every text.
-/
import Derived.Test.YtcnbifdlkalimaaPrg5
import Derived.Test.YtcnbifdlkalimaaPrg6
namespace Go.Proofs.Ytcnbifdlkalimaa
open Go.RowKit
set_option linter.unusedVariables false

set_option maxHeartbeats 800000 in
theorem scan_no (s : ByteArray) (w : World) (hs : s.size ≤ maxLen) (h : scanE s ≠ 0) :
    Calls Try.prog 19 #[.string s] w fun e w' => e = .returned (.tuple #[.agg #[.int .i64 0, .int .i64 0, .int .i64 0], .int .i64 (scanE s)]) ∧ Below w.heap.size w w' := by
  have o0 := Own.new3 w (.int .i64 0) (.int .i64 0) (.int .i64 0) 32
  have b0 : Below w.heap.size w (w.alloc (.cells #[.int .i64 0, .int .i64 0, .int .i64 0] 32)) := (Below.refl _ _).alloc (Nat.le_refl _) _
  have hk : (scanE s != 0) = true := bne_iff_ne.2 h
  replace h : Kp _ := ⟨h⟩
  generalize hE : scanE s = er at hk ⊢
  replace hE : Kp _ := ⟨hE⟩
  go_enter Try.func19, Try.ntmps19
  go_wp2_with fail
  refine (popen_no s _ hs h.out).mono ?_
  rintro e w1 ⟨rfl, hb1⟩
  rw [hE.out]
  replace b0 := b0.trans (hb1.mono (by simp))
  replace o0 := o0.step hb1
  clear hb1 h
  have o1 := o0.lt
  have q0 := o0.c 0 _ rfl
  have q1 := o0.c 1 _ rfl
  have q2 := o0.c 2 _ rfl
  have q3 := o0.f 0 _ rfl
  have q4 := o0.f 1 _ rfl
  have q5 := o0.f 2 _ rfl
  go_wp2
  exact bodyPost_ret (v := .tuple #[.agg #[.int .i64 0, .int .i64 0, .int .i64 0], .int .i64 er]) (by simp [results, Try.results19, go_sem, o1, q0, q1, q2]) rfl ⟨rfl, (((b0.setCell (Nat.le_refl _) _).setCell (Nat.le_refl _) _).setCell (Nat.le_refl _) _).alloc (by simp; omega) _⟩

set_option maxHeartbeats 800000 in
theorem scan_yes (s : ByteArray) (w : World) (hs : s.size ≤ maxLen) (h : scanE s = 0) :
    Calls Try.prog 19 #[.string s] w fun e w' => e = .returned (.tuple #[.agg #[.int .i64 (bv s 1), .int .i64 (fVars s).size, .int .i64 (half (fCode s))], .int .i64 0]) ∧ Below w.heap.size w w' := by
  have hps := parts_small hs
  have hps : Kp _ := ⟨hps⟩
  have o0 := Own.new3 w (.int .i64 0) (.int .i64 0) (.int .i64 0) 32
  have b0 : Below w.heap.size w (w.alloc (.cells #[.int .i64 0, .int .i64 0, .int .i64 0] 32)) := (Below.refl _ _).alloc (Nat.le_refl _) _
  replace h : Kp _ := ⟨h⟩
  go_enter Try.func19, Try.ntmps19
  go_wp2_with fail
  refine (popen_yes s _ hs h.out).mono ?_
  rintro e w1 ⟨rfl, hb1⟩
  replace b0 := b0.trans (hb1.mono (by simp))
  replace o0 := o0.step hb1
  clear hb1 h
  have o1 := o0.lt
  replace b0 := b0.alloc (Nat.le_of_lt o0.lt) (.cells #[.int .i64 (bv s 1), .string (fTab s), .string (fVars s), .string (fCode s)] 77)
  replace o0 := o0.alloc (.cells #[.int .i64 (bv s 1), .string (fTab s), .string (fVars s), .string (fCode s)] 77)
  go_wp2_with fail
  refine (info_any (bv s 1) (fTab s) (fVars s) (fCode s) _ hps.out.2.2 hps.out.2.1).mono ?_
  rintro e w2 ⟨rfl, hb1⟩
  replace b0 := b0.trans (hb1.mono (by simp; omega))
  replace o0 := o0.step hb1
  clear hb1 o1
  have o1 := o0.lt
  have q0 := o0.c 0 _ rfl
  have q1 := o0.c 1 _ rfl
  have q2 := o0.c 2 _ rfl
  have q3 := o0.f 0 _ rfl
  have q4 := o0.f 1 _ rfl
  have q5 := o0.f 2 _ rfl
  go_wp2
  exact bodyPost_ret (v := .tuple #[.agg #[.int .i64 (bv s 1), .int .i64 (fVars s).size, .int .i64 (half (fCode s))], .int .i64 0]) (by simp [results, Try.results19, go_sem, q0, q1, q2]) rfl ⟨rfl, ((b0.setCell (Nat.le_refl _) _).setCell (Nat.le_refl _) _).setCell (Nat.le_refl _) _⟩
end Go.Proofs.Ytcnbifdlkalimaa
