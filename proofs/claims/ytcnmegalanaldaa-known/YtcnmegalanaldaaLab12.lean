/-
  The walk of sluice.Check: it answers what the document's words give; for every text.
-/
import Derived.Test.YtcnmegalanaldaaLab11
import Derived.Test.YtcnmegalanaldaaPrg6
namespace Go.Proofs.Ytcnmegalanaldaa
open Go.RowKit
set_option linter.unusedVariables false
set_option maxRecDepth 100000

/-- what a text that is scanned gives -/
theorem file_ok {s : ByteArray} (hs : s.size ≤ maxLen) (h : scanE s = 0) : FileF (fCode s) (fVars s) (fTab s) (bv s 1) := by
  have hps := parts_small hs
  rcases scan_cases s with ⟨_, k⟩ | ⟨_, _, k⟩ | ⟨_, _, k3, k⟩ | ⟨_, _, _, _, k⟩ | ⟨k1, k2, k3, k4, k5⟩
  · omega
  · omega
  · omega
  · omega
  · unfold fOk at k2
    rw [Bool.and_eq_true, Bool.and_eq_true, Bool.and_eq_true] at k2
    obtain ⟨f1, f2, f3, _⟩ := k2
    obtain ⟨t1, t2, _⟩ := fTab_tab f1
    unfold vOk at f2
    rw [Bool.and_eq_true] at f2
    obtain ⟨c1, c2, c3⟩ := cOk_t f3
    have hsz : ((fCode s).size : Int) = 2 * bv (fR2 s) 0 := hd_size (by have := (bv_bd (fR2 s) 0).1; omega) c3
    have hlat := lat_ok k3
    rw [t2] at hlat
    refine ⟨hps.2.2, hps.2.1, ?_, k4, fun k h0 h1 => ⟨(bv_bd _ _).1, ?_⟩, ⟨t1, ?_, hlat⟩⟩
    · unfold half; omega
    · have := allTo_true.1 f2.2 k.toNat (by have h1 : k < ((fVars s).size : Int) := h1; unfold fVars at h1; omega)
      rw [Int.toNat_of_nonneg h0] at this
      exact of_decide_eq_true this
    · have := (levE_0 k3).2.1
      rw [t2] at this
      rw [order_same]
      exact this

/-- what Check leaves -/
def CheckPost (s : ByteArray) (w : World) (e : Ending) (w' : World) : Prop :=
  ∃ p x : Int, e = .returned (.tuple #[.int .i64 p, .int .i64 x]) ∧ Kp (CheckIs s p x) ∧ Below w.heap.size w w'

set_option maxHeartbeats 800000 in
theorem check_any (s : ByteArray) (w : World) (hs : s.size ≤ maxLen) : Calls Try.prog 21 #[.string s] w (CheckPost s w) := by
  by_cases h : scanE s = 0
  · have F : Kp (FileF (fCode s) (fVars s) (fTab s) (bv s 1)) := ⟨file_ok hs h⟩
    replace h : Kp _ := ⟨h⟩
    go_enter Try.func21, Try.ntmps21
    go_wp2_with fail
    refine (popen_yes s _ hs h.out).mono ?_
    rintro e w1 ⟨rfl, hb1⟩
    go_wp2_with fail
    refine (judgeC_any (bv s 1) (fTab s) (fVars s) (fCode s) _ F).mono ?_
    rintro e w2 ⟨p, x, rfl, hA, hb2⟩
    have hB := hb1.trans (((Below.refl _ _).alloc (Nat.le_refl _) (.cells #[.int .i64 (bv s 1), .string (fTab s), .string (fVars s), .string (fCode s)] 59)).mono hb1.size)
    have hB2 := hB.trans (hb2.mono (by simp; have := hb1.size; omega))
    have hC : Kp (CheckIs s p x) := ⟨.inr ⟨h.out, hA.out⟩⟩
    go_wp2_with fail
    go_ret2
    exact ⟨p, x, rfl, hC, hB2⟩
  · have hk : (scanE s != 0) = true := bne_iff_ne.2 h
    replace h : Kp _ := ⟨h⟩
    have hC : Kp (CheckIs s 0 (scanE s)) := ⟨.inl ⟨h.out, rfl, rfl⟩⟩
    generalize hE : scanE s = er at hk hC ⊢
    replace hE : Kp _ := ⟨hE⟩
    go_enter Try.func21, Try.ntmps21
    go_wp2_with fail
    refine (popen_no s _ hs h.out).mono ?_
    rintro e w1 ⟨rfl, hb1⟩
    rw [hE.out]
    have hB := hb1.trans (((Below.refl _ _).alloc (Nat.le_refl _) (.cells #[.int .i64 0, .string { data := #[] }, .string { data := #[] }, .string { data := #[] }] 59)).mono hb1.size)
    go_wp2_with fail
    go_ret2
    exact ⟨0, er, rfl, hC, hB⟩
end Go.Proofs.Ytcnmegalanaldaa
