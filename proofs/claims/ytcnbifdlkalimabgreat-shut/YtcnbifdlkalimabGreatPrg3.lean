/-
  The walks of the package program, third part: a text cut into a file's parts; for every text.
-/
import Derived.Test.YtcnbifdlkalimabGreatPrg2
namespace Go.Proofs.YtcnbifdlkalimabGreat
open Go.RowKit
set_option linter.unusedVariables false

set_option maxHeartbeats 800000 in
theorem split_yes (s : ByteArray) (w : World) (hs : s.size ≤ maxLen) (h : fOk s = true) :
    Calls Tryz.prog 57 #[.string s] w fun e w' => e = .returned (.tuple #[.agg #[.int .i64 (bv s 1), .string (fTab s), .string (fVars s), .string (fCode s)], .bool true]) ∧ Below w.heap.size w w' := by
  unfold fOk at h
  rw [Bool.and_eq_true, Bool.and_eq_true, Bool.and_eq_true] at h
  obtain ⟨h1, h2, h3, h4⟩ := h
  replace h1 : Kp _ := ⟨h1⟩
  replace h2 : Kp _ := ⟨h2⟩
  replace h3 : Kp _ := ⟨h3⟩
  have hR1 : Kp ((fR1 s).size ≤ maxLen) := ⟨Nat.le_trans (tl_le _ _) (Nat.le_trans (tl_le _ _) hs)⟩
  have hR2 : Kp ((fR2 s).size ≤ maxLen) := ⟨Nat.le_trans (tl_le _ _) (Nat.le_trans (tl_le _ _) hR1.out)⟩
  have h4' : Kp (fR3 s = { data := #[] }) := ⟨by
    have h5 := of_decide_eq_true h4
    exact ByteArray.ext (Array.eq_empty_of_size_eq_zero h5)⟩
  clear h4
  have o0 := Own.new4 w (.int .i64 0) (.string { data := #[] }) (.string { data := #[] }) (.string { data := #[] }) 76
  have b0 : Below w.heap.size w (w.alloc (.cells #[.int .i64 0, .string { data := #[] }, .string { data := #[] }, .string { data := #[] }] 76)) := (Below.refl _ _).alloc (Nat.le_refl _) _
  go_enter Tryz.func57, Tryz.ntmps57
  go_wp2_with fail
  refine (takeTable_yes s _ hs h1.out).mono ?_
  rintro e w1 ⟨rfl, hb1⟩
  replace b0 := b0.trans (hb1.mono (by simp))
  replace o0 := o0.step hb1
  clear hb1
  have p0 := Own.new2 w1 (.int .i64 (bv s 1)) (.string (fTab s)) 54
  have o1 := o0.lt
  replace b0 := b0.alloc (Nat.le_of_lt o0.lt) (.cells #[.int .i64 (bv s 1), .string (fTab s)] 54)
  replace o0 := o0.alloc (.cells #[.int .i64 (bv s 1), .string (fTab s)] 54)
  go_wp2_with fail
  refine (takeVars_yes (fR1 s) (bv s 1) _ hR1.out h2.out).mono ?_
  rintro e w2 ⟨rfl, hb1⟩
  replace b0 := b0.trans (hb1.mono (by simp; omega))
  replace o0 := o0.step hb1
  replace p0 := p0.step hb1
  clear hb1 o1
  have hv : cPart (fR1 s) 1 = fVars s := rfl
  have hr : cRest (fR1 s) 1 = fR2 s := rfl
  rw [hv, hr]
  clear hv hr
  go_wp2_with fail
  refine (takeCode_yes (fR2 s) _ hR2.out h3.out).mono ?_
  rintro e w3 ⟨rfl, hb1⟩
  have o1 := o0.lt
  have p1 := p0.lt
  replace b0 := b0.trans (hb1.mono (by omega))
  replace o0 := o0.step hb1
  replace p0 := p0.step hb1
  clear hb1 o1 p1
  have hv : cPart (fR2 s) 2 = fCode s := rfl
  have hr : cRest (fR2 s) 2 = fR3 s := rfl
  rw [hv, hr, h4'.out]
  clear hv hr
  have o1 := o0.lt
  have q0 := o0.c 0 _ rfl
  have q1 := o0.c 1 _ rfl
  have q2 := o0.c 2 _ rfl
  have q3 := o0.c 3 _ rfl
  have q4 := o0.f 0 _ rfl
  have q5 := o0.f 1 _ rfl
  have q6 := o0.f 2 _ rfl
  have q7 := o0.f 3 _ rfl
  have p1 := p0.lt
  have r0 := p0.c 0 _ rfl
  have r1 := p0.c 1 _ rfl
  go_wp2
  exact bodyPost_ret (v := .tuple #[.agg #[.int .i64 (bv s 1), .string (fTab s), .string (fVars s), .string (fCode s)], .bool true]) (by simp [results, Tryz.results57, go_sem, q0, q1, q2, q3]) rfl ⟨rfl, (((b0.setCell (Nat.le_refl _) _).setCell (Nat.le_refl _) _).setCell (Nat.le_refl _) _).setCell (Nat.le_refl _) _⟩

theorem notEmpty (r : ByteArray) (h : r.size ≠ 0) : r.toList.isEmpty = false := by
  rw [ByteArray.toList_eq]
  cases e : r.data.toList with
  | nil => exact absurd (show r.size = 0 from by show r.data.size = 0; rw [← Array.length_toList, e]; rfl) h
  | cons a b => rfl

theorem fOk_f {s : ByteArray} (h : fOk s = false) : fTabOk s = false ∨ (fTabOk s = true ∧ vOk (fR1 s) (bv s 1) = false) ∨ (fTabOk s = true ∧ vOk (fR1 s) (bv s 1) = true ∧ cOk (fR2 s) 2 200 = false) ∨ (fTabOk s = true ∧ vOk (fR1 s) (bv s 1) = true ∧ cOk (fR2 s) 2 200 = true ∧ (fR3 s).size ≠ 0) := by
  unfold fOk at h
  cases h1 : fTabOk s with
  | false => exact .inl rfl
  | true =>
    cases h2 : vOk (fR1 s) (bv s 1) with
    | false => exact .inr (.inl ⟨rfl, rfl⟩)
    | true =>
      cases h3 : cOk (fR2 s) 2 200 with
      | false => exact .inr (.inr (.inl ⟨rfl, rfl, rfl⟩))
      | true =>
        rw [h1, h2, h3] at h
        exact .inr (.inr (.inr ⟨rfl, rfl, rfl, of_decide_eq_false (by simpa using h)⟩))

set_option maxHeartbeats 800000 in
theorem split_no (s : ByteArray) (w : World) (hs : s.size ≤ maxLen) (h : fOk s = false) :
    Calls Tryz.prog 57 #[.string s] w fun e w' => e = .returned (.tuple #[.agg #[.int .i64 0, .string { data := #[] }, .string { data := #[] }, .string { data := #[] }], .bool false]) ∧ Below w.heap.size w w' := by
  have hR1 : Kp ((fR1 s).size ≤ maxLen) := ⟨Nat.le_trans (tl_le _ _) (Nat.le_trans (tl_le _ _) hs)⟩
  have hR2 : Kp ((fR2 s).size ≤ maxLen) := ⟨Nat.le_trans (tl_le _ _) (Nat.le_trans (tl_le _ _) hR1.out)⟩
  have o0 := Own.new4 w (.int .i64 0) (.string { data := #[] }) (.string { data := #[] }) (.string { data := #[] }) 76
  have b0 : Below w.heap.size w (w.alloc (.cells #[.int .i64 0, .string { data := #[] }, .string { data := #[] }, .string { data := #[] }] 76)) := (Below.refl _ _).alloc (Nat.le_refl _) _
  rcases fOk_f h with h1 | hh
  · clear h
    replace h1 : Kp _ := ⟨h1⟩
    go_enter Tryz.func57, Tryz.ntmps57
    go_wp2_with fail
    refine (takeTable_no s _ hs h1.out).mono ?_
    rintro e w1 ⟨rfl, hb1⟩
    replace b0 := b0.trans (hb1.mono (by simp))
    replace o0 := o0.step hb1
    clear hb1
    have o1 := o0.lt
    have q0 := o0.c 0 _ rfl
    have q1 := o0.c 1 _ rfl
    have q2 := o0.c 2 _ rfl
    have q3 := o0.c 3 _ rfl
    have q4 := o0.f 0 _ rfl
    have q5 := o0.f 1 _ rfl
    have q6 := o0.f 2 _ rfl
    have q7 := o0.f 3 _ rfl
    go_wp2
    exact bodyPost_ret (v := .tuple #[.agg #[.int .i64 0, .string { data := #[] }, .string { data := #[] }, .string { data := #[] }], .bool false]) (by simp [results, Tryz.results57, go_sem, o1, q0, q1, q2, q3]) rfl ⟨rfl, ((((b0.setCell (Nat.le_refl _) _).setCell (Nat.le_refl _) _).setCell (Nat.le_refl _) _).setCell (Nat.le_refl _) _).alloc (by simp; omega) _⟩
  · clear h
    have h1 : Kp (fTabOk s = true) := ⟨by rcases hh with hh | hh | hh <;> exact hh.1⟩
    replace hh : Kp _ := ⟨hh⟩
    go_enter Tryz.func57, Tryz.ntmps57
    go_wp2_with fail
    refine (takeTable_yes s _ hs h1.out).mono ?_
    rintro e w1 ⟨rfl, hb1⟩
    replace b0 := b0.trans (hb1.mono (by simp))
    replace o0 := o0.step hb1
    clear hb1
    have p0 := Own.new2 w1 (.int .i64 (bv s 1)) (.string (fTab s)) 54
    have o1 := o0.lt
    replace b0 := b0.alloc (Nat.le_of_lt o0.lt) (.cells #[.int .i64 (bv s 1), .string (fTab s)] 54)
    replace o0 := o0.alloc (.cells #[.int .i64 (bv s 1), .string (fTab s)] 54)
    go_wp2_with fail
    rcases hh.out with h2 | hh2
    · refine (takeVars_no (fR1 s) (bv s 1) _ hR1.out h2.2).mono ?_
      replace h2 : Kp _ := ⟨h2⟩
      rintro e w2 ⟨rfl, hb1⟩
      replace b0 := b0.trans (hb1.mono (by simp; omega))
      replace o0 := o0.step hb1
      clear hb1 o1
      have o1 := o0.lt
      have q0 := o0.c 0 _ rfl
      have q1 := o0.c 1 _ rfl
      have q2 := o0.c 2 _ rfl
      have q3 := o0.c 3 _ rfl
      have q4 := o0.f 0 _ rfl
      have q5 := o0.f 1 _ rfl
      have q6 := o0.f 2 _ rfl
      have q7 := o0.f 3 _ rfl
      go_wp2
      exact bodyPost_ret (v := .tuple #[.agg #[.int .i64 0, .string { data := #[] }, .string { data := #[] }, .string { data := #[] }], .bool false]) (by simp [results, Tryz.results57, go_sem, q0, q1, q2, q3]) rfl ⟨rfl, (((b0.setCell (Nat.le_refl _) _).setCell (Nat.le_refl _) _).setCell (Nat.le_refl _) _).setCell (Nat.le_refl _) _⟩
    · have h2 : Kp (vOk (fR1 s) (bv s 1) = true) := ⟨by rcases hh2 with hh2 | hh2 <;> exact hh2.2.1⟩
      replace hh2 : Kp _ := ⟨hh2⟩
      refine (takeVars_yes (fR1 s) (bv s 1) _ hR1.out h2.out).mono ?_
      rintro e w2 ⟨rfl, hb1⟩
      replace b0 := b0.trans (hb1.mono (by simp; omega))
      replace o0 := o0.step hb1
      clear hb1 o1
      have hv : cPart (fR1 s) 1 = fVars s := rfl
      have hr : cRest (fR1 s) 1 = fR2 s := rfl
      rw [hv, hr]
      clear hv hr
      go_wp2_with fail
      rcases hh2.out with h3 | h3
      · refine (takeCode_no (fR2 s) _ hR2.out h3.2.2).mono ?_
        replace h3 : Kp _ := ⟨h3⟩
        rintro e w3 ⟨rfl, hb1⟩
        have o1 := o0.lt
        replace b0 := b0.trans (hb1.mono (by omega))
        replace o0 := o0.step hb1
        clear hb1 o1
        have o1 := o0.lt
        have q0 := o0.c 0 _ rfl
        have q1 := o0.c 1 _ rfl
        have q2 := o0.c 2 _ rfl
        have q3 := o0.c 3 _ rfl
        have q4 := o0.f 0 _ rfl
        have q5 := o0.f 1 _ rfl
        have q6 := o0.f 2 _ rfl
        have q7 := o0.f 3 _ rfl
        go_wp2
        exact bodyPost_ret (v := .tuple #[.agg #[.int .i64 0, .string { data := #[] }, .string { data := #[] }, .string { data := #[] }], .bool false]) (by simp [results, Tryz.results57, go_sem, q0, q1, q2, q3]) rfl ⟨rfl, (((b0.setCell (Nat.le_refl _) _).setCell (Nat.le_refl _) _).setCell (Nat.le_refl _) _).setCell (Nat.le_refl _) _⟩
      · refine (takeCode_yes (fR2 s) _ hR2.out h3.2.2.1).mono ?_
        have h5 := notEmpty (fR3 s) h3.2.2.2
        replace h3 : Kp _ := ⟨h3⟩
        rintro e w3 ⟨rfl, hb1⟩
        have o1 := o0.lt
        replace b0 := b0.trans (hb1.mono (by omega))
        replace o0 := o0.step hb1
        clear hb1 o1
        have hv : cPart (fR2 s) 2 = fCode s := rfl
        have hr : cRest (fR2 s) 2 = fR3 s := rfl
        rw [hv, hr]
        clear hv hr
        generalize fR3 s = r3 at *
        have o1 := o0.lt
        have q0 := o0.c 0 _ rfl
        have q1 := o0.c 1 _ rfl
        have q2 := o0.c 2 _ rfl
        have q3 := o0.c 3 _ rfl
        have q4 := o0.f 0 _ rfl
        have q5 := o0.f 1 _ rfl
        have q6 := o0.f 2 _ rfl
        have q7 := o0.f 3 _ rfl
        go_wp2
        exact bodyPost_ret (v := .tuple #[.agg #[.int .i64 0, .string { data := #[] }, .string { data := #[] }, .string { data := #[] }], .bool false]) (by simp [results, Tryz.results57, go_sem, q0, q1, q2, q3]) rfl ⟨rfl, (((b0.setCell (Nat.le_refl _) _).setCell (Nat.le_refl _) _).setCell (Nat.le_refl _) _).setCell (Nat.le_refl _) _⟩
end Go.Proofs.YtcnbifdlkalimabGreat
