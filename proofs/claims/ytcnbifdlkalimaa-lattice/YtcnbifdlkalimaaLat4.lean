/-
  The walks of the package lattice, last part, and of sluice.Levels, Join, Meet: each answers what the plain functions give; for every text.
-/
import Derived.Test.YtcnbifdlkalimaaLat3
namespace Go.Proofs.Ytcnbifdlkalimaa
open Go.RowKit

set_option maxHeartbeats 800000 in
theorem open_any (s : ByteArray) (w : World) (hsm : s.size ≤ maxLen) :
    Calls Try.prog 36 #[.string s] w fun e w' => e = .returned (.tuple #[.agg #[.int .i64 (levN s), .string (levS s)], .int .i64 (levE s)]) ∧ Below w.heap.size w w' := by
  have o0 := Own2.new w (.int .i64 0) (.string { data := #[] }) 67
  have b0 : Below w.heap.size w (w.alloc (.cells #[.int .i64 0, .string { data := #[] }] 67)) := (Below.refl _ _).alloc (Nat.le_refl _) _
  go_enter Try.func36, Try.ntmps36
  go_wp2_with fail
  refine (read_any s _ hsm).mono ?_
  rintro e w1 ⟨rfl, hb1⟩
  replace o0 := o0.step hb1
  replace b0 := b0.trans (hb1.mono (by simp))
  clear hb1
  by_cases h0 : tabN s = 0
  · have hE : Hid (levE s = 3) := by unfold Hid levE; rw [if_pos h0]
    have hS : Hid (levN s = 0 ∧ levS s = { data := #[] }) := ⟨lev_err hE.out (by omega), by unfold levS; rw [if_neg (by rw [hE.out]; omega)]⟩
    have hS2 : tabS s = { data := #[] } := by unfold tabS; rw [if_pos h0]
    rw [hS2, h0]
    clear h0 hS2
    obtain ⟨o1, o2, o3, o4, o5⟩ := id o0
    go_wp2
    exact bodyPost_ret (v := .tuple #[.agg #[.int .i64 0, .string { data := #[] }], .int .i64 3]) (by simp [results, Try.results36, go_sem, o1, o2, o3]) rfl ⟨by rw [hS.out.1, hS.out.2, hE.out], ((b0.setCell (Nat.le_refl _) _).setCell (Nat.le_refl _) _).alloc (by simp; omega) _⟩
  · have ht := (tabN_tab h0).1
    have h00 : (tabN s == 0) = false := by simpa using h0
    have hS2 : tabS s = s := by unfold tabS; rw [if_neg h0]
    have hE : Hid (levE s = judgeE s (tabN s)) := by
      have := levE_same s
      unfold openE at this
      rw [if_neg h0] at this
      exact this.symm
    rw [hS2, h00]
    clear h0 hS2 h00
    have hN : Hid (levE s = 0 → levN s = tabN s ∧ levS s = s) := fun h => ⟨lev_ok h, by unfold levS; rw [if_pos h]⟩
    have hM : Hid (levE s ≠ 0 → levN s = 0 ∧ levS s = { data := #[] }) := fun h => ⟨lev_err rfl h, by unfold levS; rw [if_neg h]⟩
    generalize tabN s = n at *
    have p0 := Own2.new w1 (.int .i64 n) (.string s) 67
    replace b0 := b0.alloc (Nat.le_of_lt o0.lt) (.cells #[.int .i64 n, .string s] 67)
    have o1 := o0.lt
    replace o0 := o0.alloc (.cells #[.int .i64 n, .string s] 67)
    go_wp2_with fail
    refine (judge_any ht _).mono ?_
    rintro e w2 ⟨rfl, hb1⟩
    rw [← hE.out]
    replace o0 := o0.step hb1
    replace p0 := p0.step hb1
    replace b0 := b0.trans (hb1.mono (by simp; omega))
    clear hb1
    obtain ⟨o1, o2, o3, o4, o5⟩ := id o0
    obtain ⟨p1, p2, p3, p4, p5⟩ := id p0
    by_cases h1 : levE s = 0
    · have hv : Hid _ := hN.out h1
      have he : Hid _ := h1
      rw [h1]
      clear h1
      go_wp2
      exact bodyPost_ret (v := .tuple #[.agg #[.int .i64 n, .string s], .int .i64 0]) (by simp [results, Try.results36, go_sem, o2, o3]) rfl ⟨by rw [hv.out.1, hv.out.2, he.out], ((b0.setCell (Nat.le_refl _) _).setCell (Nat.le_refl _) _)⟩
    · have hv : Hid _ := hM.out h1
      have he : (levE s != 0) = true := by simpa using h1
      clear h1
      go_wp2
      exact bodyPost_ret (v := .tuple #[.agg #[.int .i64 0, .string { data := #[] }], .int .i64 (levE s)]) (by simp [results, Try.results36, go_sem, o2, o3]) rfl ⟨by rw [hv.out.1, hv.out.2], ((b0.setCell (Nat.le_refl _) _).setCell (Nat.le_refl _) _)⟩

set_option maxHeartbeats 400000 in
theorem has_any (s : ByteArray) (n a : Int) (w : World) :
    Calls Try.prog 62 #[.agg #[.int .i64 n, .string s], .int .i64 a] w fun e w' => e = .returned (.bool (inLev a n)) ∧ Below w.heap.size w w' := by
  by_cases h1 : 0 ≤ a
  · by_cases h2 : a < n
    · have hd : Hid (inLev a n = true) := inLev_t ⟨h1, h2⟩
      go_enter Try.func62, Try.ntmps62
      go_wp2
      go_ret
      exact ⟨ret_bool hd.out.symm, (Below.refl _ _).alloc (Nat.le_refl _) _⟩
    · have hd : Hid (inLev a n = false) := inLev_f (fun h => h2 h.2)
      go_enter Try.func62, Try.ntmps62
      go_wp2
      go_ret
      exact ⟨ret_bool hd.out.symm, (Below.refl _ _).alloc (Nat.le_refl _) _⟩
  · have hd : Hid (inLev a n = false) := inLev_f (fun h => h1 h.1)
    go_enter Try.func62, Try.ntmps62
    go_wp2
    go_ret
    exact ⟨ret_bool hd.out.symm, (Below.refl _ _).alloc (Nat.le_refl _) _⟩

set_option maxHeartbeats 400000 in
theorem levels_any (s : ByteArray) (w : World) (hsm : s.size ≤ maxLen) :
    Calls Try.prog 12 #[.string s] w fun e w' => e = .returned (.tuple #[.int .i64 (levN s), .int .i64 (levE s)]) ∧ Below w.heap.size w w' := by
  go_enter Try.func12, Try.ntmps12
  go_wp2_with fail
  refine (open_any s _ hsm).mono ?_
  rintro e w1 ⟨rfl, hb1⟩
  go_wp2
  go_ret2
  exact ⟨rfl, hb1.alloc hb1.size _⟩

set_option maxHeartbeats 800000 in
theorem openWith_any (s : ByteArray) (a b : Int) (w : World) (hsm : s.size ≤ maxLen) :
    Calls Try.prog 41 #[.string s, .int .i64 a, .int .i64 b] w fun e w' => e = .returned (.tuple #[.agg #[.int .i64 (askN s a b), .string (askS s a b)], .int .i64 (askE s a b)]) ∧ Below w.heap.size w w' := by
  have o0 := Own2.new w (.int .i64 0) (.string { data := #[] }) 67
  have b0 : Below w.heap.size w (w.alloc (.cells #[.int .i64 0, .string { data := #[] }] 67)) := (Below.refl _ _).alloc (Nat.le_refl _) _
  go_enter Try.func41, Try.ntmps41
  go_wp2_with fail
  refine (open_any s _ hsm).mono ?_
  rintro e w1 ⟨rfl, hb1⟩
  replace o0 := o0.step hb1
  replace b0 := b0.trans (hb1.mono (by simp))
  clear hb1
  by_cases h0 : levE s = 0
  · rw [lev_ok h0, h0]
    have hS : levS s = s := by unfold levS; rw [if_pos h0]
    rw [hS]
    have H0 : Hid _ := h0
    clear h0 hS
    have p0 := Own2.new w1 (.int .i64 (tabN s)) (.string s) 67
    have o1 := o0.lt
    replace b0 := b0.alloc (Nat.le_of_lt o0.lt) (.cells #[.int .i64 (tabN s), .string s] 67)
    replace o0 := o0.alloc (.cells #[.int .i64 (tabN s), .string s] 67)
    go_wp2_with fail
    refine (has_any s (tabN s) a _).mono ?_
    rintro e w2 ⟨rfl, hb1⟩
    replace o0 := o0.step hb1
    replace p0 := p0.step hb1
    replace b0 := b0.trans (hb1.mono (by simp; omega))
    clear hb1 o1
    obtain ⟨o1, o2, o3, o4, o5⟩ := id o0
    obtain ⟨p1, p2, p3, p4, p5⟩ := id p0
    by_cases h1 : 0 ≤ a ∧ a < tabN s
    · rw [inLev_t h1]
      have H1 : Hid _ := h1
      clear h1
      go_wp2_with fail
      refine (has_any s (tabN s) b _).mono ?_
      rintro e w3 ⟨rfl, hb1⟩
      replace b0 := b0.trans (hb1.mono (by omega))
      replace o0 := o0.step hb1
      replace p0 := p0.step hb1
      clear hb1 o1 o2 o3 o4 o5 p1 p2 p3 p4 p5
      obtain ⟨o1, o2, o3, o4, o5⟩ := id o0
      obtain ⟨p1, p2, p3, p4, p5⟩ := id p0
      by_cases h2 : 0 ≤ b ∧ b < tabN s
      · rw [inLev_t h2]
        have hA : Hid (askE s a b = 0) := (ask_in H0.out ⟨H1.out.1, H1.out.2, h2.1, h2.2⟩).1
        clear h2
        go_wp2
        exact bodyPost_ret (v := .tuple #[.agg #[.int .i64 (tabN s), .string s], .int .i64 0]) (by simp [results, Try.results41, go_sem, o2, o3]) rfl ⟨by rw [(ask_yes hA.out).1, (ask_yes hA.out).2.1, hA.out], (b0.setCell (Nat.le_refl _) _).setCell (Nat.le_refl _) _⟩
      · rw [inLev_f h2]
        have hA : Hid (askE s a b = 10) := (ask_out H0.out (fun h => h2 h.2.2)).1
        have hB : Hid _ := ask_no (s := s) (a := a) (b := b) (by rw [hA.out]; omega)
        clear h2
        go_wp2
        exact bodyPost_ret (v := .tuple #[.agg #[.int .i64 0, .string { data := #[] }], .int .i64 10]) (by simp [results, Try.results41, go_sem, o2, o3]) rfl ⟨by rw [hB.out.1, hB.out.2.1, hA.out], (b0.setCell (Nat.le_refl _) _).setCell (Nat.le_refl _) _⟩
    · rw [inLev_f h1]
      have hA : Hid (askE s a b = 10) := (ask_out H0.out (fun h => h1 ⟨h.1, h.2.1⟩)).1
      have hB : Hid _ := ask_no (s := s) (a := a) (b := b) (by rw [hA.out]; omega)
      clear h1
      go_wp2
      exact bodyPost_ret (v := .tuple #[.agg #[.int .i64 0, .string { data := #[] }], .int .i64 10]) (by simp [results, Try.results41, go_sem, o2, o3]) rfl ⟨by rw [hB.out.1, hB.out.2.1, hA.out], (b0.setCell (Nat.le_refl _) _).setCell (Nat.le_refl _) _⟩
  · have hA : Hid (askE s a b = levE s) := (ask_lev h0).1
    have hB : Hid _ := ask_no (s := s) (a := a) (b := b) (by rw [hA.out]; exact h0)
    have he : (levE s != 0) = true := by simpa using h0
    rw [lev_err rfl h0]
    have hS : levS s = { data := #[] } := by unfold levS; rw [if_neg h0]
    rw [hS]
    clear h0 hS
    obtain ⟨o1, o2, o3, o4, o5⟩ := id o0
    go_wp2
    exact bodyPost_ret (v := .tuple #[.agg #[.int .i64 0, .string { data := #[] }], .int .i64 (levE s)]) (by simp [results, Try.results41, go_sem, o1, o2, o3]) rfl ⟨by rw [hB.out.1, hB.out.2.1, hA.out], ((b0.setCell (Nat.le_refl _) _).setCell (Nat.le_refl _) _).alloc (by simp; omega) _⟩

set_option maxHeartbeats 400000 in
theorem askJ_any (s : ByteArray) (a b : Int) (w : World) (hsm : s.size ≤ maxLen) :
    Calls Try.prog 15 #[.string s, .int .i64 a, .int .i64 b] w fun e w' => e = .returned (.tuple #[.int .i64 (askJ s a b), .int .i64 (askE s a b)]) ∧ Below w.heap.size w w' := by
  go_enter Try.func15, Try.ntmps15
  go_wp2_with fail
  refine (openWith_any s a b _ hsm).mono ?_
  rintro e w1 ⟨rfl, hb1⟩
  by_cases h0 : askE s a b = 0
  · obtain ⟨h1, h2, h3, h4⟩ := ask_yes h0
    have hJ : Hid ((pJoin s (tabN s) a b).getD 0 = askJ s a b) := by
      rw [join_same (by rw [order_same]; exact (levE_0 h3).2.1)]
      rw [(ask_in h3 h4).2.1]
      rfl
    have hA : Hid _ := h0
    rw [h0, h1, h2]
    have ht := (tabN_tab (levE_0 h3).1).1
    clear h0 h1 h2 h3
    generalize tabN s = n at *
    obtain ⟨i1, i2, i3, i4⟩ := h4
    have b1 := hb1.alloc hb1.size (.cells #[.int .i64 n, .string s] 67)
    have hsz := hb1.size
    clear hb1
    go_wp2_with fail
    refine (join_any ht a b _ i1 i2 i3 i4).mono ?_
    rintro e w2 ⟨rfl, hb2⟩
    rw [hJ.out]
    go_wp2
    go_ret2
    rw [hA.out]
    exact ⟨rfl, b1.trans (hb2.mono (by simp; omega))⟩
  · have hB : Hid _ := ask_no h0
    have he : (askE s a b != 0) = true := by simpa using h0
    rw [hB.out.1, hB.out.2.1]
    clear h0
    go_wp2
    go_ret2
    rw [hB.out.2.2.1]
    exact ⟨rfl, hb1.alloc hb1.size _⟩

set_option maxHeartbeats 400000 in
theorem askM_any (s : ByteArray) (a b : Int) (w : World) (hsm : s.size ≤ maxLen) :
    Calls Try.prog 17 #[.string s, .int .i64 a, .int .i64 b] w fun e w' => e = .returned (.tuple #[.int .i64 (askM s a b), .int .i64 (askE s a b)]) ∧ Below w.heap.size w w' := by
  go_enter Try.func17, Try.ntmps17
  go_wp2_with fail
  refine (openWith_any s a b _ hsm).mono ?_
  rintro e w1 ⟨rfl, hb1⟩
  by_cases h0 : askE s a b = 0
  · obtain ⟨h1, h2, h3, h4⟩ := ask_yes h0
    have hJ : Hid ((pMeet s (tabN s) a b).getD 0 = askM s a b) := by
      rw [meet_same (by rw [order_same]; exact (levE_0 h3).2.1)]
      rw [(ask_in h3 h4).2.2]
      rfl
    have hA : Hid _ := h0
    rw [h0, h1, h2]
    have ht := (tabN_tab (levE_0 h3).1).1
    clear h0 h1 h2 h3
    generalize tabN s = n at *
    obtain ⟨i1, i2, i3, i4⟩ := h4
    have b1 := hb1.alloc hb1.size (.cells #[.int .i64 n, .string s] 67)
    have hsz := hb1.size
    clear hb1
    go_wp2_with fail
    refine (meet_any ht a b _ i1 i2 i3 i4).mono ?_
    rintro e w2 ⟨rfl, hb2⟩
    rw [hJ.out]
    go_wp2
    go_ret2
    rw [hA.out]
    exact ⟨rfl, b1.trans (hb2.mono (by simp; omega))⟩
  · have hB : Hid _ := ask_no h0
    have he : (askE s a b != 0) = true := by simpa using h0
    rw [hB.out.1, hB.out.2.1]
    clear h0
    go_wp2
    go_ret2
    rw [hB.out.2.2.2]
    exact ⟨rfl, hb1.alloc hb1.size _⟩
end Go.Proofs.Ytcnbifdlkalimaa
