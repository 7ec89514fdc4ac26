/-
  The walks of the document's own answer on files (package sluiceref, P4), second part: a text cut into a file's parts; for every text.
-/
import Derived.Test.YtcnbifdlkalimaaGreatRf1
import Derived.Test.YtcnbifdlkalimaaGreatRef1
import Derived.Deep.RegionWith
namespace Go.Proofs.YtcnbifdlkalimaaGreat
open Go.RowKit
set_option linter.unusedVariables false

theorem Own.set {wr : World} {b : Nat} {vs : List Value} (h : Own wr b vs) (i : Nat) (u v : Value) (hi : vs[i]? = some u) : Own (wr.setCell ⟨b, i, none⟩ v) b (vs.set i v) := by
  have key : ∀ (j : Nat) (x : Value), (vs.set i v)[j]? = some x → (j = i ∧ x = v) ∨ (j ≠ i ∧ vs[j]? = some x) := by
    intro j x hx
    by_cases e : j = i
    · subst e
      have hl : j < vs.length := by
        rw [List.getElem?_eq_some_iff] at hi
        exact hi.1
      rw [List.getElem?_set_self hl] at hx
      simp only [Option.some.injEq] at hx
      exact .inl ⟨rfl, hx.symm⟩
    · rw [List.getElem?_set_ne (fun h => e h.symm)] at hx
      exact .inr ⟨e, hx⟩
  refine ⟨by simpa using h.lt, ?_, ?_⟩
  · intro j x hx
    rcases key j x hx with ⟨rfl, rfl⟩ | ⟨hne, hj⟩
    · exact World.cell?_setCell_same (h := h.c j u hi) ..
    · rw [World.cell?_setCell_other wr ⟨b, i, none⟩ ⟨b, j, none⟩ v (by intro e; have e2 := congrArg Addr.off e; exact hne e2.symm)]
      exact h.c j x hj
  · intro j x hx
    rw [World.frozen?_setCell]
    rcases key j x hx with ⟨rfl, rfl⟩ | ⟨hne, hj⟩
    · exact h.f j u hi
    · exact h.f j x hj

theorem Own.other {wr : World} {b : Nat} {vs : List Value} (h : Own wr b vs) (a : Addr) (v : Value) (hne : a.block ≠ b) : Own (wr.setCell a v) b vs := by
  refine ⟨by simpa using h.lt, ?_, ?_⟩
  · intro j x hx
    rw [World.cell?_setCell_other (h := by intro e; exact hne (by rw [e])) ..]
    exact h.c j x hx
  · intro j x hx
    rw [World.frozen?_setCell]
    exact h.f j x hx

theorem head_bytes {s : ByteArray} (h : 2 ≤ s.size) : ∃ h1 : 1 < (hd s 2).size, (((hd s 2)[0]'(Nat.lt_of_succ_lt h1)).toNat : Int) = bv s 0 ∧ (((hd s 2)[1]'h1).toNat : Int) = bv s 1 := by
  have hz := hd_size (s := s) (n := 2) (by omega) (by omega)
  have h1 : 1 < (hd s 2).size := by omega
  exact ⟨h1, (bv_nat (hd s 2) 0 (by omega)).trans (bv_hd 0 (by omega) (by omega)), (bv_nat (hd s 2) 1 h1).trans (bv_hd 1 (by omega) (by omega))⟩

/-- what 'cut' answers where the text is no file: some unit, and false -/
def NoUnit (e : Ending) : Prop := ∃ (u0 u4 : Int) (u1 u2 u3 : ByteArray), e = .returned (.tuple #[.agg #[.int .i64 u0, .string u1, .string u2, .string u3, .int .i64 u4], .bool false])

/-- the two boxes that 'cut' lays -/
structure Two (w wr : World) (us : List Value) : Prop where
  b : Below w.heap.size w wr
  o : Own wr w.heap.size [.int .i64 0, .string { data := #[] }, .string { data := #[] }, .string { data := #[] }, .int .i64 0]
  p : Own wr (w.heap.size + 1) us

theorem Two.start (w : World) : Two w ((w.alloc (.cells #[.int .i64 0, .string { data := #[] }, .string { data := #[] }, .string { data := #[] }, .int .i64 0] 54)).alloc (.cells #[.int .i64 0, .string { data := #[] }, .string { data := #[] }, .string { data := #[] }, .int .i64 0] 54)) [.int .i64 0, .string { data := #[] }, .string { data := #[] }, .string { data := #[] }, .int .i64 0] :=
  ⟨((Below.refl _ _).alloc (Nat.le_refl _) _).alloc (by simp) _, (Own.new5 w _ _ _ _ _ _).alloc _, by have := Own.new5 (w.alloc (.cells #[.int .i64 0, .string { data := #[] }, .string { data := #[] }, .string { data := #[] }, .int .i64 0] 54)) (.int .i64 0) (.string { data := #[] }) (.string { data := #[] }) (.string { data := #[] }) (.int .i64 0) 54; simpa using this⟩

theorem Two.step {w wr w1 : World} {us : List Value} (h : Two w wr us) (hb : Below wr.heap.size wr w1) : Two w w1 us :=
  ⟨h.b.trans (hb.mono (Nat.le_of_lt h.o.lt)), h.o.step hb, h.p.step hb⟩

theorem Two.set {w wr : World} {us : List Value} (h : Two w wr us) (i : Nat) (u v : Value) (hi : us[i]? = some u) : Two w (wr.setCell ⟨w.heap.size + 1, i, none⟩ v) (us.set i v) :=
  ⟨h.b.setCell (by simp) _, h.o.other _ _ (by simp), h.p.set i u v hi⟩

set_option maxHeartbeats 800000 in
theorem cut_head (s : ByteArray) (w : World) (hs : s.size ≤ maxLen) (h : fHead s = false) :
    Calls Tryz.prog 45 #[.string s] w fun e w' => NoUnit e ∧ Below w.heap.size w w' := by
  have hmx : s.size ≤ maxLen := hs
  unfold maxLen at hmx
  have t0 := Two.start w
  rcases fHead_f h with k | ⟨k1, k2⟩ | ⟨k1, k2, k3⟩ | ⟨k1, k2, k3, k4⟩
  · clear h
    go_enter Tryz.func45, Tryz.ntmps45
    go_wp2_with fail
    refine (first_no s 2 _ hs (by omega) (by omega)).mono ?_
    rintro e w1 ⟨rfl, hb1⟩
    replace t0 := t0.step hb1
    clear hb1
    have ol := t0.o.lt
    have pl := t0.p.lt
    have q0 := t0.o.c 0 _ rfl
    have q1 := t0.o.c 1 _ rfl
    have q2 := t0.o.c 2 _ rfl
    have q3 := t0.o.c 3 _ rfl
    have q4 := t0.o.c 4 _ rfl
    have g0 := t0.o.f 0 _ rfl
    have g1 := t0.o.f 1 _ rfl
    have g2 := t0.o.f 2 _ rfl
    have g3 := t0.o.f 3 _ rfl
    have g4 := t0.o.f 4 _ rfl
    have r0 := t0.p.c 0 _ rfl
    have r1 := t0.p.c 1 _ rfl
    have r2 := t0.p.c 2 _ rfl
    have r3 := t0.p.c 3 _ rfl
    have r4 := t0.p.c 4 _ rfl
    have k0f := t0.p.f 0 _ rfl
    have k1f := t0.p.f 1 _ rfl
    have k2f := t0.p.f 2 _ rfl
    have k3f := t0.p.f 3 _ rfl
    have k4f := t0.p.f 4 _ rfl
    go_wp2
    exact bodyPost_ret (v := .tuple #[.agg #[.int .i64 0, .string { data := #[] }, .string { data := #[] }, .string { data := #[] }, .int .i64 0], .bool false]) (by simp [results, Tryz.results45, go_sem, q0, q1, q2, q3, q4]) rfl ⟨⟨_, _, _, _, _, rfl⟩, ((((t0.b.setCell (Nat.le_refl _) _).setCell (Nat.le_refl _) _).setCell (Nat.le_refl _) _).setCell (Nat.le_refl _) _).setCell (Nat.le_refl _) _⟩
  · have hbg : Kp _ := ⟨head_bytes k1⟩
    have hv0 : (bv s 0 != 83) = true := bne_iff_ne.2 k2
    obtain ⟨d0, d1⟩ := bv_bd s 1
    clear h k2
    generalize bv s 0 = v0 at *
    generalize bv s 1 = n at *
    go_enter Tryz.func45, Tryz.ntmps45
    go_wp2_with fail
    refine (first_yes s 2 _ hs (by omega) (by omega)).mono ?_
    rintro e w1 ⟨rfl, hb1⟩
    replace t0 := t0.step hb1
    clear hb1
    obtain ⟨hb, e0, e1⟩ := hbg.out
    clear hbg
    generalize hd s 2 = bg at *
    have ol := t0.o.lt
    have pl := t0.p.lt
    have q0 := t0.o.c 0 _ rfl
    have q1 := t0.o.c 1 _ rfl
    have q2 := t0.o.c 2 _ rfl
    have q3 := t0.o.c 3 _ rfl
    have q4 := t0.o.c 4 _ rfl
    have g0 := t0.o.f 0 _ rfl
    have g1 := t0.o.f 1 _ rfl
    have g2 := t0.o.f 2 _ rfl
    have g3 := t0.o.f 3 _ rfl
    have g4 := t0.o.f 4 _ rfl
    have r0 := t0.p.c 0 _ rfl
    have r1 := t0.p.c 1 _ rfl
    have r2 := t0.p.c 2 _ rfl
    have r3 := t0.p.c 3 _ rfl
    have r4 := t0.p.c 4 _ rfl
    have k0f := t0.p.f 0 _ rfl
    have k1f := t0.p.f 1 _ rfl
    have k2f := t0.p.f 2 _ rfl
    have k3f := t0.p.f 3 _ rfl
    have k4f := t0.p.f 4 _ rfl
    go_wp2
    exact bodyPost_ret (v := .tuple #[.agg #[.int .i64 0, .string { data := #[] }, .string { data := #[] }, .string { data := #[] }, .int .i64 0], .bool false]) (by simp [results, Tryz.results45, go_sem, q0, q1, q2, q3, q4]) rfl ⟨⟨_, _, _, _, _, rfl⟩, ((((t0.b.setCell (Nat.le_refl _) _).setCell (Nat.le_refl _) _).setCell (Nat.le_refl _) _).setCell (Nat.le_refl _) _).setCell (Nat.le_refl _) _⟩
  · have hbg : Kp _ := ⟨head_bytes k1⟩
    have hv0 : (bv s 0 != 83) = false := by rw [k2]; rfl
    obtain ⟨d0, d1⟩ := bv_bd s 1
    clear h k2
    generalize bv s 0 = v0 at *
    generalize bv s 1 = n at *
    go_enter Tryz.func45, Tryz.ntmps45
    go_wp2_with fail
    refine (first_yes s 2 _ hs (by omega) (by omega)).mono ?_
    rintro e w1 ⟨rfl, hb1⟩
    replace t0 := t0.step hb1
    clear hb1
    obtain ⟨hb, e0, e1⟩ := hbg.out
    clear hbg
    generalize hd s 2 = bg at *
    have ol := t0.o.lt
    have pl := t0.p.lt
    have q0 := t0.o.c 0 _ rfl
    have q1 := t0.o.c 1 _ rfl
    have q2 := t0.o.c 2 _ rfl
    have q3 := t0.o.c 3 _ rfl
    have q4 := t0.o.c 4 _ rfl
    have g0 := t0.o.f 0 _ rfl
    have g1 := t0.o.f 1 _ rfl
    have g2 := t0.o.f 2 _ rfl
    have g3 := t0.o.f 3 _ rfl
    have g4 := t0.o.f 4 _ rfl
    have r0 := t0.p.c 0 _ rfl
    have r1 := t0.p.c 1 _ rfl
    have r2 := t0.p.c 2 _ rfl
    have r3 := t0.p.c 3 _ rfl
    have r4 := t0.p.c 4 _ rfl
    have k0f := t0.p.f 0 _ rfl
    have k1f := t0.p.f 1 _ rfl
    have k2f := t0.p.f 2 _ rfl
    have k3f := t0.p.f 3 _ rfl
    have k4f := t0.p.f 4 _ rfl
    go_wp2
    exact bodyPost_ret (v := .tuple #[.agg #[.int .i64 0, .string { data := #[] }, .string { data := #[] }, .string { data := #[] }, .int .i64 0], .bool false]) (by simp [results, Tryz.results45, go_sem, q0, q1, q2, q3, q4]) rfl ⟨⟨_, _, _, _, _, rfl⟩, ((((t0.b.setCell (Nat.le_refl _) _).setCell (Nat.le_refl _) _).setCell (Nat.le_refl _) _).setCell (Nat.le_refl _) _).setCell (Nat.le_refl _) _⟩
  · have hbg : Kp _ := ⟨head_bytes k1⟩
    have hv0 : (bv s 0 != 83) = false := by rw [k2]; rfl
    obtain ⟨d0, d1⟩ := bv_bd s 1
    clear h k2
    generalize bv s 0 = v0 at *
    generalize bv s 1 = n at *
    go_enter Tryz.func45, Tryz.ntmps45
    go_wp2_with fail
    refine (first_yes s 2 _ hs (by omega) (by omega)).mono ?_
    rintro e w1 ⟨rfl, hb1⟩
    replace t0 := t0.step hb1
    clear hb1
    obtain ⟨hb, e0, e1⟩ := hbg.out
    clear hbg
    generalize hd s 2 = bg at *
    have ol := t0.o.lt
    have pl := t0.p.lt
    have q0 := t0.o.c 0 _ rfl
    have q1 := t0.o.c 1 _ rfl
    have q2 := t0.o.c 2 _ rfl
    have q3 := t0.o.c 3 _ rfl
    have q4 := t0.o.c 4 _ rfl
    have g0 := t0.o.f 0 _ rfl
    have g1 := t0.o.f 1 _ rfl
    have g2 := t0.o.f 2 _ rfl
    have g3 := t0.o.f 3 _ rfl
    have g4 := t0.o.f 4 _ rfl
    have r0 := t0.p.c 0 _ rfl
    have r1 := t0.p.c 1 _ rfl
    have r2 := t0.p.c 2 _ rfl
    have r3 := t0.p.c 3 _ rfl
    have r4 := t0.p.c 4 _ rfl
    have k0f := t0.p.f 0 _ rfl
    have k1f := t0.p.f 1 _ rfl
    have k2f := t0.p.f 2 _ rfl
    have k3f := t0.p.f 3 _ rfl
    have k4f := t0.p.f 4 _ rfl
    go_wp2
    exact bodyPost_ret (v := .tuple #[.agg #[.int .i64 0, .string { data := #[] }, .string { data := #[] }, .string { data := #[] }, .int .i64 0], .bool false]) (by simp [results, Tryz.results45, go_sem, q0, q1, q2, q3, q4]) rfl ⟨⟨_, _, _, _, _, rfl⟩, ((((t0.b.setCell (Nat.le_refl _) _).setCell (Nat.le_refl _) _).setCell (Nat.le_refl _) _).setCell (Nat.le_refl _) _).setCell (Nat.le_refl _) _⟩

set_option maxHeartbeats 800000 in
theorem cut_short (s : ByteArray) (w : World) (hs : s.size ≤ maxLen) (h : fHead s = true) (h2 : (tl s 2).size < bv s 1 * bv s 1) :
    Calls Tryz.prog 45 #[.string s] w fun e w' => NoUnit e ∧ Below w.heap.size w w' := by
  have hmx : s.size ≤ maxLen := hs
  unfold maxLen at hmx
  have t0 := Two.start w
  obtain ⟨k1, k2, k3, k4⟩ := fHead_t h
  have hbg : Kp _ := ⟨head_bytes k1⟩
  have hv0 : (bv s 0 != 83) = false := by rw [k2]; rfl
  have m0 := sq_le _ k3 k4
  have m1 : 0 ≤ bv s 1 * bv s 1 := Int.mul_nonneg (by omega) (by omega)
  have hR : Kp ((tl s 2).size ≤ maxLen) := ⟨Nat.le_trans (tl_le s 2) hs⟩
  have hF : Kp (hd (tl s 2) (bv s 1 * bv s 1) = fTab s ∧ tl (tl s 2) (bv s 1 * bv s 1) = fR1 s) := ⟨⟨rfl, rfl⟩⟩
  have hR1 : Kp ((fR1 s).size ≤ maxLen) := ⟨Nat.le_trans (tl_le _ _) (Nat.le_trans (tl_le _ _) hs)⟩
  have hR2 : Kp ((fR2 s).size ≤ maxLen) := ⟨Nat.le_trans (tl_le _ _) (Nat.le_trans (tl_le _ _) hR1.out)⟩
  replace h2 : Kp _ := ⟨h2⟩
  clear h k2
  generalize bv s 0 = v0 at *
  generalize bv s 1 = n at *
  go_enter Tryz.func45, Tryz.ntmps45
  go_wp2_with fail
  refine (first_yes s 2 _ hs (by omega) (by omega)).mono ?_
  rintro e w1 ⟨rfl, hb1⟩
  replace t0 := t0.step hb1
  clear hb1
  obtain ⟨hb, e0, e1⟩ := hbg.out
  clear hbg
  generalize hd s 2 = bg at *
  have ol := t0.o.lt
  have pl := t0.p.lt
  have q0 := t0.o.c 0 _ rfl
  have q1 := t0.o.c 1 _ rfl
  have q2 := t0.o.c 2 _ rfl
  have q3 := t0.o.c 3 _ rfl
  have q4 := t0.o.c 4 _ rfl
  have g0 := t0.o.f 0 _ rfl
  have g1 := t0.o.f 1 _ rfl
  have g2 := t0.o.f 2 _ rfl
  have g3 := t0.o.f 3 _ rfl
  have g4 := t0.o.f 4 _ rfl
  have r0 := t0.p.c 0 _ rfl
  have r1 := t0.p.c 1 _ rfl
  have r2 := t0.p.c 2 _ rfl
  have r3 := t0.p.c 3 _ rfl
  have r4 := t0.p.c 4 _ rfl
  have k0f := t0.p.f 0 _ rfl
  have k1f := t0.p.f 1 _ rfl
  have k2f := t0.p.f 2 _ rfl
  have k3f := t0.p.f 3 _ rfl
  have k4f := t0.p.f 4 _ rfl
  go_wp2_with fail
  replace t0 : Two w _ [.int .i64 n, .string { data := #[] }, .string { data := #[] }, .string { data := #[] }, .int .i64 0] := t0.set 0 _ (.int .i64 n) rfl
  clear ol pl q0 g0 r0 k0f q1 g1 r1 k1f q2 g2 r2 k2f q3 g3 r3 k3f q4 g4 r4 k4f
  refine (first_no (tl s 2) (n * n) _ hR.out m1 h2.out).mono ?_
  rintro e w2 ⟨rfl, hb1⟩
  replace t0 := t0.step hb1
  clear hb1
  have ol := t0.o.lt
  have pl := t0.p.lt
  have q0 := t0.o.c 0 _ rfl
  have q1 := t0.o.c 1 _ rfl
  have q2 := t0.o.c 2 _ rfl
  have q3 := t0.o.c 3 _ rfl
  have q4 := t0.o.c 4 _ rfl
  have g0 := t0.o.f 0 _ rfl
  have g1 := t0.o.f 1 _ rfl
  have g2 := t0.o.f 2 _ rfl
  have g3 := t0.o.f 3 _ rfl
  have g4 := t0.o.f 4 _ rfl
  have r0 := t0.p.c 0 _ rfl
  have r1 := t0.p.c 1 _ rfl
  have r2 := t0.p.c 2 _ rfl
  have r3 := t0.p.c 3 _ rfl
  have r4 := t0.p.c 4 _ rfl
  have k0f := t0.p.f 0 _ rfl
  have k1f := t0.p.f 1 _ rfl
  have k2f := t0.p.f 2 _ rfl
  have k3f := t0.p.f 3 _ rfl
  have k4f := t0.p.f 4 _ rfl
  go_wp2
  exact bodyPost_ret (v := .tuple #[.agg #[.int .i64 n, .string { data := #[] }, .string { data := #[] }, .string { data := #[] }, .int .i64 0], .bool false]) (by simp [results, Tryz.results45, go_sem, q0, q1, q2, q3, q4]) rfl ⟨⟨_, _, _, _, _, rfl⟩, ((((t0.b.setCell (Nat.le_refl _) _).setCell (Nat.le_refl _) _).setCell (Nat.le_refl _) _).setCell (Nat.le_refl _) _).setCell (Nat.le_refl _) _⟩

set_option maxHeartbeats 800000 in
theorem cut_vars (s : ByteArray) (w : World) (hs : s.size ≤ maxLen) (h : fHead s = true) (h2 : bv s 1 * bv s 1 ≤ (tl s 2).size) (h3 : cOk (fR1 s) 1 8 = false) :
    Calls Tryz.prog 45 #[.string s] w fun e w' => NoUnit e ∧ Below w.heap.size w w' := by
  have hmx : s.size ≤ maxLen := hs
  unfold maxLen at hmx
  have t0 := Two.start w
  obtain ⟨k1, k2, k3, k4⟩ := fHead_t h
  have hbg : Kp _ := ⟨head_bytes k1⟩
  have hv0 : (bv s 0 != 83) = false := by rw [k2]; rfl
  have m0 := sq_le _ k3 k4
  have m1 : 0 ≤ bv s 1 * bv s 1 := Int.mul_nonneg (by omega) (by omega)
  have hR : Kp ((tl s 2).size ≤ maxLen) := ⟨Nat.le_trans (tl_le s 2) hs⟩
  have hF : Kp (hd (tl s 2) (bv s 1 * bv s 1) = fTab s ∧ tl (tl s 2) (bv s 1 * bv s 1) = fR1 s) := ⟨⟨rfl, rfl⟩⟩
  have hR1 : Kp ((fR1 s).size ≤ maxLen) := ⟨Nat.le_trans (tl_le _ _) (Nat.le_trans (tl_le _ _) hs)⟩
  have hR2 : Kp ((fR2 s).size ≤ maxLen) := ⟨Nat.le_trans (tl_le _ _) (Nat.le_trans (tl_le _ _) hR1.out)⟩
  replace h2 : Kp _ := ⟨h2⟩
  replace h3 : Kp _ := ⟨h3⟩
  clear h k2
  generalize bv s 0 = v0 at *
  generalize bv s 1 = n at *
  go_enter Tryz.func45, Tryz.ntmps45
  go_wp2_with fail
  refine (first_yes s 2 _ hs (by omega) (by omega)).mono ?_
  rintro e w1 ⟨rfl, hb1⟩
  replace t0 := t0.step hb1
  clear hb1
  obtain ⟨hb, e0, e1⟩ := hbg.out
  clear hbg
  generalize hd s 2 = bg at *
  have ol := t0.o.lt
  have pl := t0.p.lt
  have q0 := t0.o.c 0 _ rfl
  have q1 := t0.o.c 1 _ rfl
  have q2 := t0.o.c 2 _ rfl
  have q3 := t0.o.c 3 _ rfl
  have q4 := t0.o.c 4 _ rfl
  have g0 := t0.o.f 0 _ rfl
  have g1 := t0.o.f 1 _ rfl
  have g2 := t0.o.f 2 _ rfl
  have g3 := t0.o.f 3 _ rfl
  have g4 := t0.o.f 4 _ rfl
  have r0 := t0.p.c 0 _ rfl
  have r1 := t0.p.c 1 _ rfl
  have r2 := t0.p.c 2 _ rfl
  have r3 := t0.p.c 3 _ rfl
  have r4 := t0.p.c 4 _ rfl
  have k0f := t0.p.f 0 _ rfl
  have k1f := t0.p.f 1 _ rfl
  have k2f := t0.p.f 2 _ rfl
  have k3f := t0.p.f 3 _ rfl
  have k4f := t0.p.f 4 _ rfl
  go_wp2_with fail
  replace t0 : Two w _ [.int .i64 n, .string { data := #[] }, .string { data := #[] }, .string { data := #[] }, .int .i64 0] := t0.set 0 _ (.int .i64 n) rfl
  clear ol pl q0 g0 r0 k0f q1 g1 r1 k1f q2 g2 r2 k2f q3 g3 r3 k3f q4 g4 r4 k4f
  refine (first_yes (tl s 2) (n * n) _ hR.out m1 h2.out).mono ?_
  rintro e w2 ⟨rfl, hb1⟩
  replace t0 := t0.step hb1
  clear hb1
  rw [hF.out.1, hF.out.2]
  have ol := t0.o.lt
  have pl := t0.p.lt
  have q0 := t0.o.c 0 _ rfl
  have q1 := t0.o.c 1 _ rfl
  have q2 := t0.o.c 2 _ rfl
  have q3 := t0.o.c 3 _ rfl
  have q4 := t0.o.c 4 _ rfl
  have g0 := t0.o.f 0 _ rfl
  have g1 := t0.o.f 1 _ rfl
  have g2 := t0.o.f 2 _ rfl
  have g3 := t0.o.f 3 _ rfl
  have g4 := t0.o.f 4 _ rfl
  have r0 := t0.p.c 0 _ rfl
  have r1 := t0.p.c 1 _ rfl
  have r2 := t0.p.c 2 _ rfl
  have r3 := t0.p.c 3 _ rfl
  have r4 := t0.p.c 4 _ rfl
  have k0f := t0.p.f 0 _ rfl
  have k1f := t0.p.f 1 _ rfl
  have k2f := t0.p.f 2 _ rfl
  have k3f := t0.p.f 3 _ rfl
  have k4f := t0.p.f 4 _ rfl
  go_wp2_with fail
  clear ol pl q0 g0 r0 k0f q1 g1 r1 k1f q2 g2 r2 k2f q3 g3 r3 k3f q4 g4 r4 k4f
  refine (counted_no (fR1 s) 1 8 _ hR1.out (by omega) (by omega) h3.out).mono ?_
  rintro e w2 ⟨rfl, hb1⟩
  replace t0 := t0.step hb1
  clear hb1
  have ol := t0.o.lt
  have pl := t0.p.lt
  have q0 := t0.o.c 0 _ rfl
  have q1 := t0.o.c 1 _ rfl
  have q2 := t0.o.c 2 _ rfl
  have q3 := t0.o.c 3 _ rfl
  have q4 := t0.o.c 4 _ rfl
  have g0 := t0.o.f 0 _ rfl
  have g1 := t0.o.f 1 _ rfl
  have g2 := t0.o.f 2 _ rfl
  have g3 := t0.o.f 3 _ rfl
  have g4 := t0.o.f 4 _ rfl
  have r0 := t0.p.c 0 _ rfl
  have r1 := t0.p.c 1 _ rfl
  have r2 := t0.p.c 2 _ rfl
  have r3 := t0.p.c 3 _ rfl
  have r4 := t0.p.c 4 _ rfl
  have k0f := t0.p.f 0 _ rfl
  have k1f := t0.p.f 1 _ rfl
  have k2f := t0.p.f 2 _ rfl
  have k3f := t0.p.f 3 _ rfl
  have k4f := t0.p.f 4 _ rfl
  go_wp2
  exact bodyPost_ret (v := .tuple #[.agg #[.int .i64 n, .string { data := #[] }, .string { data := #[] }, .string { data := #[] }, .int .i64 0], .bool false]) (by simp [results, Tryz.results45, go_sem, q0, q1, q2, q3, q4]) rfl ⟨⟨_, _, _, _, _, rfl⟩, ((((t0.b.setCell (Nat.le_refl _) _).setCell (Nat.le_refl _) _).setCell (Nat.le_refl _) _).setCell (Nat.le_refl _) _).setCell (Nat.le_refl _) _⟩

set_option maxHeartbeats 800000 in
theorem cut_code (s : ByteArray) (w : World) (hs : s.size ≤ maxLen) (h : fHead s = true) (h2 : bv s 1 * bv s 1 ≤ (tl s 2).size) (h3 : cOk (fR1 s) 1 8 = true) (h4 : cOk (fR2 s) 2 200 = false) :
    Calls Tryz.prog 45 #[.string s] w fun e w' => NoUnit e ∧ Below w.heap.size w w' := by
  have hmx : s.size ≤ maxLen := hs
  unfold maxLen at hmx
  have t0 := Two.start w
  obtain ⟨k1, k2, k3, k4⟩ := fHead_t h
  have hbg : Kp _ := ⟨head_bytes k1⟩
  have hv0 : (bv s 0 != 83) = false := by rw [k2]; rfl
  have m0 := sq_le _ k3 k4
  have m1 : 0 ≤ bv s 1 * bv s 1 := Int.mul_nonneg (by omega) (by omega)
  have hR : Kp ((tl s 2).size ≤ maxLen) := ⟨Nat.le_trans (tl_le s 2) hs⟩
  have hF : Kp (hd (tl s 2) (bv s 1 * bv s 1) = fTab s ∧ tl (tl s 2) (bv s 1 * bv s 1) = fR1 s) := ⟨⟨rfl, rfl⟩⟩
  have hR1 : Kp ((fR1 s).size ≤ maxLen) := ⟨Nat.le_trans (tl_le _ _) (Nat.le_trans (tl_le _ _) hs)⟩
  have hR2 : Kp ((fR2 s).size ≤ maxLen) := ⟨Nat.le_trans (tl_le _ _) (Nat.le_trans (tl_le _ _) hR1.out)⟩
  replace h2 : Kp _ := ⟨h2⟩
  replace h3 : Kp _ := ⟨h3⟩
  replace h4 : Kp _ := ⟨h4⟩
  clear h k2
  generalize bv s 0 = v0 at *
  generalize bv s 1 = n at *
  go_enter Tryz.func45, Tryz.ntmps45
  go_wp2_with fail
  refine (first_yes s 2 _ hs (by omega) (by omega)).mono ?_
  rintro e w1 ⟨rfl, hb1⟩
  replace t0 := t0.step hb1
  clear hb1
  obtain ⟨hb, e0, e1⟩ := hbg.out
  clear hbg
  generalize hd s 2 = bg at *
  have ol := t0.o.lt
  have pl := t0.p.lt
  have q0 := t0.o.c 0 _ rfl
  have q1 := t0.o.c 1 _ rfl
  have q2 := t0.o.c 2 _ rfl
  have q3 := t0.o.c 3 _ rfl
  have q4 := t0.o.c 4 _ rfl
  have g0 := t0.o.f 0 _ rfl
  have g1 := t0.o.f 1 _ rfl
  have g2 := t0.o.f 2 _ rfl
  have g3 := t0.o.f 3 _ rfl
  have g4 := t0.o.f 4 _ rfl
  have r0 := t0.p.c 0 _ rfl
  have r1 := t0.p.c 1 _ rfl
  have r2 := t0.p.c 2 _ rfl
  have r3 := t0.p.c 3 _ rfl
  have r4 := t0.p.c 4 _ rfl
  have k0f := t0.p.f 0 _ rfl
  have k1f := t0.p.f 1 _ rfl
  have k2f := t0.p.f 2 _ rfl
  have k3f := t0.p.f 3 _ rfl
  have k4f := t0.p.f 4 _ rfl
  go_wp2_with fail
  replace t0 : Two w _ [.int .i64 n, .string { data := #[] }, .string { data := #[] }, .string { data := #[] }, .int .i64 0] := t0.set 0 _ (.int .i64 n) rfl
  clear ol pl q0 g0 r0 k0f q1 g1 r1 k1f q2 g2 r2 k2f q3 g3 r3 k3f q4 g4 r4 k4f
  refine (first_yes (tl s 2) (n * n) _ hR.out m1 h2.out).mono ?_
  rintro e w2 ⟨rfl, hb1⟩
  replace t0 := t0.step hb1
  clear hb1
  rw [hF.out.1, hF.out.2]
  have ol := t0.o.lt
  have pl := t0.p.lt
  have q0 := t0.o.c 0 _ rfl
  have q1 := t0.o.c 1 _ rfl
  have q2 := t0.o.c 2 _ rfl
  have q3 := t0.o.c 3 _ rfl
  have q4 := t0.o.c 4 _ rfl
  have g0 := t0.o.f 0 _ rfl
  have g1 := t0.o.f 1 _ rfl
  have g2 := t0.o.f 2 _ rfl
  have g3 := t0.o.f 3 _ rfl
  have g4 := t0.o.f 4 _ rfl
  have r0 := t0.p.c 0 _ rfl
  have r1 := t0.p.c 1 _ rfl
  have r2 := t0.p.c 2 _ rfl
  have r3 := t0.p.c 3 _ rfl
  have r4 := t0.p.c 4 _ rfl
  have k0f := t0.p.f 0 _ rfl
  have k1f := t0.p.f 1 _ rfl
  have k2f := t0.p.f 2 _ rfl
  have k3f := t0.p.f 3 _ rfl
  have k4f := t0.p.f 4 _ rfl
  go_wp2_with fail
  clear ol pl q0 g0 r0 k0f q1 g1 r1 k1f q2 g2 r2 k2f q3 g3 r3 k3f q4 g4 r4 k4f
  refine (counted_yes (fR1 s) 1 8 _ hR1.out (by omega) (by omega) h3.out).mono ?_
  rintro e w2 ⟨rfl, hb1⟩
  replace t0 := t0.step hb1
  clear hb1
  have hv : cPart (fR1 s) 1 = fVars s := rfl
  have hr : cRest (fR1 s) 1 = fR2 s := rfl
  rw [hv, hr]
  clear hv hr
  have ol := t0.o.lt
  have pl := t0.p.lt
  have q0 := t0.o.c 0 _ rfl
  have q1 := t0.o.c 1 _ rfl
  have q2 := t0.o.c 2 _ rfl
  have q3 := t0.o.c 3 _ rfl
  have q4 := t0.o.c 4 _ rfl
  have g0 := t0.o.f 0 _ rfl
  have g1 := t0.o.f 1 _ rfl
  have g2 := t0.o.f 2 _ rfl
  have g3 := t0.o.f 3 _ rfl
  have g4 := t0.o.f 4 _ rfl
  have r0 := t0.p.c 0 _ rfl
  have r1 := t0.p.c 1 _ rfl
  have r2 := t0.p.c 2 _ rfl
  have r3 := t0.p.c 3 _ rfl
  have r4 := t0.p.c 4 _ rfl
  have k0f := t0.p.f 0 _ rfl
  have k1f := t0.p.f 1 _ rfl
  have k2f := t0.p.f 2 _ rfl
  have k3f := t0.p.f 3 _ rfl
  have k4f := t0.p.f 4 _ rfl
  go_wp2_with fail
  clear ol pl q0 g0 r0 k0f q1 g1 r1 k1f q2 g2 r2 k2f q3 g3 r3 k3f q4 g4 r4 k4f
  refine (counted_no (fR2 s) 2 200 _ hR2.out (by omega) (by omega) h4.out).mono ?_
  rintro e w2 ⟨rfl, hb1⟩
  replace t0 := t0.step hb1
  clear hb1
  have ol := t0.o.lt
  have pl := t0.p.lt
  have q0 := t0.o.c 0 _ rfl
  have q1 := t0.o.c 1 _ rfl
  have q2 := t0.o.c 2 _ rfl
  have q3 := t0.o.c 3 _ rfl
  have q4 := t0.o.c 4 _ rfl
  have g0 := t0.o.f 0 _ rfl
  have g1 := t0.o.f 1 _ rfl
  have g2 := t0.o.f 2 _ rfl
  have g3 := t0.o.f 3 _ rfl
  have g4 := t0.o.f 4 _ rfl
  have r0 := t0.p.c 0 _ rfl
  have r1 := t0.p.c 1 _ rfl
  have r2 := t0.p.c 2 _ rfl
  have r3 := t0.p.c 3 _ rfl
  have r4 := t0.p.c 4 _ rfl
  have k0f := t0.p.f 0 _ rfl
  have k1f := t0.p.f 1 _ rfl
  have k2f := t0.p.f 2 _ rfl
  have k3f := t0.p.f 3 _ rfl
  have k4f := t0.p.f 4 _ rfl
  go_wp2
  exact bodyPost_ret (v := .tuple #[.agg #[.int .i64 n, .string { data := #[] }, .string { data := #[] }, .string { data := #[] }, .int .i64 0], .bool false]) (by simp [results, Tryz.results45, go_sem, q0, q1, q2, q3, q4]) rfl ⟨⟨_, _, _, _, _, rfl⟩, ((((t0.b.setCell (Nat.le_refl _) _).setCell (Nat.le_refl _) _).setCell (Nat.le_refl _) _).setCell (Nat.le_refl _) _).setCell (Nat.le_refl _) _⟩

theorem someBytes (r : ByteArray) (h : r.size ≠ 0) : r.toList.isEmpty = false := by
  rw [ByteArray.toList_eq]
  cases e : r.data.toList with
  | nil => exact absurd (show r.size = 0 from by show r.data.size = 0; rw [← Array.length_toList, e]; rfl) h
  | cons a b => rfl

set_option maxHeartbeats 800000 in
theorem cut_late (s : ByteArray) (w : World) (hs : s.size ≤ maxLen) (h : fHead s = true) (h2 : bv s 1 * bv s 1 ≤ (tl s 2).size) (h3 : cOk (fR1 s) 1 8 = true) (h4 : cOk (fR2 s) 2 200 = true) (h5 : (fR3 s).size ≠ 0) :
    Calls Tryz.prog 45 #[.string s] w fun e w' => NoUnit e ∧ Below w.heap.size w w' := by
  have hmx : s.size ≤ maxLen := hs
  unfold maxLen at hmx
  have t0 := Two.start w
  obtain ⟨k1, k2, k3, k4⟩ := fHead_t h
  have hbg : Kp _ := ⟨head_bytes k1⟩
  have hv0 : (bv s 0 != 83) = false := by rw [k2]; rfl
  have m0 := sq_le _ k3 k4
  have m1 : 0 ≤ bv s 1 * bv s 1 := Int.mul_nonneg (by omega) (by omega)
  have hR : Kp ((tl s 2).size ≤ maxLen) := ⟨Nat.le_trans (tl_le s 2) hs⟩
  have hF : Kp (hd (tl s 2) (bv s 1 * bv s 1) = fTab s ∧ tl (tl s 2) (bv s 1 * bv s 1) = fR1 s) := ⟨⟨rfl, rfl⟩⟩
  have hR1 : Kp ((fR1 s).size ≤ maxLen) := ⟨Nat.le_trans (tl_le _ _) (Nat.le_trans (tl_le _ _) hs)⟩
  have hR2 : Kp ((fR2 s).size ≤ maxLen) := ⟨Nat.le_trans (tl_le _ _) (Nat.le_trans (tl_le _ _) hR1.out)⟩
  replace h2 : Kp _ := ⟨h2⟩
  replace h3 : Kp _ := ⟨h3⟩
  replace h4 : Kp _ := ⟨h4⟩
  replace h5 : Kp _ := ⟨someBytes _ h5⟩
  clear h k2
  generalize bv s 0 = v0 at *
  generalize bv s 1 = n at *
  go_enter Tryz.func45, Tryz.ntmps45
  go_wp2_with fail
  refine (first_yes s 2 _ hs (by omega) (by omega)).mono ?_
  rintro e w1 ⟨rfl, hb1⟩
  replace t0 := t0.step hb1
  clear hb1
  obtain ⟨hb, e0, e1⟩ := hbg.out
  clear hbg
  generalize hd s 2 = bg at *
  have ol := t0.o.lt
  have pl := t0.p.lt
  have q0 := t0.o.c 0 _ rfl
  have q1 := t0.o.c 1 _ rfl
  have q2 := t0.o.c 2 _ rfl
  have q3 := t0.o.c 3 _ rfl
  have q4 := t0.o.c 4 _ rfl
  have g0 := t0.o.f 0 _ rfl
  have g1 := t0.o.f 1 _ rfl
  have g2 := t0.o.f 2 _ rfl
  have g3 := t0.o.f 3 _ rfl
  have g4 := t0.o.f 4 _ rfl
  have r0 := t0.p.c 0 _ rfl
  have r1 := t0.p.c 1 _ rfl
  have r2 := t0.p.c 2 _ rfl
  have r3 := t0.p.c 3 _ rfl
  have r4 := t0.p.c 4 _ rfl
  have k0f := t0.p.f 0 _ rfl
  have k1f := t0.p.f 1 _ rfl
  have k2f := t0.p.f 2 _ rfl
  have k3f := t0.p.f 3 _ rfl
  have k4f := t0.p.f 4 _ rfl
  go_wp2_with fail
  replace t0 : Two w _ [.int .i64 n, .string { data := #[] }, .string { data := #[] }, .string { data := #[] }, .int .i64 0] := t0.set 0 _ (.int .i64 n) rfl
  clear ol pl q0 g0 r0 k0f q1 g1 r1 k1f q2 g2 r2 k2f q3 g3 r3 k3f q4 g4 r4 k4f
  refine (first_yes (tl s 2) (n * n) _ hR.out m1 h2.out).mono ?_
  rintro e w2 ⟨rfl, hb1⟩
  replace t0 := t0.step hb1
  clear hb1
  rw [hF.out.1, hF.out.2]
  have ol := t0.o.lt
  have pl := t0.p.lt
  have q0 := t0.o.c 0 _ rfl
  have q1 := t0.o.c 1 _ rfl
  have q2 := t0.o.c 2 _ rfl
  have q3 := t0.o.c 3 _ rfl
  have q4 := t0.o.c 4 _ rfl
  have g0 := t0.o.f 0 _ rfl
  have g1 := t0.o.f 1 _ rfl
  have g2 := t0.o.f 2 _ rfl
  have g3 := t0.o.f 3 _ rfl
  have g4 := t0.o.f 4 _ rfl
  have r0 := t0.p.c 0 _ rfl
  have r1 := t0.p.c 1 _ rfl
  have r2 := t0.p.c 2 _ rfl
  have r3 := t0.p.c 3 _ rfl
  have r4 := t0.p.c 4 _ rfl
  have k0f := t0.p.f 0 _ rfl
  have k1f := t0.p.f 1 _ rfl
  have k2f := t0.p.f 2 _ rfl
  have k3f := t0.p.f 3 _ rfl
  have k4f := t0.p.f 4 _ rfl
  go_wp2_with fail
  clear ol pl q0 g0 r0 k0f q1 g1 r1 k1f q2 g2 r2 k2f q3 g3 r3 k3f q4 g4 r4 k4f
  refine (counted_yes (fR1 s) 1 8 _ hR1.out (by omega) (by omega) h3.out).mono ?_
  rintro e w2 ⟨rfl, hb1⟩
  replace t0 := t0.step hb1
  clear hb1
  have hv : cPart (fR1 s) 1 = fVars s := rfl
  have hr : cRest (fR1 s) 1 = fR2 s := rfl
  rw [hv, hr]
  clear hv hr
  have ol := t0.o.lt
  have pl := t0.p.lt
  have q0 := t0.o.c 0 _ rfl
  have q1 := t0.o.c 1 _ rfl
  have q2 := t0.o.c 2 _ rfl
  have q3 := t0.o.c 3 _ rfl
  have q4 := t0.o.c 4 _ rfl
  have g0 := t0.o.f 0 _ rfl
  have g1 := t0.o.f 1 _ rfl
  have g2 := t0.o.f 2 _ rfl
  have g3 := t0.o.f 3 _ rfl
  have g4 := t0.o.f 4 _ rfl
  have r0 := t0.p.c 0 _ rfl
  have r1 := t0.p.c 1 _ rfl
  have r2 := t0.p.c 2 _ rfl
  have r3 := t0.p.c 3 _ rfl
  have r4 := t0.p.c 4 _ rfl
  have k0f := t0.p.f 0 _ rfl
  have k1f := t0.p.f 1 _ rfl
  have k2f := t0.p.f 2 _ rfl
  have k3f := t0.p.f 3 _ rfl
  have k4f := t0.p.f 4 _ rfl
  go_wp2_with fail
  clear ol pl q0 g0 r0 k0f q1 g1 r1 k1f q2 g2 r2 k2f q3 g3 r3 k3f q4 g4 r4 k4f
  refine (counted_yes (fR2 s) 2 200 _ hR2.out (by omega) (by omega) h4.out).mono ?_
  rintro e w2 ⟨rfl, hb1⟩
  replace t0 := t0.step hb1
  clear hb1
  have hv : cPart (fR2 s) 2 = fCode s := rfl
  have hr : cRest (fR2 s) 2 = fR3 s := rfl
  rw [hv, hr]
  clear hv hr
  have h6 := h5.out
  clear h5
  generalize fR3 s = r3 at *
  have ol := t0.o.lt
  have pl := t0.p.lt
  have q0 := t0.o.c 0 _ rfl
  have q1 := t0.o.c 1 _ rfl
  have q2 := t0.o.c 2 _ rfl
  have q3 := t0.o.c 3 _ rfl
  have q4 := t0.o.c 4 _ rfl
  have g0 := t0.o.f 0 _ rfl
  have g1 := t0.o.f 1 _ rfl
  have g2 := t0.o.f 2 _ rfl
  have g3 := t0.o.f 3 _ rfl
  have g4 := t0.o.f 4 _ rfl
  have r0 := t0.p.c 0 _ rfl
  have r1 := t0.p.c 1 _ rfl
  have r2 := t0.p.c 2 _ rfl
  have r3 := t0.p.c 3 _ rfl
  have r4 := t0.p.c 4 _ rfl
  have k0f := t0.p.f 0 _ rfl
  have k1f := t0.p.f 1 _ rfl
  have k2f := t0.p.f 2 _ rfl
  have k3f := t0.p.f 3 _ rfl
  have k4f := t0.p.f 4 _ rfl
  go_wp2
  exact bodyPost_ret (v := .tuple #[.agg #[.int .i64 n, .string { data := #[] }, .string { data := #[] }, .string { data := #[] }, .int .i64 0], .bool false]) (by simp [results, Tryz.results45, go_sem, q0, q1, q2, q3, q4]) rfl ⟨⟨_, _, _, _, _, rfl⟩, ((((t0.b.setCell (Nat.le_refl _) _).setCell (Nat.le_refl _) _).setCell (Nat.le_refl _) _).setCell (Nat.le_refl _) _).setCell (Nat.le_refl _) _⟩
end Go.Proofs.YtcnbifdlkalimaaGreat
