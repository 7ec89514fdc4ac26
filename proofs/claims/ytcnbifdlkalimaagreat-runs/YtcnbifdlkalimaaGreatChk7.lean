/-
  The walks of the document's own answer on what is let through (package sluiceref, P5), seventh part: which levels flow to what an instruction pushes; for every file that is scanned and has heights.
-/
import Derived.Test.YtcnbifdlkalimaaGreatChk3
import Derived.Test.YtcnbifdlkalimaaGreatPlain16
import Derived.Deep.RegionWith
import Derived.Deep.QuietTactic
import Derived.BigQuiet
namespace Go.Proofs.YtcnbifdlkalimaaGreat
open Go.RowKit Go.Deep
set_option linter.unusedVariables false
set_option maxRecDepth 100000

/-- block f holds a unit with its live places, heights and regions -/
structure FlAt (w : World) (f gl gh gr : Nat) (n : Int) (t v c : ByteArray) (lm : Nat → Bool) (h : Nat → Int) (R : Nat → Nat → Bool) : Prop where
  lt : f < w.heap.size
  ll : gl < w.heap.size
  lh : gh < w.heap.size
  lr : gr < w.heap.size
  c0 : w.cell? ⟨f, 0, none⟩ = some (.int .i64 n)
  c1 : w.cell? ⟨f, 1, none⟩ = some (.string t)
  c2 : w.cell? ⟨f, 2, none⟩ = some (.string v)
  c3 : w.cell? ⟨f, 3, none⟩ = some (.string c)
  c4 : w.cell? ⟨f, 4, none⟩ = some (.int .i64 (half c))
  c5 : w.cell? ⟨f, 5, none⟩ = some (.slice (some ⟨gl, 0, none⟩) ((half c).toNat + 1) ((half c).toNat + 1))
  c6 : w.cell? ⟨f, 6, none⟩ = some (.slice (some ⟨gh, 0, none⟩) ((half c).toNat + 1) ((half c).toNat + 1))
  c7 : w.cell? ⟨f, 7, none⟩ = some (.slice (some ⟨gr, 0, none⟩) ((half c).toNat + 1) ((half c).toNat + 1))
  l : ∀ j, j < (half c).toNat + 1 → w.cell? ⟨gl, j, none⟩ = some (.bool (lm j))
  h : ∀ j, j < (half c).toNat + 1 → w.cell? ⟨gh, j, none⟩ = some (.int .i64 (h j))
  r : ∀ i : Nat, (i : Int) < half c → lm i = true → bv c (2 * i) = 9 → ∃ g, g < w.heap.size ∧ w.cell? ⟨gr, i, none⟩ = some (.slice (some ⟨g, 0, none⟩) ((half c).toNat + 1) ((half c).toNat + 1)) ∧ ∀ j, j < (half c).toNat + 1 → w.cell? ⟨g, j, none⟩ = some (.bool (R i j))

theorem FlAt.step {w w1 : World} {f gl gh gr : Nat} {n : Int} {t v c : ByteArray} {lm : Nat → Bool} {h : Nat → Int} {R : Nat → Nat → Bool} (H : FlAt w f gl gh gr n t v c lm h R) (hb : Below w.heap.size w w1) : FlAt w1 f gl gh gr n t v c lm h R := by
  have e : ∀ b j, b < w.heap.size → w1.cell? ⟨b, j, none⟩ = w.cell? ⟨b, j, none⟩ := fun b j hl => hb.cell (p := ⟨b, j, none⟩) hl
  refine ⟨Nat.lt_of_lt_of_le H.lt hb.size, Nat.lt_of_lt_of_le H.ll hb.size, Nat.lt_of_lt_of_le H.lh hb.size, Nat.lt_of_lt_of_le H.lr hb.size, by rw [e _ _ H.lt]; exact H.c0, by rw [e _ _ H.lt]; exact H.c1, by rw [e _ _ H.lt]; exact H.c2, by rw [e _ _ H.lt]; exact H.c3, by rw [e _ _ H.lt]; exact H.c4, by rw [e _ _ H.lt]; exact H.c5, by rw [e _ _ H.lt]; exact H.c6, by rw [e _ _ H.lt]; exact H.c7, fun j hj => by rw [e _ _ H.ll]; exact H.l j hj, fun j hj => by rw [e _ _ H.lh]; exact H.h j hj, fun i h1 h2 h3 => ?_⟩
  obtain ⟨g, g1, g2, g3⟩ := H.r i h1 h2 h3
  exact ⟨g, Nat.lt_of_lt_of_le g1 hb.size, by rw [e _ _ H.lr]; exact g2, fun j hj => by rw [e _ _ g1]; exact g3 j hj⟩

/-- block mb holds marks: of the places (block gp), of the stacks' values (block gs) -/
structure MkAt (w : World) (mb gp gs : Nat) (c : ByteArray) (M : Int → Int → Bool) : Prop where
  lm : mb < w.heap.size
  lp : gp < w.heap.size
  ls : gs < w.heap.size
  n1 : mb ≠ gp
  n2 : mb ≠ gs
  n3 : gp ≠ gs
  c0 : w.cell? ⟨mb, 0, none⟩ = some (.slice (some ⟨gp, 0, none⟩) ((half c).toNat + 1) ((half c).toNat + 1))
  c1 : w.cell? ⟨mb, 1, none⟩ = some (.slice (some ⟨gs, 0, none⟩) ((half c).toNat + 1) ((half c).toNat + 1))
  p : ∀ j : Nat, j < (half c).toNat + 1 → w.cell? ⟨gp, j, none⟩ = some (.bool (M j (-1)))
  s : ∀ j d : Nat, j < (half c).toNat + 1 → d < 9 → w.cell? ⟨gs, j * 9 + d, none⟩ = some (.bool (M j d))
  fp : ∀ j : Nat, j < (half c).toNat + 1 → w.frozen? ⟨gp, j, none⟩ = false
  fs : ∀ j d : Nat, j < (half c).toNat + 1 → d < 9 → w.frozen? ⟨gs, j * 9 + d, none⟩ = false

theorem MkAt.step {w w1 : World} {mb gp gs : Nat} {c : ByteArray} {M : Int → Int → Bool} (H : MkAt w mb gp gs c M) (hb : Below w.heap.size w w1) : MkAt w1 mb gp gs c M := by
  have e : ∀ b j, b < w.heap.size → w1.cell? ⟨b, j, none⟩ = w.cell? ⟨b, j, none⟩ := fun b j hl => hb.cell (p := ⟨b, j, none⟩) hl
  have ef : ∀ b j, b < w.heap.size → w1.frozen? ⟨b, j, none⟩ = w.frozen? ⟨b, j, none⟩ := fun b j hl => hb.frozen (p := ⟨b, j, none⟩) hl
  exact ⟨Nat.lt_of_lt_of_le H.lm hb.size, Nat.lt_of_lt_of_le H.lp hb.size, Nat.lt_of_lt_of_le H.ls hb.size, H.n1, H.n2, H.n3, by rw [e _ _ H.lm]; exact H.c0, by rw [e _ _ H.lm]; exact H.c1, fun j hj => by rw [e _ _ H.lp]; exact H.p j hj, fun j d hj hd => by rw [e _ _ H.ls]; exact H.s j d hj hd, fun j hj => by rw [ef _ _ H.lp]; exact H.fp j hj, fun j d hj hd => by rw [ef _ _ H.ls]; exact H.fs j d hj hd⟩

theorem beq_dec (x a : Int) : (x == a) = decide (x = a) := by by_cases h : x = a <;> simp [h]

set_option maxHeartbeats 3200000 in
theorem pushed_ref (f gl gh gr mb gp gs : Nat) (n a : Int) (t v c : ByteArray) (lm : Nat → Bool) (h : Nat → Int) (R : Nat → Nat → Bool) (M : Int → Int → Bool) (i : Nat) (w : World) (H : FlAt w f gl gh gr n t v c lm h R) (K : MkAt w mb gp gs c M) (hc : c.size ≤ maxLen) (hv : v.size ≤ maxLen) (hK : half c ≤ 200) (hi : (i : Int) < half c) (h11 : bv c (2 * i) ≤ 11) (hvr : bv c (2 * i) = 1 → bv c (2 * i + 1) < v.size) (hht : 3 ≤ bv c (2 * i) ∧ bv c (2 * i) ≤ 7 → 2 ≤ h i ∧ h i ≤ 8) :
    Calls Tryz.prog 109 #[.pointer (some ⟨f, 0, none⟩), .pointer (some ⟨mb, 0, none⟩), .int .i64 i, .int .i64 a] w fun e w' => e = .returned (.bool (pushB c v h M a i)) ∧ Below w.heap.size w w' := by
  have hh := (half_bd c).1
  have q0 := H.c0
  have q1 := H.c1
  have q2 := H.c2
  have q3 := H.c3
  have q4 := H.c4
  have hpl : Kp (pushB c v h M a i = if bv c (2 * i) = 1 then M i (-1) || decide (bv v (bv c (2 * i + 1)) = a) else if bv c (2 * i) = 10 then M i (-1) || decide (bv c (2 * i + 1) = a) else if 3 ≤ bv c (2 * i) ∧ bv c (2 * i) ≤ 7 then M i (-1) || (M i (h i - 1) || M i (h i - 2)) else M i (-1)) := ⟨rfl⟩
  replace hvr : Kp _ := ⟨hvr⟩
  replace hht : Kp _ := ⟨hht⟩
  have ho := (bv_bd c (2 * i)).1
  have ha := bv_bd c (2 * i + 1)
  go_enter Tryz.func109, Tryz.ntmps109
  go_wp2_with fail
  refine (uop_any n i t v c _ hc (by omega) hi).mono ?_
  rintro e w1 ⟨rfl, hb1⟩
  have hB0 := (Below.refl w.heap.size w).alloc (Nat.le_refl _) (.cells #[.int .i64 n, .string t, .string v, .string c, .int .i64 (half c)] 54)
  have hO1 := (Own.new5 w (.int .i64 n) (.string t) (.string v) (.string c) (.int .i64 (half c)) 54).step hb1
  have hB1 := hB0.trans (hb1.mono hB0.size)
  have H1 := H.step hB1
  have K1 := K.step hB1
  clear q0 q1 q2 q3 q4 H K hb1 hB0
  obtain ⟨op, hop⟩ : ∃ op, bv c (2 * i) = op := ⟨_, rfl⟩
  obtain ⟨arg, harg⟩ : ∃ arg, bv c (2 * i + 1) = arg := ⟨_, rfl⟩
  rw [hop] at hpl hvr hht h11 ho ⊢
  rw [harg] at hpl hvr ha
  replace harg : Kp _ := ⟨harg⟩
  clear hop
  have q0 := hO1.c 0 _ rfl
  have q1 := hO1.c 1 _ rfl
  have q2 := hO1.c 2 _ rfl
  have q3 := hO1.c 3 _ rfl
  have q4 := hO1.c 4 _ rfl
  have k0 := K1.c0
  have k1 := K1.c1
  have kp := K1.p i (by omega)
  have hiN : (i : Int) < ((half c).toNat + 1 : Nat) := by omega
  have hlw := hO1.lt
  obtain ⟨mi, hmi⟩ : ∃ mi, M i (-1) = mi := ⟨_, rfl⟩
  rw [hmi] at kp hpl
  have hcs : op = 1 ∨ op = 10 ∨ (op = 0 ∨ op = 2 ∨ op = 8 ∨ op = 9 ∨ op = 11) ∨ (op = 3 ∨ op = 4 ∨ op = 5 ∨ op = 6 ∨ op = 7) := by omega
  rcases hcs with rfl | rfl | hcs | hcs
  · have hvs := hvr.out rfl
    have hp2 := hpl.out
    rw [if_pos rfl] at hp2
    replace hp2 : Kp _ := ⟨hp2⟩
    have hwr : Kp (IntKind.i64.wrap (bv v arg) = bv v arg) := ⟨by have := bv_bd v arg; rw [IntKind.wrap_i64]; omega⟩
    have hvg : ((v[arg.toNat]'(by omega)).toNat : Int) = bv v arg := bv_get v arg (by omega)
    clear hpl hvr hht
    cases mi
    · go_wp2_with fail
      go_region_with (first
        | (go_at_call 47; refine (uarg_any n i t v c _ hc (by omega) hi).mono ?_; rintro e w5 ⟨rfl, hb5⟩; rw [harg.out]; have r2 : w5.cell? ⟨w.heap.size, 2, none⟩ = some (.string v) := (by rw [hb5.cell (p := ⟨w.heap.size, 2, none⟩) (by simpa using hlw)]; simpa using q2)))
      all_goals
        have hd : Below w1.heap.size w1 w1.drew := (Below.refl _ _).drew
        have b1 := hB1.trans (hd.mono hB1.size)
        have b2 := b1.trans (hb5.mono b1.size)
        clear hd b1 hb5 r2 q0 q1 q2 q3 q4
        go_wp2_with fail
        go_ret
        exact ⟨ret_bool (by rw [hp2.out, hwr.out, beq_dec]; simp), b2⟩
    · go_wp2_with fail
      go_quiet (fail)
      go_wp2_with fail
      go_ret
      exact ⟨ret_bool (by rw [hp2.out]; rfl), below_drewN hB1 _⟩
  · have hp2 := hpl.out
    rw [if_neg (by decide), if_pos rfl] at hp2
    replace hp2 : Kp _ := ⟨hp2⟩
    clear hpl hvr hht
    cases mi
    · go_wp2_with fail
      refine (uarg_any n i t v c _ hc (by omega) hi).mono ?_
      rintro e w5 ⟨rfl, hb5⟩
      rw [harg.out]
      have b2 := hB1.trans (hb5.mono hB1.size)
      go_wp2_with fail
      go_ret
      exact ⟨ret_bool (by rw [hp2.out, beq_dec]; simp), b2⟩
    · go_wp2_with fail
      go_ret
      exact ⟨ret_bool (by rw [hp2.out]; rfl), hB1⟩
  · have hp2 := hpl.out
    rw [if_neg (by omega), if_neg (by omega), if_neg (by omega)] at hp2
    replace hp2 : Kp _ := ⟨hp2⟩
    clear hpl hvr hht
    rcases hcs with rfl | rfl | rfl | rfl | rfl
    all_goals
      go_wp2_with fail
      go_ret
      exact ⟨ret_bool hp2.out.symm, hB1⟩
  · have hp2 := hpl.out
    rw [if_neg (by omega), if_neg (by omega), if_pos (by omega)] at hp2
    replace hp2 : Kp _ := ⟨hp2⟩
    obtain ⟨h2, h8⟩ := hht.out (by omega)
    obtain ⟨d1, hd1⟩ : ∃ d1 : Nat, h i - 1 = d1 := ⟨(h i - 1).toNat, by omega⟩
    obtain ⟨d2, hd2⟩ : ∃ d2 : Nat, h i - 2 = d2 := ⟨(h i - 2).toNat, by omega⟩
    have ks1 := K1.s i d1 (by omega) (by omega)
    have ks2 := K1.s i d2 (by omega) (by omega)
    have f6 := H1.c6
    have fh := H1.h i (by omega)
    rw [hd1, hd2] at hp2
    have hd1' : (d1 : Int) < 9 := by omega
    have hd2' : (d2 : Int) < 9 := by omega
    obtain ⟨b1, hb1⟩ : ∃ b1, M i d1 = b1 := ⟨_, rfl⟩
    obtain ⟨b2, hb2⟩ : ∃ b2, M i d2 = b2 := ⟨_, rfl⟩
    rw [hb1] at ks1 hp2
    rw [hb2] at ks2 hp2
    clear hpl hvr hht
    rcases hcs with rfl | rfl | rfl | rfl | rfl
    all_goals
      cases mi
      · cases b1
        · go_wp2_with fail
          go_quiet (fail)
          go_wp2_with fail
          go_ret
          exact ⟨ret_bool (by rw [hp2.out]; rfl), below_drewN hB1 _⟩
        · go_wp2_with fail
          go_quiet (fail)
          go_wp2_with fail
          go_ret
          exact ⟨ret_bool (by rw [hp2.out]; rfl), below_drewN hB1 _⟩
      · go_wp2_with fail
        go_quiet (fail)
        go_wp2_with fail
        go_ret
        exact ⟨ret_bool (by rw [hp2.out]; rfl), below_drewN hB1 _⟩
end Go.Proofs.YtcnbifdlkalimaaGreat
