/-
  The walks of the package translation, second part: digits, numbers, what stands ahead; for every text of at most 300 bytes, wherever it stands.
-/
import Derived.Test.YtcnbifdlkalimabGreatTrn1
namespace Go.Proofs.YtcnbifdlkalimabGreat
open Go.RowKit
set_option linter.unusedVariables false
set_option maxRecDepth 100000

theorem isDigit_any (x : Int) (w : World) : Calls Tryz.prog 236 #[.int .u8 x] w fun e w' => e = .returned (.bool (decide (48 ≤ x ∧ x ≤ 57))) ∧ w' = w := by
  by_cases h1 : 48 ≤ x
  · by_cases h2 : x ≤ 57
    · rw [show decide (48 ≤ x ∧ x ≤ 57) = true from decide_eq_true ⟨h1, h2⟩]
      go_enter Tryz.func236, Tryz.ntmps236
      go_wp2
      go_ret
      exact ⟨rfl, rfl⟩
    · rw [show decide (48 ≤ x ∧ x ≤ 57) = false from decide_eq_false (fun k => h2 k.2)]
      go_enter Tryz.func236, Tryz.ntmps236
      go_wp2
      go_ret
      exact ⟨rfl, rfl⟩
  · rw [show decide (48 ≤ x ∧ x ≤ 57) = false from decide_eq_false (fun k => h1 k.1)]
    go_enter Tryz.func236, Tryz.ntmps236
    go_wp2
    go_ret
    exact ⟨rfl, rfl⟩

theorem isLetter_any (x : Int) (w : World) : Calls Tryz.prog 161 #[.int .u8 x] w fun e w' => e = .returned (.bool (isL x)) ∧ w' = w := by
  unfold isL
  by_cases h1 : 97 ≤ x
  · by_cases h2 : x ≤ 104
    · rw [show decide (97 ≤ x ∧ x ≤ 104) = true from decide_eq_true ⟨h1, h2⟩]
      go_enter Tryz.func161, Tryz.ntmps161
      go_wp2
      go_ret
      exact ⟨rfl, rfl⟩
    · rw [show decide (97 ≤ x ∧ x ≤ 104) = false from decide_eq_false (fun k => h2 k.2)]
      go_enter Tryz.func161, Tryz.ntmps161
      go_wp2
      go_ret
      exact ⟨rfl, rfl⟩
  · rw [show decide (97 ≤ x ∧ x ≤ 104) = false from decide_eq_false (fun k => h1 k.1)]
    go_enter Tryz.func161, Tryz.ntmps161
    go_wp2
    go_ret
    exact ⟨rfl, rfl⟩

set_option maxHeartbeats 400000 in
theorem isBefore_any (b : Nat) (s : ByteArray) (r : Rd) (c : Int) (w : World) (H : RdAt w b s r) (O : RdOk s r) :
    Calls Tryz.prog 89 #[.pointer (some ⟨b, 0, none⟩), .int .u8 c] w fun e w' => e = .returned (.bool (decide (r.er = 0 ∧ tok s r ≠ c))) ∧ RdTo w w' b (adv s r) := by
  have hP := peekR_any b s r w H O
  have he : (adv s r).er = r.er := adv_er s r
  replace hP : Kp _ := ⟨hP⟩
  replace he : Kp _ := ⟨he⟩
  obtain ⟨er, her⟩ : ∃ er, r.er = er := ⟨_, rfl⟩
  obtain ⟨x, hx⟩ : ∃ x, tok s r = x := ⟨_, rfl⟩
  rw [her] at he
  rw [her, hx]
  rw [hx] at hP
  clear H O her hx
  by_cases h0 : er = 0
  · subst h0
    by_cases h1 : x = c
    · subst h1
      rw [show decide ((0 : Int) = 0 ∧ x ≠ x) = false from decide_eq_false (fun k => k.2 rfl)]
      go_enter Tryz.func89, Tryz.ntmps89
      go_wp2_with fail
      refine hP.out.mono ?_
      rintro e w1 ⟨rfl, T1⟩
      have c2 := T1.c2
      rw [he.out] at c2
      replace T1 : Kp _ := ⟨T1⟩
      go_wp2_with fail
      go_ret
      exact ⟨rfl, T1.out⟩
    · rw [show decide ((0 : Int) = 0 ∧ x ≠ c) = true from decide_eq_true ⟨rfl, h1⟩]
      have hk : (x != c) = true := bne_iff_ne.2 h1
      clear h1
      go_enter Tryz.func89, Tryz.ntmps89
      go_wp2_with fail
      refine hP.out.mono ?_
      rintro e w1 ⟨rfl, T1⟩
      have c2 := T1.c2
      rw [he.out] at c2
      replace T1 : Kp _ := ⟨T1⟩
      go_wp2_with fail
      go_ret
      exact ⟨rfl, T1.out⟩
  · rw [show decide (er = 0 ∧ x ≠ c) = false from decide_eq_false (fun k => h0 k.1)]
    have hk : (er == 0) = false := beq_eq_false_iff_ne.2 h0
    clear h0
    go_enter Tryz.func89, Tryz.ntmps89
    go_wp2_with fail
    refine hP.out.mono ?_
    rintro e w1 ⟨rfl, T1⟩
    have c2 := T1.c2
    rw [he.out] at c2
    replace T1 : Kp _ := ⟨T1⟩
    go_wp2_with fail
    go_ret
    exact ⟨rfl, T1.out⟩

set_option maxHeartbeats 800000 in
theorem isBeforeEnd_any (b : Nat) (s : ByteArray) (r : Rd) (w : World) (H : RdAt w b s r) (O : RdOk s r) :
    Calls Tryz.prog 94 #[.pointer (some ⟨b, 0, none⟩)] w fun e w' => e = .returned (.bool (decide (r.er = 0 ∧ (adv s r).a < s.size))) ∧ RdTo w w' b (adv s r) := by
  have hP := peekR_any b s r w H O
  have hA := fun (w1 : World) (T : RdTo w w1 b (adv s r)) => H.to T
  have he : (adv s r).er = r.er := adv_er s r
  have sz := O.sz
  have le := O.adv.le
  replace hP : Kp _ := ⟨hP⟩
  replace hA : Kp _ := ⟨hA⟩
  obtain ⟨er, her⟩ : ∃ er, r.er = er := ⟨_, rfl⟩
  rw [her] at he ⊢
  generalize adv s r = r1 at *
  obtain ⟨a, er1⟩ := r1
  have he : er1 = er := he
  have le : a ≤ s.size := le
  subst he
  generalize tok s r = x at *
  clear H O her
  show Calls _ _ _ _ fun e w' => e = .returned (.bool (decide (er1 = 0 ∧ a < s.size))) ∧ _
  by_cases h0 : er1 = 0
  · subst h0
    by_cases h1 : a < s.size
    · rw [show decide ((0 : Int) = 0 ∧ a < s.size) = true from decide_eq_true ⟨rfl, h1⟩]
      have d1 : decide ((a : Int) < (s.size : Int)) = true := decide_eq_true (by omega)
      go_enter Tryz.func94, Tryz.ntmps94
      go_wp2_with fail
      refine hP.out.mono ?_
      rintro e w1 ⟨rfl, T1⟩
      have A1 := hA.out w1 T1
      have c0 := A1.c0
      have c1 : w1.cell? ⟨b, 1, none⟩ = some (.int .i64 a) := A1.c1
      have c2 : w1.cell? ⟨b, 2, none⟩ = some (.int .i64 0) := A1.c2
      replace T1 : Kp _ := ⟨T1⟩
      clear A1 hA hP
      go_wp2_with fail
      go_quiet (fail)
      go_wp2
      go_ret
      exact ⟨rfl, T1.out.drewN _⟩
    · rw [show decide ((0 : Int) = 0 ∧ a < s.size) = false from decide_eq_false (fun k => h1 k.2)]
      have d1 : decide ((a : Int) < (s.size : Int)) = false := decide_eq_false (by omega)
      have h2 : s.size ≤ a := by omega
      clear h1 le
      go_enter Tryz.func94, Tryz.ntmps94
      go_wp2_with fail
      refine hP.out.mono ?_
      rintro e w1 ⟨rfl, T1⟩
      have A1 := hA.out w1 T1
      have c0 := A1.c0
      have c1 : w1.cell? ⟨b, 1, none⟩ = some (.int .i64 a) := A1.c1
      have c2 : w1.cell? ⟨b, 2, none⟩ = some (.int .i64 0) := A1.c2
      replace T1 : Kp _ := ⟨T1⟩
      clear A1 hA hP
      go_wp2_with fail
      go_quiet (fail)
      go_wp2
      go_ret
      exact ⟨by show Ending.returned (Value.bool (decide (a < s.size))) = _; rw [decide_eq_false (by omega)], T1.out.drewN _⟩
  · rw [show decide (er1 = 0 ∧ a < s.size) = false from decide_eq_false (fun k => h0 k.1)]
    have hk : (er1 == 0) = false := beq_eq_false_iff_ne.2 h0
    clear h0
    go_enter Tryz.func94, Tryz.ntmps94
    go_wp2_with fail
    refine hP.out.mono ?_
    rintro e w1 ⟨rfl, T1⟩
    have A1 := hA.out w1 T1
    have c2 : w1.cell? ⟨b, 2, none⟩ = some (.int .i64 er1) := A1.c2
    replace T1 : Kp _ := ⟨T1⟩
    clear A1 hA hP
    go_wp2_with fail
    go_quiet (fail)
    go_wp2
    go_ret
    exact ⟨rfl, T1.out.drewN _⟩

set_option maxHeartbeats 400000 in
theorem takeDigit_any (b : Nat) (s : ByteArray) (r : Rd) (lo hi : Int) (w : World) (H : RdAt w b s r) (O : RdOk s r) :
    Calls Tryz.prog 87 #[.pointer (some ⟨b, 0, none⟩), .int .i64 lo, .int .i64 hi] w fun e w' => e = .returned (.int .i64 (dig s r lo hi)) ∧ RdTo w w' b (digR s r lo hi) := by
  have hP := peekR_any b s r w H O
  have hA := fun (w1 : World) (T : RdTo w w1 b (adv s r)) => H.to T
  have O1 := O.adv
  obtain ⟨x0, x9⟩ := tok_bd s r
  cases hd : isD s r lo hi with
  | true =>
    have e1 : dig s r lo hi = tok s r - 48 := by unfold dig; rw [if_pos hd]
    have e2 : digR s r lo hi = nx (adv s r) := by unfold digR tkIf; rw [if_pos hd]
    have h1 := of_decide_eq_true hd
    rw [e1, e2]
    generalize tok s r = x at *
    replace hP : Kp _ := ⟨hP⟩
    replace hA : Kp _ := ⟨hA⟩
    clear hd e1 e2 H O
    obtain ⟨h1, h2⟩ := h1
    go_enter Tryz.func87, Tryz.ntmps87
    go_wp2_with fail
    refine hP.out.mono ?_
    rintro e w1 ⟨rfl, T1⟩
    have hS := skipR_any b s (adv s r) w1 (hA.out w1 T1) O1
    replace hS : Kp _ := ⟨hS⟩
    replace T1 : Kp _ := ⟨T1⟩
    clear hA hP
    go_wp2_with fail
    refine hS.out.mono ?_
    rintro e w2 ⟨rfl, T2⟩
    go_wp2_with fail
    go_ret
    exact ⟨rfl, T1.out.trans T2⟩
  | false =>
    have e1 : dig s r lo hi = 0 := by unfold dig; rw [if_neg (by rw [hd]; simp)]
    have e2 : digR s r lo hi = rfs (adv s r) 11 := by unfold digR tkIf; rw [if_neg (by rw [hd]; simp)]
    have h1 := of_decide_eq_false hd
    rw [e1, e2]
    generalize tok s r = x at *
    replace hP : Kp _ := ⟨hP⟩
    replace hA : Kp _ := ⟨hA⟩
    clear hd e1 e2 H O
    by_cases h2 : x - 48 < lo
    · clear h1
      go_enter Tryz.func87, Tryz.ntmps87
      go_wp2_with fail
      refine hP.out.mono ?_
      rintro e w1 ⟨rfl, T1⟩
      have hS := refuseR_any b s (adv s r) 11 w1 (hA.out w1 T1)
      replace hS : Kp _ := ⟨hS⟩
      replace T1 : Kp _ := ⟨T1⟩
      clear hA hP
      go_wp2_with fail
      refine hS.out.mono ?_
      rintro e w2 ⟨rfl, T2⟩
      go_wp2_with fail
      go_ret
      exact ⟨rfl, T1.out.trans T2⟩
    · have h3 : hi < x - 48 := by omega
      clear h1
      go_enter Tryz.func87, Tryz.ntmps87
      go_wp2_with fail
      refine hP.out.mono ?_
      rintro e w1 ⟨rfl, T1⟩
      have hS := refuseR_any b s (adv s r) 11 w1 (hA.out w1 T1)
      replace hS : Kp _ := ⟨hS⟩
      replace T1 : Kp _ := ⟨T1⟩
      clear hA hP
      go_wp2_with fail
      refine hS.out.mono ?_
      rintro e w2 ⟨rfl, T2⟩
      go_wp2_with fail
      go_ret
      exact ⟨rfl, T1.out.trans T2⟩

set_option maxHeartbeats 800000 in
theorem takeNumber_any (b : Nat) (s : ByteArray) (r : Rd) (w : World) (H : RdAt w b s r) (O : RdOk s r) :
    Calls Tryz.prog 237 #[.pointer (some ⟨b, 0, none⟩)] w fun e w' => e = .returned (.int .i64 (num s r).1) ∧ RdTo w w' b (num s r).2 := by
  have sz := O.sz
  go_enter Tryz.func237, Tryz.ntmps237
  go_wp2_with fail
  refine (hereR_any b s r w H O).mono ?_
  rintro e w1 ⟨rfl, k1, rfl⟩
  have T0 : Kp (RdTo w (w.drewN k1) b r) := ⟨(RdTo.refl H).drewN k1⟩
  have H' : Kp _ := ⟨H⟩
  have hle : Kp (r.a ≤ s.size) := ⟨O.le⟩
  clear H O
  go_wp2_with fail
  go_loopg [3, 4] (rem s r) (fun g vv nv wr => ∃ (r' : Rd) (v : Int), vv = .int .i64 v ∧ nv = .int .u8 (here s r') ∧ 0 ≤ v ∧ v ≤ 255 ∧ Kp (num s r = numF s g r' v) ∧ Kp (r'.a ≤ s.size) ∧ Kp (RdTo w wr b r') ∧ Kp (g = rem s r'))
  case atStart => exact ⟨r, 0, rfl, rfl, by omega, by omega, ⟨rfl⟩, hle, T0, ⟨rfl⟩⟩
  case round =>
    clear T0 hle
    obtain ⟨r', v, rfl, rfl, v0, v9, hn, hle, hT, hg⟩ := hrel
    by_cases hb : 48 ≤ here s r' ∧ here s r' ≤ 57
    · have hA := H'.out.to hT.out
      have hp : here s r' ≠ 0 := by omega
      have O2 : RdOk s r' := ⟨sz, hle.out⟩
      have O3 := O2.nx hp
      have hlt : Kp (rem s (nx r') < rem s r') := ⟨rem_nx_lt hp⟩
      have hD := fun w2 => isDigit_any (here s r') w2
      rw [decide_eq_true hb] at hD
      obtain ⟨b1, b2⟩ := hb
      by_cases h2 : 255 < 10 * v + here s r' - 48
      · have hS := fun w2 (T : RdTo wr w2 b r') => refuseR_any b s r' 11 w2 (hA.to T)
        have e2 : Kp (num s r = (0, rfs r' 11)) := ⟨by
          rw [hn.out]
          have := hg.out
          obtain ⟨g, rfl⟩ : ∃ g', gk = g' + 1 := ⟨gk - 1, by have := hlt.out; omega⟩
          simp only [numF]
          rw [if_pos ⟨b1, b2⟩, if_pos h2]⟩
        have T0 := RdTo.refl hA
        replace hS : Kp _ := ⟨hS wr T0⟩
        replace hD : Kp _ := ⟨hD⟩
        clear hn hA O2 O3 hp T0
        generalize here s r' = x at *
        go_wp2_with fail
        refine (hD.out _).mono ?_
        rintro e w2 ⟨rfl, hw⟩
        subst hw
        go_wp2_with fail
        refine hS.out.mono ?_
        rintro e w2 ⟨rfl, T2⟩
        go_wp2_with fail
        go_ret
        exact ⟨by rw [e2.out]; rfl, by rw [e2.out]; exact hT.out.trans T2⟩
      · have hS := skipR_any b s r' wr hA O2
        have hH := fun w2 (T : RdTo wr w2 b (nx r')) => hereR_any b s (nx r') w2 (hA.to T) O3
        have e2 : Kp (num s r = numF s (rem s (nx r')) (nx r') (10 * v + here s r' - 48)) := ⟨by
          rw [hn.out]
          have h1 := hg.out
          have e0 : rem s r' = rem s (nx r') + 1 := by
            have hq := here_pos hp
            unfold rem
            rw [nx_er, if_pos hq.1, if_pos hq.1]
            unfold nx
            rw [if_pos hq.1]
            show s.size - r'.a = s.size - (r'.a + 1) + 1
            omega
          rw [h1, e0]
          simp only [numF]
          rw [if_pos ⟨b1, b2⟩, if_neg h2]⟩
        have O4 := O3.le
        replace hS : Kp _ := ⟨hS⟩
        replace hH : Kp _ := ⟨hH⟩
        replace hD : Kp _ := ⟨hD⟩
        replace O4 : Kp _ := ⟨O4⟩
        clear hn hA O2 O3 hp
        generalize here s r' = x at *
        go_wp2_with fail
        refine (hD.out _).mono ?_
        rintro e w2 ⟨rfl, hw⟩
        subst hw
        go_wp2_with fail
        refine hS.out.mono ?_
        rintro e w2 ⟨rfl, T2⟩
        replace T2 : Kp _ := ⟨T2⟩
        go_wp2_with fail
        refine (hH.out w2 T2.out).mono ?_
        rintro e w3 ⟨rfl, k3, rfl⟩
        go_wp2_with fail
        go_roundg (rem s (nx r'))
        case measure => have h1 := hg.out; have h2 := hlt.out; omega
        case rel => exact ⟨nx r', 10 * v + x - 48, by go_num, rfl, by omega, by omega, e2, O4, ⟨(hT.out.trans T2.out).drewN k3⟩, ⟨rfl⟩⟩
    · have hD := fun w2 => isDigit_any (here s r') w2
      rw [decide_eq_false hb] at hD
      have e2 : Kp (num s r = (v, r')) := ⟨by
        rw [hn.out]
        cases gk with
        | zero => rfl
        | succ g => simp only [numF]; rw [if_neg hb]⟩
      replace hD : Kp _ := ⟨hD⟩
      clear hb hn
      generalize here s r' = x at *
      go_wp2_with fail
      refine (hD.out _).mono ?_
      rintro e w2 ⟨rfl, hw⟩
      subst hw
      go_wp2_with fail
      go_ret
      exact ⟨by rw [e2.out]; rfl, by rw [e2.out]; exact hT.out⟩
end Go.Proofs.YtcnbifdlkalimabGreat
