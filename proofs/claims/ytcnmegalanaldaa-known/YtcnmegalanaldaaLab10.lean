/-
  The walks of the package check: the least place that breaks a rule, the least from which no path leads to the end; for every file that is scanned and has heights.
-/
import Derived.Test.YtcnmegalanaldaaLab9
namespace Go.Proofs.Ytcnmegalanaldaa
open Go.RowKit
set_option linter.unusedVariables false
set_option maxRecDepth 100000

set_option maxHeartbeats 3200000 in
theorem leaks_any (b : Nat) (n : Int) (t v c : ByteArray) (hb : Nat) (R : Nat → Nat → Bool) (L : Int → Int → Int) (W : Nat → Bool) (m : Nat → Bool) (h : Nat → Int) (p : Nat) (w : World) (S : LS w b n t v c hb R m h L W) (F : Kp (CodeF c v t n h)) (hr : Kp (∀ p d, Lv n (L p d))) (hp : (p : Int) < half c) (hl : Kp (Live c p)) :
    Calls Try.prog 83 #[.pointer (some ⟨b, 0, none⟩), .int .i64 p] w fun e w' => e = .returned (.bool (leakL c v t n h L p)) ∧ Below w.heap.size w w' := by
  have hK := F.out.hK
  have hc := F.out.hc
  have hv := F.out.hv
  have hI := F.out.ins (i := p) (by omega) hp
  have hP := F.out.pops hp hl.out
  have hT := F.out.lat
  have ho := bv_bd c (2 * p)
  have q0 := S.lab.c0
  have q1 := S.lab.c1
  have q2 := S.lab.c2
  have q3 := S.lab.c3
  have hleak : Kp (leakL c v t n h L p = if bv c (2 * p) = 2 then !(le t n (zeroLev t n h L p) (bv v (bv c (2 * p + 1)))) else if bv c (2 * p) = 11 then !(le t n (zeroLev t n h L p) (bv c (2 * p + 1))) else if bv c (2 * p) = 10 then !(le t n (L p (-1)) (bv c (2 * p + 1))) else false) := ⟨rfl⟩
  have htk : Kp (bv c (2 * p) = 2 ∨ bv c (2 * p) = 11 → 1 ≤ h p) := ⟨fun k => by
    have : takesAt c p = 1 := by unfold takesAt takesF; rw [if_pos (by omega)]
    omega⟩
  have i1 := hI.hi
  have i2 : Kp _ := ⟨hI.vr⟩
  have i3 : Kp _ := ⟨hI.lv⟩
  have ha0 := (bv_bd c (2 * p + 1)).1
  clear hI F hl
  go_enter Try.func83, Try.ntmps83
  go_wp2_with fail
  refine (instr_any n p t v c _ hc (by omega) hp).mono ?_
  rintro e w1 ⟨rfl, hb1⟩
  have S1 := S.step hb1
  clear q0 q1 q2 q3 S
  go_wp2_with fail
  refine (ofPlace_any b n t v c hb R L W p _ S1.lab (by omega)).mono ?_
  rintro e w2 ⟨rfl, rfl⟩
  obtain ⟨op, hop⟩ : ∃ op, bv c (2 * p) = op := ⟨_, rfl⟩
  obtain ⟨arg, harg⟩ : ∃ arg, bv c (2 * p + 1) = arg := ⟨_, rfl⟩
  rw [hop] at hleak htk i1 i2 i3 ho ⊢
  rw [harg] at hleak i2 i3 ha0 ⊢
  clear hop harg
  have q0 := S1.lab.c0
  have q1 := S1.lab.c1
  have q2 := S1.lab.c2
  have q3 := S1.lab.c3
  obtain ⟨o0, _⟩ := ho
  have hcs : op = 2 ∨ op = 11 ∨ op = 10 ∨ (op = 0 ∨ op = 1 ∨ op = 3 ∨ op = 4 ∨ op = 5 ∨ op = 6 ∨ op = 7 ∨ op = 8 ∨ op = 9) := by omega
  rcases hcs with rfl | rfl | rfl | hcs
  · obtain ⟨a1, a2⟩ := i2.out (.inr rfl)
    have hpl := hleak.out
    rw [if_pos rfl] at hpl
    replace hpl : Kp _ := ⟨hpl⟩
    have h1 := htk.out (.inl rfl)
    obtain ⟨_, h0, h8⟩ := hP
    obtain ⟨d1, hd1⟩ : ∃ d1 : Nat, h p - ((1 : Nat) : Int) = d1 := ⟨(h p - 1).toNat, by omega⟩
    have hd1' : d1 < 8 := by omega
    clear htk hleak i2 i3
    go_wp2_with fail
    refine (popped_any b 1 d1 n t v c hb R L W m h p _ S1.lab S1.ht (by omega) hd1 hd1' (by omega)).mono ?_
    rintro e w3 ⟨rfl, rfl⟩
    go_wp2_with fail
    refine (joinL_any b n (L p (-1)) (L p (h p - ((1 : Nat) : Int))) t v c hb R L W _ S1.lab hT (hr.out _ _) (hr.out _ _)).mono ?_
    rintro e w4 ⟨rfl, hb4⟩
    have S4 := S1.step hb4
    have hbb := hb1.trans (hb4.mono hb1.size)
    have hz : Lv n (zeroLev t n h L p) := hT.lat.jin _ _ (hr.out _ _) (hr.out _ _)
    rw [show jn t n (L p (-1)) (L p (h p - ((1 : Nat) : Int))) = zeroLev t n h L p from rfl]
    obtain ⟨z, hzz⟩ : ∃ z, zeroLev t n h L p = z := ⟨_, rfl⟩
    rw [hzz] at hz hpl ⊢
    clear q0 q1 q2 q3 S1 hb1 hb4 hzz
    have q0 := S4.lab.c0
    have q1 := S4.lab.c1
    have q2 := S4.lab.c2
    have q3 := S4.lab.c3
    have hlt4 := S4.lab.lt
    go_wp2_with fail
    go_region_with (first
      | (go_at_call 102; refine (level_any n arg t v c _ hv ha0 a1).mono ?_; rintro e w5 ⟨rfl, hb5⟩; have r0 : w5.cell? ⟨b, 0, none⟩ = some (.int .i64 n) := (by rw [hb5.cell (p := ⟨b, 0, none⟩) (by simpa using hlt4)]; simpa using q0); have r1 : w5.cell? ⟨b, 1, none⟩ = some (.string t) := (by rw [hb5.cell (p := ⟨b, 1, none⟩) (by simpa using hlt4)]; simpa using q1))
      | (go_at_call 64; refine (below_any hT.tab z (bv v arg) _ hz.1 hz.2 a2.1 a2.2).mono ?_; rintro e w6 ⟨rfl, hb6⟩))
    all_goals
      have hd : Below w4.heap.size w4 w4.drew := (Below.refl _ _).drew
      have b1 := hbb.trans (hd.mono hbb.size)
      have b2 := b1.trans (hb5.mono b1.size)
      have b3 := b2.trans (hb6.mono b2.size)
      clear hd b1 b2 hb5 hb6 hbb q0 q1 q2 q3 r0 r1 S4
      go_wp2_with fail
      go_ret
      exact ⟨ret_bool hpl.out.symm, b3⟩
  · have a2 := i3.out (.inr rfl)
    have hpl := hleak.out
    rw [if_neg (by decide), if_pos rfl] at hpl
    replace hpl : Kp _ := ⟨hpl⟩
    have h1 := htk.out (.inr rfl)
    obtain ⟨_, h0, h8⟩ := hP
    obtain ⟨d1, hd1⟩ : ∃ d1 : Nat, h p - ((1 : Nat) : Int) = d1 := ⟨(h p - 1).toNat, by omega⟩
    have hd1' : d1 < 8 := by omega
    clear htk hleak i2 i3
    go_wp2_with fail
    refine (popped_any b 1 d1 n t v c hb R L W m h p _ S1.lab S1.ht (by omega) hd1 hd1' (by omega)).mono ?_
    rintro e w3 ⟨rfl, rfl⟩
    go_wp2_with fail
    refine (joinL_any b n (L p (-1)) (L p (h p - ((1 : Nat) : Int))) t v c hb R L W _ S1.lab hT (hr.out _ _) (hr.out _ _)).mono ?_
    rintro e w4 ⟨rfl, hb4⟩
    have S4 := S1.step hb4
    have hbb := hb1.trans (hb4.mono hb1.size)
    have hz : Lv n (zeroLev t n h L p) := hT.lat.jin _ _ (hr.out _ _) (hr.out _ _)
    rw [show jn t n (L p (-1)) (L p (h p - ((1 : Nat) : Int))) = zeroLev t n h L p from rfl]
    obtain ⟨z, hzz⟩ : ∃ z, zeroLev t n h L p = z := ⟨_, rfl⟩
    rw [hzz] at hz hpl ⊢
    clear q0 q1 q2 q3 S1 hb1 hb4 hzz
    have q0 := S4.lab.c0
    have q1 := S4.lab.c1
    go_wp2_with fail
    refine (below_any hT.tab z arg _ hz.1 hz.2 a2.1 a2.2).mono ?_
    rintro e w6 ⟨rfl, hb6⟩
    go_wp2_with fail
    go_ret
    exact ⟨ret_bool hpl.out.symm, hbb.trans (hb6.mono hbb.size)⟩
  · have a2 := i3.out (.inl rfl)
    have hpl := hleak.out
    rw [if_neg (by decide), if_neg (by decide), if_pos rfl] at hpl
    replace hpl : Kp _ := ⟨hpl⟩
    have hz := hr.out p (-1)
    clear htk hleak i2 i3
    go_wp2_with fail
    refine (below_any hT.tab (L p (-1)) arg _ hz.1 hz.2 a2.1 a2.2).mono ?_
    rintro e w6 ⟨rfl, hb6⟩
    go_wp2_with fail
    go_ret
    exact ⟨ret_bool hpl.out.symm, hb1.trans (hb6.mono hb1.size)⟩
  · have hpl := hleak.out
    rw [if_neg (by omega), if_neg (by omega), if_neg (by omega)] at hpl
    replace hpl : Kp _ := ⟨hpl⟩
    clear htk hleak i2 i3
    rcases hcs with rfl | rfl | rfl | rfl | rfl | rfl | rfl | rfl | rfl
    all_goals
      go_wp2_with fail
      go_ret
      exact ⟨ret_bool hpl.out.symm, hb1⟩

/-- x is the least below K that f tells, if ok; else there is none -/
def FirstR (f : Nat → Bool) (K x : Int) (ok : Bool) : Prop :=
  (ok = true ∧ 0 ≤ x ∧ x < K ∧ f x.toNat = true ∧ ∀ q : Nat, (q : Int) < x → f q = false) ∨ (ok = false ∧ x = 0 ∧ ∀ q : Nat, (q : Int) < K → f q = false)

/-- what a search leaves -/
def FindPost (f : Nat → Bool) (K : Int) (w : World) (e : Ending) (w' : World) : Prop :=
  ∃ (x : Int) (ok : Bool), e = .returned (.tuple #[.int .i64 x, .bool ok]) ∧ Kp (FirstR f K x ok) ∧ Below w.heap.size w w'

theorem first_more {f : Nat → Bool} {p : Nat} (h : ∀ q : Nat, q < p → f q = false) (hp : f p = false) : ∀ q : Nat, q < p + 1 → f q = false := by
  intro q hq
  by_cases e : q = p
  · subst e; exact hp
  · exact h q (by omega)

set_option maxHeartbeats 3200000 in
theorem findLeak_any (b lb : Nat) (n : Int) (t v c : ByteArray) (hb : Nat) (R : Nat → Nat → Bool) (L : Int → Int → Int) (W : Nat → Bool) (m lm : Nat → Bool) (h : Nat → Int) (w : World) (S0 : LS w b n t v c hb R m h L W) (hLm : SetAt w lb 0 lm) (F : Kp (CodeF c v t n h)) (hr : Kp (∀ p d, Lv n (L p d))) (hlive : Kp (∀ j : Nat, lm j = true → Live c j)) :
    Calls Try.prog 58 #[.pointer (some ⟨b, 0, none⟩), .pointer (some ⟨lb, 0, none⟩)] w (FindPost (fun q => lm q && leakL c v t n h L q) (half c) w) := by
  have hh := (half_bd c).1
  have hK := F.out.hK
  have hc := F.out.hc
  go_enter Try.func58, Try.ntmps58
  go_wp2_with fail
  have hB0 := Below.refl w.heap.size w
  go_loopw [6] (fun i wr => ∃ (p : Nat), i = .int .i64 p ∧ (p : Int) ≤ half c ∧ LS wr b n t v c hb R m h L W ∧ SetAt wr lb 0 lm ∧ Below w.heap.size w wr ∧ Kp (∀ q : Nat, q < p → (lm q && leakL c v t n h L q) = false)) (fun i _ => (half c).toNat - (intOf i).toNat)
  case atStart => exact ⟨0, rfl, by omega, S0, hLm, hB0, ⟨fun q hq => absurd hq (by omega)⟩⟩
  case round =>
    clear S0 hLm hB0
    obtain ⟨p, rfl, hp, S, hLm, hB, hN⟩ := hrel
    have q0 := S.lab.c0
    have q1 := S.lab.c1
    have q2 := S.lab.c2
    have q3 := S.lab.c3
    go_wp2_with fail
    refine (length_any n t v c _ hc).mono ?_
    rintro e w4 ⟨rfl, hb4⟩
    have S4 := S.step hb4
    have hL4 := hLm.step hb4
    have hB4 := hB.trans (hb4.mono hB.size)
    clear q0 q1 q2 q3 S hB hb4 hLm
    by_cases hlt : (p : Int) < half c
    · cases hlm : lm p with
      | false =>
        have hN2 : Kp (∀ q : Nat, q < p + 1 → (lm q && leakL c v t n h L q) = false) := ⟨first_more (f := fun q => lm q && leakL c v t n h L q) hN.out (by simp [hlm])⟩
        go_wp2_with fail
        refine (setHas_any lb 0 lm p _ hL4 (by omega)).mono ?_
        rintro e w1 ⟨rfl, rfl⟩
        rw [hlm]
        go_wp2_with fail
        go_roundw
        case rel => exact ⟨p + 1, by go_num, by omega, S4, hL4, hB4, hN2⟩
        case measure => simp [intOf]; omega
      | true =>
        have hlv : Kp (Live c p) := ⟨hlive.out p hlm⟩
        go_wp2_with fail
        refine (setHas_any lb 0 lm p _ hL4 (by omega)).mono ?_
        rintro e w1 ⟨rfl, rfl⟩
        rw [hlm]
        go_wp2_with fail
        refine (leaks_any b n t v c hb R L W m h p _ S4 F hr hlt hlv).mono ?_
        rintro e w5 ⟨rfl, hb5⟩
        have S5 := S4.step hb5
        have hL5 := hL4.step hb5
        have hB5 := hB4.trans (hb5.mono hB4.size)
        clear S4 hL4 hB4 hb5
        cases hk : leakL c v t n h L p with
        | false =>
          have hN2 : Kp (∀ q : Nat, q < p + 1 → (lm q && leakL c v t n h L q) = false) := ⟨first_more (f := fun q => lm q && leakL c v t n h L q) hN.out (by simp [hk])⟩
          replace hk : Kp _ := ⟨hk⟩
          go_wp2_with fail
          go_roundw
          case rel => exact ⟨p + 1, by go_num, by omega, S5, hL5, hB5, hN2⟩
          case measure => simp [intOf]; omega
        | true =>
          have hF : Kp (FirstR (fun q => lm q && leakL c v t n h L q) (half c) p true) := ⟨.inl ⟨rfl, by omega, hlt, by rw [Int.toNat_natCast]; simp [hlm, hk], fun q hq => hN.out q (by omega)⟩⟩
          replace hk : Kp _ := ⟨hk⟩
          go_wp2_with fail
          go_ret2
          exact ⟨p, true, rfl, hF, hB5⟩
    · have hF : Kp (FirstR (fun q => lm q && leakL c v t n h L q) (half c) 0 false) := ⟨.inr ⟨rfl, rfl, fun q hq => hN.out q (by omega)⟩⟩
      go_wp2_with fail
      go_ret2
      exact ⟨0, false, rfl, hF, hB4⟩

set_option maxHeartbeats 3200000 in
theorem findTrap_any (lb wb : Nat) (n k : Int) (t v c : ByteArray) (T A : Int → Int) (lm : Nat → Bool) (w : World) (hc : c.size ≤ maxLen) (hK : half c ≤ 200) (hLm : SetAt w lb 0 lm) (hWy : WaysAt w wb n t v c k T A) :
    Calls Try.prog 53 #[.agg #[.int .i64 n, .string t, .string v, .string c], .pointer (some ⟨lb, 0, none⟩), .pointer (some ⟨wb, 0, none⟩)] w (FindPost (fun q => lm q && !(decide (0 < T q))) (half c) w) := by
  have hh := (half_bd c).1
  have bl := fun o => (Below.refl w.heap.size w).alloc (Nat.le_refl _) o
  have hO0 := Own.new4 w (.int .i64 n) (.string t) (.string v) (.string c) 59
  have hL0 := hLm.step (bl (.cells #[.int .i64 n, .string t, .string v, .string c] 59))
  have hW0 := hWy.step (bl (.cells #[.int .i64 n, .string t, .string v, .string c] 59))
  have hB0 := bl (.cells #[.int .i64 n, .string t, .string v, .string c] 59)
  clear bl hLm hWy
  go_enter Try.func53, Try.ntmps53
  go_wp2_with fail
  go_loopw [8] (fun i wr => ∃ (p : Nat), i = .int .i64 p ∧ (p : Int) ≤ half c ∧ Own wr w.heap.size [.int .i64 n, .string t, .string v, .string c] ∧ SetAt wr lb 0 lm ∧ WaysAt wr wb n t v c k T A ∧ Below w.heap.size w wr ∧ Kp (∀ q : Nat, q < p → (lm q && !(decide (0 < T q))) = false)) (fun i _ => (half c).toNat - (intOf i).toNat)
  case atStart => exact ⟨0, rfl, by omega, hO0, hL0, hW0, hB0, ⟨fun q hq => absurd hq (by omega)⟩⟩
  case round =>
    clear hO0 hL0 hW0 hB0
    obtain ⟨p, rfl, hp, hO, hL, hW, hB, hN⟩ := hrel
    have q0 := hO.c 0 _ rfl
    have q1 := hO.c 1 _ rfl
    have q2 := hO.c 2 _ rfl
    have q3 := hO.c 3 _ rfl
    go_wp2_with fail
    refine (length_any n t v c _ hc).mono ?_
    rintro e w4 ⟨rfl, hb4⟩
    have hO4 := hO.step hb4
    have hL4 := hL.step hb4
    have hW4 := hW.step hb4
    have hB4 := hB.trans (hb4.mono hB.size)
    clear q0 q1 q2 q3 hO hL hW hB hb4
    by_cases hlt : (p : Int) < half c
    · cases hlm : lm p with
      | false =>
        have hN2 : Kp (∀ q : Nat, q < p + 1 → (lm q && !(decide (0 < T q))) = false) := ⟨first_more (f := fun q => lm q && !(decide (0 < T q))) hN.out (by simp [hlm])⟩
        go_wp2_with fail
        refine (setHas_any lb 0 lm p _ hL4 (by omega)).mono ?_
        rintro e w1 ⟨rfl, rfl⟩
        rw [hlm]
        go_wp2_with fail
        go_roundw
        case rel => exact ⟨p + 1, by go_num, by omega, hO4, hL4, hW4, hB4, hN2⟩
        case measure => simp [intOf]; omega
      | true =>
        go_wp2_with fail
        refine (setHas_any lb 0 lm p _ hL4 (by omega)).mono ?_
        rintro e w1 ⟨rfl, rfl⟩
        rw [hlm]
        go_wp2_with fail
        refine (ends_any wb n t v c k T A p _ hW4 (by omega)).mono ?_
        rintro e w5 ⟨rfl, rfl⟩
        cases hk : decide (0 < T p) with
        | true =>
          have hN2 : Kp (∀ q : Nat, q < p + 1 → (lm q && !(decide (0 < T q))) = false) := ⟨first_more (f := fun q => lm q && !(decide (0 < T q))) hN.out (by simp only [hk]; simp)⟩
          replace hk : Kp _ := ⟨hk⟩
          go_wp2_with fail
          go_roundw
          case rel => exact ⟨p + 1, by go_num, by omega, hO4, hL4, hW4, hB4, hN2⟩
          case measure => simp [intOf]; omega
        | false =>
          have hF : Kp (FirstR (fun q => lm q && !(decide (0 < T q))) (half c) p true) := ⟨.inl ⟨rfl, by omega, hlt, by rw [Int.toNat_natCast]; simp only [hlm, hk]; rfl, fun q hq => hN.out q (by omega)⟩⟩
          replace hk : Kp _ := ⟨hk⟩
          go_wp2_with fail
          go_ret2
          exact ⟨p, true, rfl, hF, hB4⟩
    · have hF : Kp (FirstR (fun q => lm q && !(decide (0 < T q))) (half c) 0 false) := ⟨.inr ⟨rfl, rfl, fun q hq => hN.out q (by omega)⟩⟩
      go_wp2_with fail
      go_ret2
      exact ⟨0, false, rfl, hF, hB4⟩
end Go.Proofs.Ytcnmegalanaldaa
