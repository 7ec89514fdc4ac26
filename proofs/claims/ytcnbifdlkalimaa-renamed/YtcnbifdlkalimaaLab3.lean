/-
  The walks of the package check: what an instruction pushes; for every file that is scanned and has heights.
-/
import Derived.Test.YtcnbifdlkalimaaLab2
namespace Go.Proofs.Ytcnbifdlkalimaa
open Go.RowKit
set_option linter.unusedVariables false
set_option maxRecDepth 100000

/-- what is known of a file that is scanned and has heights -/
structure CodeF (c v t : ByteArray) (n : Int) (h : Nat → Int) : Prop where
  hc : c.size ≤ maxLen
  hv : v.size ≤ maxLen
  hK : half c ≤ 200
  ok : codeOk c v n = true
  vars : ∀ k : Int, 0 ≤ k → k < v.size → Lv n (bv v k)
  ht : HeightsOk c h
  lat : LatT t n

structure InsF (c v : ByteArray) (n i : Int) : Prop where
  hi : bv c (2 * i) ≤ 11
  vr : bv c (2 * i) = 1 ∨ bv c (2 * i) = 2 → bv c (2 * i + 1) < v.size ∧ Lv n (bv v (bv c (2 * i + 1)))
  lv : bv c (2 * i) = 10 ∨ bv c (2 * i) = 11 → Lv n (bv c (2 * i + 1))

theorem CodeF.ins {c v t : ByteArray} {n : Int} {h : Nat → Int} (F : CodeF c v t n h) {i : Int} (h0 : 0 ≤ i) (h1 : i < half c) : InsF c v n i := by
  have hok := of_decide_eq_true (ops_of F.ok h0 h1)
  have hb := bv_bd c (2 * i + 1)
  refine ⟨by omega, fun k => ?_, fun k => ⟨hb.1, by omega⟩⟩
  have : bv c (2 * i + 1) < v.size := by omega
  exact ⟨this, F.vars _ hb.1 this⟩

theorem CodeF.pops {c v t : ByteArray} {n : Int} {h : Nat → Int} (F : CodeF c v t n h) {i : Nat} (h1 : (i : Int) < half c) (hl : Live c i) : takesAt c i ≤ h i ∧ 0 ≤ h i ∧ h i ≤ 8 :=
  ⟨F.ht.pops i h1 hl, F.ht.rng i (by omega) hl⟩

set_option maxHeartbeats 3200000 in
theorem pushed_any (b : Nat) (n : Int) (t v c : ByteArray) (hb : Nat) (R : Nat → Nat → Bool) (L : Int → Int → Int) (W : Nat → Bool) (m : Nat → Bool) (h : Nat → Int) (p : Nat) (w : World) (H : LabAt w b n t v c hb R L W) (hH : HtAt w hb m h) (F : Kp (CodeF c v t n h)) (hr : Kp (∀ p d, Lv n (L p d))) (hp : (p : Int) < half c) (hl : Kp (Live c p)) :
    Calls Try.prog 192 #[.pointer (some ⟨b, 0, none⟩), .int .i64 p] w fun e w' => e = .returned (.int .i64 (pushLev c v t n h L p)) ∧ Below w.heap.size w w' := by
  have hK := F.out.hK
  have hc := F.out.hc
  have hv := F.out.hv
  have hI := F.out.ins (i := p) (by omega) hp
  have hP := F.out.pops hp hl.out
  have hT := F.out.lat
  have ho := bv_bd c (2 * p)
  have q0 := H.c0
  have q1 := H.c1
  have q2 := H.c2
  have q3 := H.c3
  have hpush : Kp (pushLev c v t n h L p = if bv c (2 * p) = 1 then jn t n (L p (-1)) (bv v (bv c (2 * p + 1))) else if bv c (2 * p) = 10 then jn t n (L p (-1)) (bv c (2 * p + 1)) else if 3 ≤ bv c (2 * p) ∧ bv c (2 * p) ≤ 7 then jn t n (jn t n (L p (-1)) (L p (h p - 1))) (L p (h p - 2)) else L p (-1)) := ⟨rfl⟩
  have htk : Kp (3 ≤ bv c (2 * p) ∧ bv c (2 * p) ≤ 7 → 2 ≤ h p) := ⟨fun k => by
    have : takesAt c p = 2 := by unfold takesAt takesF; rw [if_neg (by omega), if_neg (by omega)]
    omega⟩
  have i1 := hI.hi
  have i2 : Kp _ := ⟨hI.vr⟩
  have i3 : Kp _ := ⟨hI.lv⟩
  have ha0 := (bv_bd c (2 * p + 1)).1
  clear hI F hl
  go_enter Try.func192, Try.ntmps192
  go_wp2_with fail
  refine (instr_any n p t v c _ hc (by omega) hp).mono ?_
  rintro e w1 ⟨rfl, hb1⟩
  have H1 := H.step hb1
  have hH1 := hH.step hb1
  clear q0 q1 q2 q3 H hH
  go_wp2_with fail
  refine (ofPlace_any b n t v c hb R L W p _ H1 (by omega)).mono ?_
  rintro e w2 ⟨rfl, rfl⟩
  obtain ⟨op, hop⟩ : ∃ op, bv c (2 * p) = op := ⟨_, rfl⟩
  obtain ⟨arg, harg⟩ : ∃ arg, bv c (2 * p + 1) = arg := ⟨_, rfl⟩
  rw [hop] at hpush htk i1 i2 i3 ho ⊢
  rw [harg] at hpush i2 i3 ha0 ⊢
  clear hop harg
  have q0 := H1.c0
  have q1 := H1.c1
  have q2 := H1.c2
  have q3 := H1.c3
  obtain ⟨o0, _⟩ := ho
  have hcs : op = 1 ∨ op = 10 ∨ (op = 0 ∨ op = 2 ∨ op = 8 ∨ op = 9 ∨ op = 11) ∨ (op = 3 ∨ op = 4 ∨ op = 5 ∨ op = 6 ∨ op = 7) := by omega
  rcases hcs with rfl | rfl | hcs | hcs
  · obtain ⟨a1, a2⟩ := i2.out (.inl rfl)
    have hpl := hpush.out
    rw [if_pos rfl] at hpl
    replace hpl : Kp _ := ⟨hpl⟩
    clear htk hpush i2 i3
    go_wp2_with fail
    refine (level_any n arg t v c _ hv ha0 a1).mono ?_
    rintro e w3 ⟨rfl, hb3⟩
    have H3 := H1.step hb3
    have hbb := hb1.trans (hb3.mono hb1.size)
    clear q0 q1 q2 q3 H1 hH1 hb3
    go_wp2_with fail
    refine (joinL_any b n (L p (-1)) (bv v arg) t v c hb R L W _ H3 hT (hr.out _ _) a2).mono ?_
    rintro e w4 ⟨rfl, hb4⟩
    go_wp2_with fail
    go_ret
    exact ⟨ret_int hpl.out.symm, hbb.trans (hb4.mono hbb.size)⟩
  · have a2 := i3.out (.inl rfl)
    have hpl := hpush.out
    rw [if_neg (by decide), if_pos rfl] at hpl
    replace hpl : Kp _ := ⟨hpl⟩
    clear htk hpush i2 i3
    go_wp2_with fail
    refine (joinL_any b n (L p (-1)) arg t v c hb R L W _ H1 hT (hr.out _ _) a2).mono ?_
    rintro e w4 ⟨rfl, hb4⟩
    go_wp2_with fail
    go_ret
    exact ⟨ret_int hpl.out.symm, hb1.trans (hb4.mono hb1.size)⟩
  · have hpl := hpush.out
    rw [if_neg (by omega), if_neg (by omega), if_neg (by omega)] at hpl
    replace hpl : Kp _ := ⟨hpl⟩
    clear htk hpush i2 i3
    rcases hcs with rfl | rfl | rfl | rfl | rfl
    all_goals
      go_wp2_with fail
      go_ret
      exact ⟨ret_int hpl.out.symm, hb1⟩
  · have hpl := hpush.out
    rw [if_neg (by omega), if_neg (by omega), if_pos (by omega)] at hpl
    replace hpl : Kp _ := ⟨hpl⟩
    have h2 := htk.out (by omega)
    obtain ⟨_, h0, h8⟩ := hP
    obtain ⟨d1, hd1⟩ : ∃ d1 : Nat, h p - ((1 : Nat) : Int) = d1 := ⟨(h p - 1).toNat, by omega⟩
    obtain ⟨d2, hd2⟩ : ∃ d2 : Nat, h p - ((2 : Nat) : Int) = d2 := ⟨(h p - 2).toNat, by omega⟩
    have hd1' : d1 < 8 := by omega
    have hd2' : d2 < 8 := by omega
    clear htk hpush i2 i3
    rcases hcs with rfl | rfl | rfl | rfl | rfl
    all_goals
      go_wp2_with fail
      refine (popped_any b 1 d1 n t v c hb R L W m h p _ H1 hH1 (by omega) hd1 hd1' (by omega)).mono ?_
      rintro e w3 ⟨rfl, rfl⟩
      go_wp2_with fail
      refine (joinL_any b n (L p (-1)) (L p (h p - ((1 : Nat) : Int))) t v c hb R L W _ H1 hT (hr.out _ _) (hr.out _ _)).mono ?_
      rintro e w4 ⟨rfl, hb4⟩
      have H4 := H1.step hb4
      have hH4 := hH1.step hb4
      have hbb := hb1.trans (hb4.mono hb1.size)
      go_wp2_with fail
      refine (popped_any b 2 d2 n t v c hb R L W m h p _ H4 hH4 (by omega) hd2 hd2' (by omega)).mono ?_
      rintro e w5 ⟨rfl, rfl⟩
      go_wp2_with fail
      refine (joinL_any b n (jn t n (L p (-1)) (L p (h p - ((1 : Nat) : Int)))) (L p (h p - ((2 : Nat) : Int))) t v c hb R L W _ H4 hT (hT.lat.jin _ _ (hr.out _ _) (hr.out _ _)) (hr.out _ _)).mono ?_
      rintro e w6 ⟨rfl, hb6⟩
      go_wp2_with fail
      go_ret
      exact ⟨ret_int hpl.out.symm, hbb.trans (hb6.mono hbb.size)⟩
end Go.Proofs.Ytcnbifdlkalimaa
