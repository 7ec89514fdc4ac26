/-
  The walks of the package check: what a choice hands on to its region, and all that a place hands on; for every file that is scanned and has heights.
-/
import Derived.Test.YtcnmegalanaldaaLab4
namespace Go.Proofs.Ytcnmegalanaldaa
open Go.RowKit
set_option linter.unusedVariables false
set_option maxRecDepth 100000

/-- the regions R are those of the live choices -/
def RegOk (c : ByteArray) (R : Nat → Nat → Bool) : Prop := ∀ z p : Nat, (z : Int) < half c → Live c z → bv c (2 * z) = 9 → p < 201 → (R z p = true ↔ (p : Int) ≤ half c ∧ Reg c z p)

theorem reg_live {c : ByteArray} {z p : Int} (hr : Ranged c) (h0 : 0 ≤ z) (h1 : z < half c) (hl : Live c z) (hR : Reg c z p) : Live c p := by
  obtain ⟨j, _, hp⟩ := hR
  refine hp (fun x => Live c x) (fun x hx _ => hl.step ⟨h0, h1, hx⟩ ?_) (fun x y hx he _ => hx.step he ?_)
  · have := (hr z x ⟨h0, h1, hx⟩).1; omega
  · have := (hr x y he).1; omega

set_option maxHeartbeats 3200000 in
theorem choice_any (b : Nat) (n : Int) (t v c : ByteArray) (hb : Nat) (R : Nat → Nat → Bool) (m : Nat → Bool) (h : Nat → Int) (L : Int → Int → Int) (W : Nat → Bool) (z : Nat) (w : World) (S : LS w b n t v c hb R m h L W) (F : Kp (CodeF c v t n h)) (hReg : Kp (RegOk c R)) (K : Kp (LabOk c v t n h L)) (hz : (z : Int) < half c) (hl : Kp (Live c z)) (h9 : Kp (bv c (2 * z) = 9)) :
    Calls Try.prog 105 #[.pointer (some ⟨b, 0, none⟩), .int .i64 z] w (HandPost b n t v c hb R m h L W (fun L' W' => ∀ p, 0 ≤ p → p < half c → Reg c z p → le t n (zeroLev t n h L z) (L' p (-1)) = true) w) := by
  have hh := (half_bd c).1
  have hK := F.out.hK
  have hc := F.out.hc
  have hT := F.out.lat
  obtain ⟨p1, p2, p3⟩ := F.out.pops hz hl.out
  have htk : takesAt c z = 1 := by unfold takesAt takesF; rw [h9.out]; rfl
  have hr := ranged_of F.out.ok
  obtain ⟨d, hd⟩ : ∃ d : Nat, h z - ((1 : Nat) : Int) = d := ⟨(h z - 1).toNat, by omega⟩
  have hd8 : d < 8 := by omega
  have hlv : Kp (Lv n (L z (-1)) ∧ Lv n (L z (h z - ((1 : Nat) : Int)))) := ⟨K.out.rng _ _, K.out.rng _ _⟩
  obtain ⟨lev, hlev⟩ : ∃ lev, jn t n (L z (-1)) (L z (h z - ((1 : Nat) : Int))) = lev := ⟨_, rfl⟩
  have hzl : Kp (zeroLev t n h L z = lev) := ⟨hlev⟩
  have hm : Kp (∀ p : Nat, (p : Int) < half c → Reg c z p → MayFlow c v t n h p (-1) lev ∧ Live c p) := ⟨fun p hp hR => by
    have := may_zero hT.lat K.out hl.out (by omega) hz h9.out hR (by omega) (by omega)
    rw [hzl.out] at this
    exact ⟨this, reg_live hr (by omega) hz hl.out hR⟩⟩
  have hreg2 : Kp (∀ p : Nat, (p : Int) < half c → (R z p = true ↔ Reg c z p)) := ⟨fun p hp => by
    rw [hReg.out z p hz hl.out h9.out (by omega)]
    exact ⟨fun k => k.2, fun k => ⟨by omega, k⟩⟩⟩
  clear p1 p2 p3 htk hr hReg
  have hd' : Kp _ := ⟨hd⟩
  clear hd
  replace hlev : Kp _ := ⟨hlev⟩
  go_enter Try.func105, Try.ntmps105
  go_wp2_with fail
  refine (popped_any b 1 d n t v c hb R L W m h z _ S.lab S.ht (by omega) hd'.out hd8 (by omega)).mono ?_
  rintro e w1 ⟨rfl, rfl⟩
  go_wp2_with fail
  refine (ofPlace_any b n t v c hb R L W z _ S.lab (by omega)).mono ?_
  rintro e w2 ⟨rfl, rfl⟩
  go_wp2_with fail
  refine (joinL_any b n (L z (-1)) (L z (h z - ((1 : Nat) : Int))) t v c hb R L W _ S.lab hT hlv.out.1 hlv.out.2).mono ?_
  rintro e w3 ⟨rfl, hb3⟩
  rw [hlev.out]
  have S1 := S.step hb3
  have hB1 : But b w2.heap.size w2 w3 := But.of hb3
  have hR0 : Kp (Ris c v t n h L W L W ∧ ∀ p : Nat, p < 0 → Reg c z p → le t n lev (L p (-1)) = true) := ⟨Ris.refl hT.lat K.out, fun p hp => absurd hp (by omega)⟩
  clear S hb3 hlv
  go_wp2_with fail
  go_loopw [6] (fun i wr => ∃ (p : Nat) (L' : Int → Int → Int) (W' : Nat → Bool), i = .int .i64 p ∧ (p : Int) ≤ half c ∧ LS wr b n t v c hb R m h L' W' ∧ But b w2.heap.size w2 wr ∧ Kp (Ris c v t n h L W L' W' ∧ ∀ q : Nat, q < p → Reg c z q → le t n lev (L' q (-1)) = true)) (fun i _ => (half c).toNat - (intOf i).toNat)
  case atStart => exact ⟨0, L, W, rfl, by omega, S1, hB1, hR0⟩
  case round =>
    clear S1 hB1 hR0
    obtain ⟨p, L', W', rfl, hp, S', hB', hR'⟩ := hrel
    have q0 := S'.lab.c0
    have q1 := S'.lab.c1
    have q2 := S'.lab.c2
    have q3 := S'.lab.c3
    go_wp2_with fail
    refine (length_any n t v c _ hc).mono ?_
    rintro e w4 ⟨rfl, hb4⟩
    have S4 := S'.step hb4
    have hB4 := hB'.trans (But.of (hb4.mono hB'.size))
    clear q0 q1 q2 q3 S' hB' hb4
    by_cases hlt : (p : Int) < half c
    · go_wp2_with fail
      refine (inRegion_any b n t v c hb R L' W' p z _ S4.lab (by omega) (by omega)).mono ?_
      rintro e w5 ⟨rfl, rfl⟩
      cases hRp : R z p with
      | false =>
        have hR3 : Kp (Ris c v t n h L W L' W' ∧ ∀ q : Nat, q < p + 1 → Reg c z q → le t n lev (L' q (-1)) = true) := ⟨hR'.out.1, fun q hq hRq => by
          by_cases k : q = p
          · subst k
            rw [(hreg2.out q hlt).2 hRq] at hRp
            exact absurd hRp (by simp)
          · exact hR'.out.2 q (by omega) hRq⟩
        go_wp2_with fail
        go_roundw
        case rel => exact ⟨p + 1, L', W', by go_num, by omega, S4, hB4, hR3⟩
        case measure => simp [intOf]; omega
      | true =>
        have hRg := (hreg2.out p hlt).1 hRp
        obtain ⟨hm1, hl1⟩ := hm.out p hlt hRg
        replace hRp : Kp _ := ⟨hRp⟩
        replace hm1 : Kp _ := ⟨hm1⟩
        have hpK : Kp ((p : Int) ≤ half c ∧ Live c p) := ⟨by omega, hl1⟩
        clear hRg hl1
        go_wp2_with fail
        refine (raiseP_any b n lev t v c hb R h L' W' p _ S4.lab hT ⟨hR'.out.1.ok⟩ hm1 (by omega) hpK).mono ?_
        rintro e w6 ⟨L2, W2, rfl, H2, hB2, hR2⟩
        have S2 := S4.to hB2 H2
        have hB3 := hB4.trans (hB2.mono hB4.size)
        have hR3 : Kp (Ris c v t n h L W L2 W2 ∧ ∀ q : Nat, q < p + 1 → Reg c z q → le t n lev (L2 q (-1)) = true) := ⟨hR'.out.1.trans hT.lat K.out hR2.out.1, fun q hq hRq => by
          by_cases k : q = p
          · subst k; exact hR2.out.2
          · exact hT.lat.trans _ _ _ hm1.out.1 (hR'.out.1.ok.rng _ _) (hR2.out.1.ok.rng _ _) (hR'.out.2 q (by omega) hRq) (hR2.out.1.rise.up _ _)⟩
        clear S4 hB4 hB2 H2 hR2 hR' hm1
        go_wp2_with fail
        go_roundw
        case rel => exact ⟨p + 1, L2, W2, by go_num, by omega, S2, hB3, hR3⟩
        case measure => simp [intOf]; omega
    · have hR3 : Kp (Ris c v t n h L W L' W' ∧ ∀ p, 0 ≤ p → p < half c → Reg c z p → le t n (zeroLev t n h L z) (L' p (-1)) = true) := ⟨hR'.out.1, fun q q0 q1 hRq => by
        have e : ((q.toNat : Nat) : Int) = q := Int.toNat_of_nonneg q0
        have := hR'.out.2 q.toNat (by omega) (by rw [e]; exact hRq)
        rw [e] at this
        rw [hzl.out]
        exact this⟩
      go_wp2_with fail
      first | go_end0 | refine bodyPost_ret (results_none rfl _ _ _) rfl ?_
      exact ⟨L', W', rfl, S4, hB4, hR3⟩

set_option maxHeartbeats 3200000 in
theorem handOn_any (b : Nat) (n : Int) (t v c : ByteArray) (hb : Nat) (R : Nat → Nat → Bool) (m : Nat → Bool) (h : Nat → Int) (L : Int → Int → Int) (W : Nat → Bool) (p : Nat) (w : World) (S : LS w b n t v c hb R m h L W) (F : Kp (CodeF c v t n h)) (hReg : Kp (RegOk c R)) (K : Kp (LabOk c v t n h L)) (hp : (p : Int) < half c) (hl : Kp (Live c p)) :
    Calls Try.prog 98 #[.pointer (some ⟨b, 0, none⟩), .int .i64 p] w (HandPost b n t v c hb R m h L W (fun L' W' => W' p = false → Handed c v t n h L' p) w) := by
  have hK := F.out.hK
  have hc := F.out.hc
  have hT := F.out.lat
  have hr : Kp (Ranged c) := ⟨ranged_of F.out.ok⟩
  have hI : Kp (InsF c v n p) := ⟨F.out.ins (by omega) hp⟩
  have hplv : Kp (∀ L', LabOk c v t n h L' → Lv n (pushLev c v t n h L' p)) := ⟨fun L' k => push_lv hT.lat k.rng (fun k => (hI.out.vr (.inl k)).2) (fun k => hI.out.lv (.inl k))⟩
  obtain ⟨⟨n1, n2⟩, n3, n4⟩ := nx_in hr.out (k := p) (by omega) (by omega)
  obtain ⟨a1, e1⟩ : ∃ a1 : Nat, nx1 c p = a1 := ⟨(nx1 c p).toNat, by omega⟩
  obtain ⟨a2, e2⟩ : ∃ a2 : Nat, nx2 c p = a2 := ⟨(nx2 c p).toNat, by omega⟩
  have m1 : Kp ((a1 : Int) ∈ nxt c p) := ⟨(mem_nxt hp).2 (.inl e1.symm)⟩
  have m2 : Kp ((a2 : Int) ∈ nxt c p) := ⟨(mem_nxt hp).2 (.inr e2.symm)⟩
  have m3 : Kp (∀ x, x ∈ nxt c p → x = a1 ∨ x = a2) := ⟨fun x hx => by have := (mem_nxt hp).1 hx; rwa [e1, e2] at this⟩
  have q0 := S.lab.c0
  have q1 := S.lab.c1
  have q2 := S.lab.c2
  have q3 := S.lab.c3
  go_enter Try.func98, Try.ntmps98
  go_wp2_with fail
  refine (behind_any n p t v c _ hc hK (by omega) (by omega)).mono ?_
  rintro e w1 ⟨rfl, hb1⟩
  have S1 := S.step hb1
  have hB1 : But b w.heap.size w w1 := But.of hb1
  rw [e1, e2]
  clear q0 q1 q2 q3 S hb1 e1 e2 n1 n2 n3 n4
  go_wp2_with fail
  refine (stack_any b n t v c hb R m h L W p a1 _ S1 F K hp hl m1).mono ?_
  rintro e w2 ⟨L1, W1, rfl, S2, hb2, hR1⟩
  have hB2 := hB1.trans (hb2.mono hB1.size)
  clear S1 hB1 hb2
  go_wp2_with fail
  refine (stack_any b n t v c hb R m h L1 W1 p a2 _ S2 F ⟨hR1.out.1.ok⟩ hp hl m2).mono ?_
  rintro e w3 ⟨L2, W2, rfl, S3, hb3, hR2⟩
  have hB3 := hB2.trans (hb3.mono hB2.size)
  have hR12 : Kp (Ris c v t n h L W L2 W2 ∧ (W2 p = false → ∀ j, j ∈ nxt c p → HandTo c v t n h L2 p j)) := ⟨hR1.out.1.trans hT.lat K.out hR2.out.1, fun hw j hj => by
    have hs := hR2.out.1.rise.same p hw
    rcases m3.out j hj with e | e
    · subst e; exact (hR1.out.2 hs.1).rise hT.lat hR1.out.1.ok.rng hR2.out.1.ok.rng (hplv.out L1 hR1.out.1.ok) hR2.out.1.rise hw
    · subst e; exact hR2.out.2 hw⟩
  clear S2 hB2 hb3 hR1 hR2
  have q0 := S3.lab.c0
  have q1 := S3.lab.c1
  have q2 := S3.lab.c2
  have q3 := S3.lab.c3
  go_wp2_with fail
  refine (instr_any n p t v c _ hc (by omega) hp).mono ?_
  rintro e w4 ⟨rfl, hb4⟩
  have S4 := S3.step hb4
  have hB4 := hB3.trans (But.of (hb4.mono hB3.size))
  clear q0 q1 q2 q3 S3 hB3 hb4
  by_cases h9 : bv c (2 * p) = 9
  · rw [h9]
    go_wp2_with fail
    refine (choice_any b n t v c hb R m h L2 W2 p _ S4 F hReg ⟨hR12.out.1.ok⟩ hp hl ⟨h9⟩).mono ?_
    rintro e w5 ⟨L3, W3, rfl, S5, hb5, hR3⟩
    have hB5 := hB4.trans (hb5.mono hB4.size)
    have hR : Kp (Ris c v t n h L W L3 W3 ∧ (W3 p = false → Handed c v t n h L3 p)) := ⟨hR12.out.1.trans hT.lat K.out hR3.out.1, fun hw => by
      have hs := hR3.out.1.rise.same p hw
      refine ⟨fun j hj => (hR12.out.2 hs.1 j hj).rise hT.lat hR12.out.1.ok.rng hR3.out.1.ok.rng (hplv.out L2 hR12.out.1.ok) hR3.out.1.rise hw, fun _ q q0 q1 hRq => ?_⟩
      rw [zero_same hs.2]
      exact hR3.out.2 q q0 q1 hRq⟩
    clear S4 hB4 hb5 hR12 hR3
    go_wp2_with fail
    first | go_end0 | refine bodyPost_ret (results_none rfl _ _ _) rfl ?_
    exact ⟨L3, W3, rfl, S5, hB5, hR⟩
  · have h9' : (bv c (2 * p) == 9) = false := beq_eq_false_iff_ne.2 h9
    have hR : Kp (Ris c v t n h L W L2 W2 ∧ (W2 p = false → Handed c v t n h L2 p)) := ⟨hR12.out.1, fun hw => ⟨hR12.out.2 hw, fun k => absurd k h9⟩⟩
    clear hR12
    go_wp2_with fail
    first | go_end0 | refine bodyPost_ret (results_none rfl _ _ _) rfl ?_
    exact ⟨L2, W2, rfl, S4, hB4, hR⟩
end Go.Proofs.Ytcnmegalanaldaa
