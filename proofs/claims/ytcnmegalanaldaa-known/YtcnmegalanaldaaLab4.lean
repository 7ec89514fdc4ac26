/-
  The walks of the package check: what a place hands on to those behind it and to those of its region; for every file that is scanned and has heights.
-/
import Derived.Test.YtcnmegalanaldaaLab3
namespace Go.Proofs.Ytcnmegalanaldaa
open Go.RowKit
set_option linter.unusedVariables false
set_option maxRecDepth 100000

/-- labels in block b, heights in block hb -/
structure LS (w : World) (b : Nat) (n : Int) (t v c : ByteArray) (hb : Nat) (R : Nat → Nat → Bool) (m : Nat → Bool) (h : Nat → Int) (L : Int → Int → Int) (W : Nat → Bool) : Prop where
  lab : LabAt w b n t v c hb R L W
  ht : HtAt w hb m h
  ne : hb ≠ b

theorem LS.step {w w1 : World} {b : Nat} {n : Int} {t v c : ByteArray} {hb : Nat} {R : Nat → Nat → Bool} {m : Nat → Bool} {h : Nat → Int} {L : Int → Int → Int} {W : Nat → Bool} (S : LS w b n t v c hb R m h L W) (hB : Below w.heap.size w w1) : LS w1 b n t v c hb R m h L W := ⟨S.lab.step hB, S.ht.step hB, S.ne⟩

theorem LS.to {w w1 : World} {b : Nat} {n : Int} {t v c : ByteArray} {hb : Nat} {R : Nat → Nat → Bool} {m : Nat → Bool} {h : Nat → Int} {L L' : Int → Int → Int} {W W' : Nat → Bool} (S : LS w b n t v c hb R m h L W) (hB : But b w.heap.size w w1) (H : LabAt w1 b n t v c hb R L' W') : LS w1 b n t v c hb R m h L' W' := ⟨H, S.ht.but hB S.ne, S.ne⟩

/-- what a handing on leaves -/
def HandPost (b : Nat) (n : Int) (t v c : ByteArray) (hb : Nat) (R : Nat → Nat → Bool) (m : Nat → Bool) (h : Nat → Int) (L : Int → Int → Int) (W : Nat → Bool) (Q : (Int → Int → Int) → (Nat → Bool) → Prop) (w : World) (e : Ending) (w' : World) : Prop :=
  ∃ (L' : Int → Int → Int) (W' : Nat → Bool), e = .returned (.tuple #[]) ∧ LS w' b n t v c hb R m h L' W' ∧ But b w.heap.size w w' ∧ Kp (Ris c v t n h L W L' W' ∧ Q L' W')

theorem stack_more {c v t : ByteArray} {n : Int} {h : Nat → Int} {L L1 : Int → Int → Int} {W W1 : Nat → Bool} {p : Nat} {q : Int} {d : Nat} (H : LatOk t n) (K : LabOk c v t n h L) (R : Ris c v t n h L W L1 W1) (hd : W p = false → ∀ e : Nat, e < d → le t n (L p e) (L q e) = true) (hl : le t n (L p d) (L1 q d) = true) : W1 p = false → ∀ e : Nat, e < d + 1 → le t n (L1 p e) (L1 q e) = true := by
  intro hw e he
  have hs := R.rise.same p hw
  rw [hs.2 e]
  by_cases k : e = d
  · subst k; exact hl
  · exact H.trans _ _ _ (K.rng _ _) (K.rng _ _) (R.ok.rng _ _) (hd hs.1 e (by omega)) (R.rise.up _ _)

set_option maxHeartbeats 3200000 in
theorem stack_any (b : Nat) (n : Int) (t v c : ByteArray) (hb : Nat) (R : Nat → Nat → Bool) (m : Nat → Bool) (h : Nat → Int) (L : Int → Int → Int) (W : Nat → Bool) (p q : Nat) (w : World) (S : LS w b n t v c hb R m h L W) (F : Kp (CodeF c v t n h)) (K : Kp (LabOk c v t n h L)) (hp : (p : Int) < half c) (hl : Kp (Live c p)) (hq : Kp ((q : Int) ∈ nxt c p)) :
    Calls Try.prog 104 #[.pointer (some ⟨b, 0, none⟩), .int .i64 p, .int .i64 q] w (HandPost b n t v c hb R m h L W (fun L' W' => W' p = false → HandTo c v t n h L' p q) w) := by
  have hK := F.out.hK
  have hc := F.out.hc
  have hT := F.out.lat
  have hI := (F.out.ins (i := p) (by omega) hp).hi
  obtain ⟨p1, p2, p3⟩ := F.out.pops hp hl.out
  have ho := (bv_bd c (2 * p)).1
  obtain ⟨⟨t0, t2⟩, ⟨g0, g1⟩, _⟩ := delta_bd c p
  have hr := ranged_of F.out.ok
  have he : Edge c p q := ⟨by omega, hp, hq.out⟩
  have hqr := (hr p q he).2
  have hql : Live c q := hl.out.step he (by omega)
  have hqh := F.out.ht.rng q hqr hql
  have hqs := F.out.ht.step p hp hl.out q hq.out
  rw [Int.toNat_natCast] at hqs
  obtain ⟨sy, hsy⟩ : ∃ sy : Nat, h p - takesAt c p = sy := ⟨(h p - takesAt c p).toNat, by omega⟩
  have hs8 : sy ≤ 8 := by omega
  have hs7 : givesAt c p = 1 → sy < 8 := by omega
  have hqK : Kp ((q : Int) ≤ half c ∧ Live c q) := ⟨hqr, hql⟩
  replace he : Kp _ := ⟨he⟩
  have hhp : h p = sy + takesAt c p := by omega
  have q0 := S.lab.c0
  have q1 := S.lab.c1
  have q2 := S.lab.c2
  have q3 := S.lab.c3
  clear hqs hqh hql p1 p2 p3
  obtain ⟨tk, htk⟩ : ∃ tk, takesAt c p = tk := ⟨_, rfl⟩
  obtain ⟨gv, hgv⟩ : ∃ gv, givesAt c p = gv := ⟨_, rfl⟩
  rw [htk] at t0 t2 hhp hsy
  rw [hgv] at g0 g1 hs7
  have hstay : Kp (h p - takesAt c p = sy) := ⟨by rw [htk]; exact hsy⟩
  replace hsy : Kp _ := ⟨hsy⟩
  replace hs7 : Kp _ := ⟨hs7⟩
  replace htk : Kp _ := ⟨htk⟩
  replace hgv : Kp _ := ⟨hgv⟩
  go_enter Try.func104, Try.ntmps104
  go_wp2_with fail
  refine (instr_any n p t v c _ hc (by omega) hp).mono ?_
  rintro e w1 ⟨rfl, hb1⟩
  have S1 := S.step hb1
  have hB1 : But b w.heap.size w w1 := But.of hb1
  clear q0 q1 q2 q3 S hb1
  have qh := S1.lab.hp
  go_wp2_with fail
  refine (of_any hb m h p _ S1.ht (by omega)).mono ?_
  rintro e w2 ⟨rfl, rfl⟩
  rw [hhp]
  go_wp2_with fail
  refine (pops_any (bv c (2 * p)) _ ho hI).mono ?_
  rintro e w3 ⟨rfl, rfl⟩
  rw [show takesF (bv c (2 * p)) = tk from htk.out]
  go_wp2_with fail
  have hR0 : Kp (Ris c v t n h L W L W ∧ (W p = false → ∀ e : Nat, e < 0 → le t n (L p e) (L q e) = true)) := ⟨Ris.refl hT.lat K.out, fun _ e he => absurd he (by omega)⟩
  go_loopw [9] (fun i wr => ∃ (d : Nat) (L' : Int → Int → Int) (W' : Nat → Bool), i = .int .i64 d ∧ d ≤ sy ∧ LS wr b n t v c hb R m h L' W' ∧ But b w.heap.size w wr ∧ Kp (Ris c v t n h L W L' W' ∧ (W' p = false → ∀ e : Nat, e < d → le t n (L' p e) (L' q e) = true))) (fun i _ => sy - (intOf i).toNat)
  case atStart => exact ⟨0, L, W, rfl, by omega, S1, hB1, hR0⟩
  case round =>
    clear S1 hB1 hR0 qh
    obtain ⟨d, L', W', rfl, hd, S', hB', hR'⟩ := hrel
    by_cases hlt : d < sy
    · have hlt2 : (d : Int) < sy := by omega
      go_wp2_with fail
      refine (ofValue_any b n t v c hb R L' W' p d _ S'.lab (by omega) (by omega)).mono ?_
      rintro e w4 ⟨rfl, rfl⟩
      go_wp2_with fail
      have hm : Kp (MayFlow c v t n h q d (L' p d)) := ⟨may_stay hR'.out.1.ok hl.out he.out (by omega) (by rw [Int.toNat_natCast, hstay.out]; exact hlt2)⟩
      refine (raiseV_any b n (L' p d) t v c hb R h L' W' q d _ S'.lab hT ⟨hR'.out.1.ok⟩ hm (by omega) (by omega) hqK).mono ?_
      rintro e w5 ⟨L2, W2, rfl, H2, hB2, hR2⟩
      have S2 := S'.to hB2 H2
      have hB3 := hB'.trans (hB2.mono hB'.size)
      have hR3 : Kp (Ris c v t n h L W L2 W2 ∧ (W2 p = false → ∀ e : Nat, e < d + 1 → le t n (L2 p e) (L2 q e) = true)) := ⟨hR'.out.1.trans hT.lat K.out hR2.out.1, stack_more hT.lat hR'.out.1.ok hR2.out.1 hR'.out.2 hR2.out.2⟩
      clear S' hB' hR' hB2 H2 hR2 hm
      go_wp2_with fail
      go_roundw
      case rel => exact ⟨d + 1, L2, W2, by go_num, by omega, S2, hB3, hR3⟩
      case measure => simp [intOf]; omega
    · have e : d = sy := by omega
      subst e
      clear hlt hd
      go_wp2_with fail
      refine (pushes_any (bv c (2 * p)) _ ho hI).mono ?_
      rintro e w4 ⟨rfl, rfl⟩
      rw [show givesF (bv c (2 * p)) = gv from hgv.out]
      have hto : Kp (W' p = false → ∀ e : Int, 0 ≤ e → e < h p - takesAt c p → le t n (L' p e) (L' q e) = true) := ⟨fun hw e e0 e1 => by
        have := hR'.out.2 hw e.toNat (by rw [hstay.out] at e1; omega)
        rwa [Int.toNat_of_nonneg e0] at this⟩
      have hcs : gv = 0 ∨ gv = 1 := by omega
      rcases hcs with rfl | rfl
      · have hR3 : Kp (Ris c v t n h L W L' W' ∧ (W' p = false → HandTo c v t n h L' p q)) := ⟨hR'.out.1, fun hw => ⟨fun e e0 e1 => hto.out hw e e0 (by rwa [Int.toNat_natCast] at e1), fun hg => by rw [hgv.out] at hg; omega⟩⟩
        clear hto hR'
        go_wp2_with fail
        first | go_end0 | refine bodyPost_ret (results_none rfl _ _ _) rfl ?_
        exact ⟨L', W', rfl, S', hB', hR3⟩
      · have hs := hs7.out rfl
        go_wp2_with fail
        refine (pushed_any b n t v c hb R L' W' m h p _ S'.lab S'.ht F ⟨hR'.out.1.ok.rng⟩ hp hl).mono ?_
        rintro e w5 ⟨rfl, hb5⟩
        have S5 := S'.step hb5
        have hB5 := hB'.trans (But.of (hb5.mono hB'.size))
        have hI2 := F.out.ins (i := p) (by omega) hp
        have hm : Kp (MayFlow c v t n h q (d : Int) (pushLev c v t n h L' p)) := ⟨by
          have := may_push hT.lat hR'.out.1.ok hl.out he.out hgv.out (fun k => (hI2.vr (.inl k)).2) (fun k => hI2.lv (.inl k))
          rwa [Int.toNat_natCast, hstay.out] at this⟩
        clear hI2 S' hB' hb5
        go_wp2_with fail
        refine (raiseV_any b n (pushLev c v t n h L' p) t v c hb R h L' W' q d _ S5.lab hT ⟨hR'.out.1.ok⟩ hm (by omega) (by omega) hqK).mono ?_
        rintro e w6 ⟨L2, W2, rfl, H2, hB2, hR2⟩
        have S2 := S5.to hB2 H2
        have hB3 := hB5.trans (hB2.mono hB5.size)
        have hR3 : Kp (Ris c v t n h L W L2 W2 ∧ (W2 p = false → HandTo c v t n h L2 p q)) := ⟨hR'.out.1.trans hT.lat K.out hR2.out.1, fun hw => by
          have hs := hR2.out.1.rise.same p hw
          refine ⟨fun e e0 e1 => ?_, fun hg => ?_⟩
          · rw [Int.toNat_natCast] at e1
            rw [hs.2 e]
            exact hT.lat.trans _ _ _ (hR'.out.1.ok.rng _ _) (hR'.out.1.ok.rng _ _) (hR2.out.1.ok.rng _ _) (hto.out hs.1 e e0 e1) (hR2.out.1.rise.up _ _)
          · rw [push_same hs.2, Int.toNat_natCast, hstay.out]
            exact hR2.out.2⟩
        clear S5 hB5 hB2 H2 hR2 hm hR' hto
        go_wp2_with fail
        first | go_end0 | refine bodyPost_ret (results_none rfl _ _ _) rfl ?_
        exact ⟨L2, W2, rfl, S2, hB3, hR3⟩
end Go.Proofs.Ytcnmegalanaldaa
