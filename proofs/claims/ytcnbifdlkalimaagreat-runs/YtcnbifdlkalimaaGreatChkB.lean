import Derived.Test.YtcnbifdlkalimaaGreatChk7
import Derived.Test.YtcnbifdlkalimaaGreatLabC
import Derived.Deep.RegionHeld
import Derived.Test.YtcnbifdlkalimaaGreatRef1

/-
  The walks of the document's own answer on what is let through (package sluiceref, P5), eighth part: what flows on from an instruction; for every file that is scanned and has heights.
-/
namespace Go.Proofs.YtcnbifdlkalimaaGreat
open Go.RowKit Go.Deep
set_option linter.unusedVariables false
set_option maxRecDepth 100000

theorem MkAt.setS {w : World} {mb gp gs : Nat} {c : ByteArray} {M : Int → Int → Bool} (K : MkAt w mb gp gs c M) (j d : Nat) (hj : j < (half c).toNat + 1) (hd : d < 9) : MkAt (w.setCell ⟨gs, j * 9 + d, none⟩ (.bool true)) mb gp gs c (updM M j d) := by
  have far : ∀ b k, b ≠ gs → (w.setCell ⟨gs, j * 9 + d, none⟩ (.bool true)).cell? ⟨b, k, none⟩ = w.cell? ⟨b, k, none⟩ := fun b k hb => World.cell?_setCell_other w ⟨gs, j * 9 + d, none⟩ ⟨b, k, none⟩ _ (by intro e; exact hb (congrArg Addr.block e).symm)
  refine ⟨by simpa using K.lm, by simpa using K.lp, by simpa using K.ls, K.n1, K.n2, K.n3, by rw [far _ _ K.n2]; exact K.c0, by rw [far _ _ K.n2]; exact K.c1, fun q hq => by rw [far _ _ K.n3, updM_ne (by omega)]; exact K.p q hq, fun q e hq he => ?_, fun q hq => by rw [World.frozen?_setCell]; exact K.fp q hq, fun q e hq he => by rw [World.frozen?_setCell]; exact K.fs q e hq he⟩
  by_cases k : q = j ∧ e = d
  · obtain ⟨rfl, rfl⟩ := k; rw [updM_at]; exact World.cell?_setCell_same _ _ _ (K.s q e hq he)
  · rw [cell_off _ _ _ _ _ (by omega), updM_ne (by omega)]; exact K.s q e hq he

theorem MkAt.setP {w : World} {mb gp gs : Nat} {c : ByteArray} {M : Int → Int → Bool} (K : MkAt w mb gp gs c M) (j : Nat) (hj : j < (half c).toNat + 1) : MkAt (w.setCell ⟨gp, j, none⟩ (.bool true)) mb gp gs c (updM M j (-1)) := by
  have far : ∀ b k, b ≠ gp → (w.setCell ⟨gp, j, none⟩ (.bool true)).cell? ⟨b, k, none⟩ = w.cell? ⟨b, k, none⟩ := fun b k hb => World.cell?_setCell_other w ⟨gp, j, none⟩ ⟨b, k, none⟩ _ (by intro e; exact hb (congrArg Addr.block e).symm)
  refine ⟨by simpa using K.lm, by simpa using K.lp, by simpa using K.ls, K.n1, K.n2, K.n3, by rw [far _ _ K.n1]; exact K.c0, by rw [far _ _ K.n1]; exact K.c1, fun q hq => ?_, fun q e hq he => by rw [far _ _ (fun k => K.n3 k.symm), updM_ne (by omega)]; exact K.s q e hq he, fun q hq => by rw [World.frozen?_setCell]; exact K.fp q hq, fun q e hq he => by rw [World.frozen?_setCell]; exact K.fs q e hq he⟩
  by_cases k : q = j
  · subst k; rw [updM_at]; exact World.cell?_setCell_same _ _ _ (K.p q hq)
  · rw [cell_off _ _ _ _ _ (by omega), updM_ne (by omega)]; exact K.p q hq

/-- what a step of spreading leaves: only block g is written -/
def SpPost (g : Nat) (w0 : World) (mb gp gs : Nat) (c v : ByteArray) (h : Nat → Int) (a : Int) (M : Int → Int → Bool) (Q : Prop) (w : World) (e : Ending) (w' : World) : Prop :=
  ∃ (more : Bool) (M' : Int → Int → Bool), e = .returned (.bool more) ∧ MkAt w' mb gp gs c M' ∧ But g w.heap.size w w' ∧ Kp (Mor c v h a M M' more ∧ (more = false → Q))

theorem But.base {g : Nat} {w0 w w' : World} (hb : Below w0.heap.size w0 w) (h : But g w.heap.size w w') (hg : w0.heap.size ≤ g) : Below w0.heap.size w0 w' := hb.trans ((h.mono hb.size).below hg)

set_option maxHeartbeats 3200000 in
theorem onward_ref (f gl gh gr mb gp gs : Nat) (n a : Int) (t v c : ByteArray) (lm : Nat → Bool) (h : Nat → Int) (R : Nat → Nat → Bool) (M : Int → Int → Bool) (i j : Nat) (w0 w : World) (H0 : FlAt w0 f gl gh gr n t v c lm h R) (hB0 : Below w0.heap.size w0 w) (K : MkAt w mb gp gs c M) (g2 : w0.heap.size ≤ gs) (F : Kp (CodeF c v t n h)) (snd : Kp (∀ p d, M p d = true → Flow c v h a p d)) (hi : (i : Int) < half c) (hl : Kp (Live c i)) (hj : Kp ((j : Int) ∈ nxt c i)) :
    Calls Tryz.prog 54 #[.pointer (some ⟨f, 0, none⟩), .pointer (some ⟨mb, 0, none⟩), .int .i64 i, .int .i64 j, .int .i64 a] w (SpPost gs w0 mb gp gs c v h a M (OnwC c v h a M i j) w) := by
  have hh := (half_bd c).1
  have hK := F.out.hK
  have hc := F.out.hc
  have hv := F.out.hv
  have hI := F.out.ins (i := i) (by omega) hi
  obtain ⟨p1, p2, p3⟩ := F.out.pops hi hl.out
  obtain ⟨⟨t0, t2⟩, ⟨gg0, gg1⟩, _⟩ := delta_bd c i
  have hr := ranged_of F.out.ok
  have he : Edge c i j := ⟨by omega, hi, hj.out⟩
  have hjr := (hr i j he).2
  have hjl : Live c j := hl.out.step he (by omega)
  have hjh := F.out.ht.rng j hjr hjl
  have hjs := F.out.ht.step i hi hl.out j hj.out
  rw [Int.toNat_natCast] at hjs
  obtain ⟨sy, hsy⟩ : ∃ sy : Nat, h i - takesAt c i = sy := ⟨(h i - takesAt c i).toNat, by omega⟩
  have hs8 : sy ≤ 8 := by omega
  replace he : Kp _ := ⟨he⟩
  have hstay : Kp (h i - takesAt c i = sy) := ⟨hsy⟩
  have hht : 3 ≤ bv c (2 * i) ∧ bv c (2 * i) ≤ 7 → 2 ≤ h i ∧ h i ≤ 8 := fun k => by
    have : takesAt c i = 2 := by unfold takesAt takesF; rw [if_neg (by omega), if_neg (by omega)]
    omega
  have h11 := hI.hi
  have hvr : bv c (2 * i) = 1 → bv c (2 * i + 1) < v.size := fun k => (hI.vr (.inl k)).1
  have hfl : Kp (∀ d : Nat, d < sy → Flow c v h a i d → Flow c v h a j d) := ⟨fun d hd hf => (flow_cl c v h a).stay i j d hl.out he.out (by omega) (by rw [Int.toNat_natCast, hstay.out]; omega) hf⟩
  have hfp : Kp (∀ M' : Int → Int → Bool, (∀ p d, M' p d = true → Flow c v h a p d) → givesAt c i = 1 → pushB c v h M' a i = true → Flow c v h a j sy) := ⟨fun M' hs hg hp => by
    have := (flow_cl c v h a).push i j hl.out he.out hg (push_src (fun d hd => hs i d hd) hp)
    rwa [Int.toNat_natCast, hstay.out] at this⟩
  have H := H0.step hB0
  have q0 := H.c0
  have q1 := H.c1
  have q2 := H.c2
  have q3 := H.c3
  have q4 := H.c4
  have q6 := H.c6
  have qh := H.h i (by omega)
  have hiN : (i : Int) < ((half c).toNat + 1 : Nat) := by omega
  have hjN : (j : Int) < ((half c).toNat + 1 : Nat) := by omega
  replace hvr : Kp _ := ⟨hvr⟩
  replace hht : Kp _ := ⟨hht⟩
  clear hjh hjs hjl hI hr
  obtain ⟨tk, htk⟩ : ∃ tk, takesAt c i = tk := ⟨_, rfl⟩
  rw [htk] at t0 t2 hsy p1
  have hhi : Kp (h i = sy + tk) := ⟨by omega⟩
  replace htk : Kp _ := ⟨htk⟩
  clear hsy
  go_enter Tryz.func54, Tryz.ntmps54
  go_wp2_with fail
  go_region_held (fun w' => w'.cell? ⟨f, 0, none⟩ = some (.int .i64 n) ∧ w'.cell? ⟨f, 1, none⟩ = some (.string t) ∧ w'.cell? ⟨f, 2, none⟩ = some (.string v) ∧ w'.cell? ⟨f, 3, none⟩ = some (.string c) ∧ w'.cell? ⟨f, 4, none⟩ = some (.int .i64 (half c)) ∧ w'.cell? ⟨f, 6, none⟩ = some (.slice (some ⟨gh, 0, none⟩) ((half c).toNat + 1) ((half c).toNat + 1)) ∧ w'.cell? ⟨gh, i, none⟩ = some (.int .i64 (h i))) (go_keep) ((go_at_call 50; refine (takes_ref n i t v c _ hc (by omega) hi h11).mono ?_; rintro e w5 ⟨rfl, hb5⟩; rw [show takesF (bv c (2 * i)) = tk from htk.out]; have hb5' : Below w.heap.size w w5 := (Below.refl _ _).drew.trans hb5; have H5 := H.step hb5'; have a0 := H5.c0; have a1 := H5.c1; have a2 := H5.c2; have a3 := H5.c3; have a4 := H5.c4; have a6 := H5.c6; have ah := H5.h i (by omega)))
  all_goals
    have wA : IntKind.i64.wrap (h i - tk) = sy := by rw [IntKind.wrap_i64]; have := hhi.out; omega
    rw [wA]
    have K5 := K.step hb5'
    have hB5 := hB0.trans (hb5'.mono hB0.size)
    have hU5 : But gs w.heap.size w w5 := But.of hb5'
    have hM0 : Kp (Mor c v h a M M false ∧ ∀ e : Nat, e < 0 → M i e = true → M j e = true) := ⟨Mor.refl c v h a M, fun e he => absurd he (by omega)⟩
    clear wA q0 q1 q2 q3 q4 q6 qh a0 a1 a2 a3 a4 a6 ah H H5 hb5 hb5'
    go_wp2_with fail
    go_loopw [12, 13] (fun mo dv wr => ∃ (mr : Bool) (d : Nat) (M' : Int → Int → Bool), mo = .bool mr ∧ d ≤ sy ∧ dv = .int .i64 d ∧ MkAt wr mb gp gs c M' ∧ But gs w.heap.size w wr ∧ Kp (Mor c v h a M M' mr ∧ (mr = false → ∀ e : Nat, e < d → M i e = true → M j e = true))) (fun _ dv _ => sy - (intOf dv).toNat)
    case atStart => exact ⟨false, 0, M, rfl, by omega, rfl, K5, hU5, ⟨hM0.out.1, fun _ => hM0.out.2⟩⟩
    case round =>
      clear K5 hU5 hM0 hB5
      obtain ⟨mr, d, M', rfl, hd, rfl, K', hU', hM'⟩ := hrel
      have hB' := hU'.base hB0 g2
      by_cases hlt : d < sy
      · have hlt2 : (d : Int) < sy := by omega
        have hd9 : (d : Int) < 9 := by omega
        have k1 := K'.c1
        have si := K'.s i d (by omega) (by omega)
        have sj := K'.s j d (by omega) (by omega)
        have fj := K'.fs j d (by omega) (by omega)
        obtain ⟨x, hx⟩ : ∃ x, M' i d = x := ⟨_, rfl⟩
        obtain ⟨y, hy⟩ : ∃ y, M' j d = y := ⟨_, rfl⟩
        rw [hx] at si
        rw [hy] at sj
        by_cases hset : x = true ∧ y = false
        · obtain ⟨rfl, rfl⟩ := hset
          have hf : Flow c v h a i d := (hM'.out.1.ok i d hx).elim (snd.out i d) id
          have hM2 : Kp (Mor c v h a M (updM M' j d) true) := ⟨hM'.out.1.add (by omega) (by omega) (by omega) hy (hfl.out d hlt hf)⟩
          have K2 := K'.setS j d (by omega) (by omega)
          have hU2 := hU'.setCell (j * 9 + d) (.bool true)
          replace hx : Kp _ := ⟨hx⟩
          replace hy : Kp _ := ⟨hy⟩
          clear hM' K' hU' hf
          go_wp2_with fail
          go_roundw
          case rel => exact ⟨true, d + 1, _, rfl, by omega, by go_num, K2, hU2, ⟨hM2.out, fun h => absurd h (by simp)⟩⟩
          case measure => simp [intOf]; omega
        · have hM2 : Kp (Mor c v h a M M' mr ∧ (mr = false → ∀ e : Nat, e < d + 1 → M i e = true → M j e = true)) := ⟨hM'.out.1, fun hm e he hie => by
            by_cases k : e = d
            · subst k
              rw [← hM'.out.1.no hm] at hie ⊢
              rw [hx] at hie
              rw [hy]
              cases y
              · exact absurd ⟨hie, rfl⟩ hset
              · rfl
            · exact hM'.out.2 hm e (by omega) hie⟩
          replace hx : Kp _ := ⟨hx⟩
          replace hy : Kp _ := ⟨hy⟩
          clear hM'
          cases x
          · go_wp2_with fail
            go_roundw
            case rel => exact ⟨mr, d + 1, M', rfl, by omega, by go_num, K', hU', hM2⟩
            case measure => simp [intOf]; omega
          · have hy1 : y = true := by cases y; exact absurd ⟨rfl, rfl⟩ hset; rfl
            subst hy1
            clear hset
            go_wp2_with fail
            go_roundw
            case rel => exact ⟨mr, d + 1, M', rfl, by omega, by go_num, K', hU', hM2⟩
            case measure => simp [intOf]; omega
      · have e : d = sy := by omega
        subst e
        clear hlt hd
        have H5 := H0.step hB'
        have q0 := H5.c0
        have q1 := H5.c1
        have q2 := H5.c2
        have q3 := H5.c3
        have q4 := H5.c4
        go_wp2_with fail
        refine (gives_ref n i t v c _ hc (by omega) hi h11).mono ?_
        rintro e w6 ⟨rfl, hb6⟩
        have H6 := H5.step hb6
        have K6 := K'.step hb6
        have hU6 := hU'.trans (But.of (hb6.mono hU'.size))
        clear q0 q1 q2 q3 q4 H5 K' hU' hb6
        have hgd : givesF (bv c (2 * i)) = 0 ∨ givesF (bv c (2 * i)) = 1 := by unfold givesF; split <;> omega
        have hst : Kp (mr = false → ∀ d : Int, 0 ≤ d → d < h (i : Int).toNat - takesAt c i → M i d = true → M j d = true) := ⟨fun hm e e0 e1 hie => by
          rw [Int.toNat_natCast, hstay.out] at e1
          have := hM'.out.2 hm e.toNat (by omega)
          rw [Int.toNat_of_nonneg e0] at this
          exact this hie⟩
        rcases hgd with hg | hg
        · rw [hg]
          have hR : Kp (Mor c v h a M M' mr ∧ (mr = false → OnwC c v h a M i j)) := ⟨hM'.out.1, fun hm => ⟨hst.out hm, fun k => by rw [show givesAt c i = givesF (bv c (2 * i)) from rfl, hg] at k; omega⟩⟩
          clear hM' hst
          go_wp2_with fail
          go_ret
          exact ⟨mr, M', rfl, K6, hU6, hR⟩
        · rw [hg]
          have hsnd2 : Kp (∀ p d, M' p d = true → Flow c v h a p d) := ⟨fun p d hd => (hM'.out.1.ok p d hd).elim (snd.out p d) id⟩
          have hd7 : d < 8 := by
            have := F.out.ht.step i hi hl.out j hj.out
            rw [Int.toNat_natCast, show givesAt c i = 1 from hg, hstay.out] at this
            have h2 := F.out.ht.rng j (by omega) (hl.out.step he.out (by omega))
            omega
          go_wp2_with fail
          refine (pushed_ref f gl gh gr mb gp gs n a t v c lm h R M' i _ H6 K6 hc hv hK hi h11 hvr.out hht.out).mono ?_
          rintro e w7 ⟨rfl, hb7⟩
          have K7 := K6.step hb7
          have hU7 := hU6.trans (But.of (hb7.mono hU6.size))
          clear H6 K6 hU6 hb7
          have k1 := K7.c1
          have sj := K7.s j d (by omega) (by omega)
          have fj := K7.fs j d (by omega) (by omega)
          have hd9 : (d : Int) < 9 := by omega
          obtain ⟨x, hx⟩ : ∃ x, pushB c v h M' a i = x := ⟨_, rfl⟩
          obtain ⟨y, hy⟩ : ∃ y, M' j d = y := ⟨_, rfl⟩
          rw [hx]
          rw [hy] at sj
          by_cases hset : x = true ∧ y = false
          · obtain ⟨rfl, rfl⟩ := hset
            have hM2 : Kp (Mor c v h a M (updM M' j d) true) := ⟨hM'.out.1.add (by omega) (by omega) (by omega) hy (hfp.out M' hsnd2.out hg hx)⟩
            have K2 := K7.setS j d (by omega) (by omega)
            have hU2 := hU7.setCell (j * 9 + d) (.bool true)
            replace hx : Kp _ := ⟨hx⟩
            replace hy : Kp _ := ⟨hy⟩
            clear hM' K7 hU7 hst
            go_wp2_with fail
            go_ret
            exact ⟨true, _, rfl, K2, hU2, ⟨hM2.out, fun h => absurd h (by simp)⟩⟩
          · have hR : Kp (Mor c v h a M M' mr ∧ (mr = false → OnwC c v h a M i j)) := ⟨hM'.out.1, fun hm => ⟨hst.out hm, fun _ hp => by
              rw [Int.toNat_natCast, hstay.out, ← hM'.out.1.no hm, hy]
              rw [← hM'.out.1.no hm, hx] at hp
              cases y
              · exact absurd ⟨hp, rfl⟩ hset
              · rfl⟩⟩
            replace hx : Kp _ := ⟨hx⟩
            replace hy : Kp _ := ⟨hy⟩
            clear hM' hst
            cases x
            · go_wp2_with fail
              go_ret
              exact ⟨mr, M', rfl, K7, hU7, hR⟩
            · have hy1 : y = true := by cases y; exact absurd ⟨rfl, rfl⟩ hset; rfl
              subst hy1
              clear hset
              go_wp2_with fail
              go_ret
              exact ⟨mr, M', rfl, K7, hU7, hR⟩
end Go.Proofs.YtcnbifdlkalimaaGreat

/-
  The walks of the document's own answer on what is let through (package sluiceref, P5), ninth part: what a choice hides; for every file that is scanned and has heights.
-/
namespace Go.Proofs.YtcnbifdlkalimaaGreat
open Go.RowKit Go.Deep
set_option linter.unusedVariables false
set_option maxRecDepth 100000

set_option maxHeartbeats 3200000 in
theorem hides_ref (f gl gh gr mb gp gs : Nat) (n a : Int) (t v c : ByteArray) (lm : Nat → Bool) (h : Nat → Int) (R : Nat → Nat → Bool) (M : Int → Int → Bool) (i : Nat) (w0 w : World) (H0 : FlAt w0 f gl gh gr n t v c lm h R) (hB0 : Below w0.heap.size w0 w) (K : MkAt w mb gp gs c M) (g1 : w0.heap.size ≤ gp) (F : Kp (CodeF c v t n h)) (snd : Kp (∀ p d, M p d = true → Flow c v h a p d)) (hi : (i : Int) < half c) (hl : Kp (Live c i)) (hlm : lm i = true) (h9 : bv c (2 * i) = 9) (hReg : Kp (∀ p : Nat, (p : Int) ≤ half c → (R i p = true ↔ Reg c i p))) :
    Calls Tryz.prog 55 #[.pointer (some ⟨f, 0, none⟩), .pointer (some ⟨mb, 0, none⟩), .int .i64 i] w (SpPost gp w0 mb gp gs c v h a M (HidC c h M i) w) := by
  have hh := (half_bd c).1
  have hK := F.out.hK
  obtain ⟨p1, p2, p3⟩ := F.out.pops hi hl.out
  have htk : takesAt c i = 1 := by unfold takesAt takesF; rw [h9]; rfl
  obtain ⟨d1, hd1⟩ : ∃ d1 : Nat, h i - 1 = d1 := ⟨(h i - 1).toNat, by omega⟩
  have hd9 : (d1 : Int) < 9 := by omega
  have H := H0.step hB0
  obtain ⟨g, gl1, gc, grow⟩ := H0.r i hi hlm h9
  have q6 := H.c6
  have qh := H.h i (by omega)
  have k0 := K.c0
  have k1 := K.c1
  have kp := K.p i (by omega)
  have ks := K.s i d1 (by omega) (by omega)
  have hiN : (i : Int) < ((half c).toNat + 1 : Nat) := by omega
  have hhi : h i = d1 + 1 := by omega
  rw [hhi] at qh
  have hd1' : Kp (h i - 1 = d1) := ⟨hd1⟩
  clear p1 p2 p3 htk hd1 hhi
  obtain ⟨x, hx⟩ : ∃ x, M i (-1) = x := ⟨_, rfl⟩
  obtain ⟨y, hy⟩ : ∃ y, M i d1 = y := ⟨_, rfl⟩
  rw [hx] at kp
  rw [hy] at ks
  by_cases hno : x = false ∧ y = false
  · obtain ⟨rfl, rfl⟩ := hno
    have hR : Kp (Mor c v h a M M false ∧ HidC c h M i) := ⟨Mor.refl c v h a M, fun hm => by
      rw [Int.toNat_natCast, hd1'.out, hx, hy] at hm
      rcases hm with k | k <;> exact absurd k (by simp)⟩
    replace hx : Kp _ := ⟨hx⟩
    replace hy : Kp _ := ⟨hy⟩
    have hU := fun q => But.of (b := gp) (below_drewN (Below.refl w.heap.size w) q)
    have hKd := fun q => K.step (below_drewN (Below.refl w.heap.size w) q)
    go_enter Tryz.func55, Tryz.ntmps55
    go_wp2_with fail
    go_quiet (fail)
    go_wp2_with fail
    go_ret
    exact ⟨false, M, rfl, hKd _, hU _, ⟨hR.out.1, fun _ => hR.out.2⟩⟩
  · have hfl : Kp (∀ p : Nat, (p : Int) ≤ half c → Reg c i p → Flow c v h a p (-1)) := ⟨fun p hp hRg => by
      refine (flow_cl c v h a).hide i p hl.out (by omega) hi h9 ?_ hRg (by omega) hp
      rw [Int.toNat_natCast, hd1'.out]
      cases x
      · cases y
        · exact absurd ⟨rfl, rfl⟩ hno
        · exact .inr (snd.out _ _ hy)
      · exact .inl (snd.out _ _ hx)⟩
    have hB2 := fun q => hB0.trans ((below_drewN (Below.refl w.heap.size w) q).mono hB0.size)
    have hU := fun q => But.of (b := gp) (below_drewN (Below.refl w.heap.size w) q)
    have hKd := fun q => K.step (below_drewN (Below.refl w.heap.size w) q)
    have hM0 : Kp (Mor c v h a M M false ∧ (∀ q : Nat, q < 0 → Reg c i q → M q (-1) = true)) := ⟨Mor.refl c v h a M, fun q hq => absurd hq (by omega)⟩
    replace hx : Kp _ := ⟨hx⟩
    replace hy : Kp _ := ⟨hy⟩
    have hxy : (x = true) ∨ (x = false ∧ y = true) := by
      cases x
      · cases y
        · exact absurd ⟨rfl, rfl⟩ hno
        · exact .inr ⟨rfl, rfl⟩
      · exact .inl rfl
    clear hno
    rcases hxy with rfl | ⟨rfl, rfl⟩
    all_goals
      go_enter Tryz.func55, Tryz.ntmps55
      go_wp2_with fail
      go_quiet (fail)
      go_wp2_with fail
      go_loopw [7, 8] (fun mo pv wr => ∃ (mr : Bool) (p : Nat) (M' : Int → Int → Bool), mo = .bool mr ∧ p ≤ (half c).toNat + 1 ∧ pv = .int .i64 p ∧ MkAt wr mb gp gs c M' ∧ But gp w.heap.size w wr ∧ Kp (Mor c v h a M M' mr ∧ (mr = false → ∀ q : Nat, q < p → Reg c i q → M q (-1) = true))) (fun _ pv _ => (half c).toNat + 1 - (intOf pv).toNat)
      case atStart => exact ⟨false, 0, M, rfl, by omega, rfl, hKd _, hU _, ⟨hM0.out.1, fun _ => hM0.out.2⟩⟩
      case round =>
        clear hKd hU hM0 hB2 q6 qh k0 k1 kp ks H
        obtain ⟨mr, p, M', rfl, hp, rfl, K', hU', hM'⟩ := hrel
        have hB' := hU'.base hB0 g1
        have H' := H0.step hB'
        have q4 := H'.c4
        by_cases hlt : (p : Int) ≤ half c
        · have q7 := H'.c7
          have qg : wr.cell? ⟨gr, i, none⟩ = some (.slice (some ⟨g, 0, none⟩) ((half c).toNat + 1) ((half c).toNat + 1)) := by rw [hB'.cell (p := ⟨gr, i, none⟩) H0.lr]; exact gc
          have qr : wr.cell? ⟨g, p, none⟩ = some (.bool (R i p)) := by rw [hB'.cell (p := ⟨g, p, none⟩) gl1]; exact grow p (by omega)
          have k0 := K'.c0
          have kp := K'.p p (by omega)
          have fp := K'.fp p (by omega)
          have hpN : (p : Int) < ((half c).toNat + 1 : Nat) := by omega
          have hrg := hReg.out p hlt
          obtain ⟨x2, hx2⟩ : ∃ x2, R i p = x2 := ⟨_, rfl⟩
          obtain ⟨y2, hy2⟩ : ∃ y2, M' p (-1) = y2 := ⟨_, rfl⟩
          rw [hx2] at qr hrg
          rw [hy2] at kp
          replace hx2 : Kp _ := ⟨hx2⟩
          by_cases hset : x2 = true ∧ y2 = false
          · obtain ⟨rfl, rfl⟩ := hset
            have hM2 : Kp (Mor c v h a M (updM M' p (-1)) true) := ⟨hM'.out.1.add hlt (by omega) (by omega) hy2 (hfl.out p hlt (hrg.1 rfl))⟩
            have K2 := K'.setP p (by omega)
            have hU2 := hU'.setCell p (.bool true)
            replace hy2 : Kp _ := ⟨hy2⟩
            clear hM' K' hU' hrg
            go_wp2_with fail
            go_roundw
            case rel => exact ⟨true, p + 1, _, rfl, by omega, by go_num, K2, hU2, ⟨hM2.out, fun h => absurd h (by simp)⟩⟩
            case measure => simp [intOf]; omega
          · have hM2 : Kp (Mor c v h a M M' mr ∧ (mr = false → ∀ q : Nat, q < p + 1 → Reg c i q → M q (-1) = true)) := ⟨hM'.out.1, fun hm q hq hRq => by
              by_cases k : q = p
              · subst k
                rw [← hM'.out.1.no hm, hy2]
                have := hrg.2 hRq
                cases y2
                · exact absurd ⟨this, rfl⟩ hset
                · rfl
              · exact hM'.out.2 hm q (by omega) hRq⟩
            replace hy2 : Kp _ := ⟨hy2⟩
            clear hM' hrg
            cases x2
            · go_wp2_with fail
              go_roundw
              case rel => exact ⟨mr, p + 1, M', rfl, by omega, by go_num, K', hU', hM2⟩
              case measure => simp [intOf]; omega
            · have hy1 : y2 = true := by cases y2; exact absurd ⟨rfl, rfl⟩ hset; rfl
              subst hy1
              clear hset
              go_wp2_with fail
              go_roundw
              case rel => exact ⟨mr, p + 1, M', rfl, by omega, by go_num, K', hU', hM2⟩
              case measure => simp [intOf]; omega
        · have hR : Kp (Mor c v h a M M' mr ∧ (mr = false → HidC c h M i)) := ⟨hM'.out.1, fun hm _ q h0 h1 hRq => by
            have e : ((q.toNat : Nat) : Int) = q := Int.toNat_of_nonneg h0
            have := hM'.out.2 hm q.toNat (by omega) (by rw [e]; exact hRq)
            rwa [e] at this⟩
          go_wp2_with fail
          go_ret
          exact ⟨mr, M', rfl, K', hU', hR⟩
end Go.Proofs.YtcnbifdlkalimaaGreat

/-
  The walks of the document's own answer on what is let through (package sluiceref, P5), tenth part: all labels that a level flows to; for every file that is scanned and has heights.
-/
namespace Go.Proofs.YtcnbifdlkalimaaGreat
open Go.RowKit Go.Deep
set_option linter.unusedVariables false
set_option maxRecDepth 100000

def nineC : Array Value := #[.bool false, .bool false, .bool false, .bool false, .bool false, .bool false, .bool false, .bool false, .bool false]
def nine : Value := .agg nineC

theorem info_nine : (Tryz.prog.info? 131).map (fun i => (i.zero, i.size, i.bytes)) = some (some nine, 9, 9) := by kernel_rfl

theorem nine_get (n k : Nat) (h : k < n) : (madeCells nineC n)[k]? = some (.bool false) := by
  have h9 : ∀ r, r < 9 → nineC[r]! = .bool false := by
    intro r hr
    have : r = 0 ∨ r = 1 ∨ r = 2 ∨ r = 3 ∨ r = 4 ∨ r = 5 ∨ r = 6 ∨ r = 7 ∨ r = 8 := by omega
    rcases this with rfl | rfl | rfl | rfl | rfl | rfl | rfl | rfl | rfl <;> rfl
  have hs : nineC.size = 9 := rfl
  simp only [madeCells, hs]
  rw [Array.getElem?_map]
  simp [h]
  exact h9 _ (by omega)

theorem row1 (w : World) (o1 o2 o3 : Obj) : (((w.alloc o1).alloc o2).alloc o3).heap[w.heap.size]? = some o1 := by
  rw [Below.heap_alloc ((w.alloc o1).alloc o2) o3 w.heap.size (by simp; omega), Below.heap_alloc (w.alloc o1) o2 w.heap.size (by simp)]
  exact heap_alloc_last w o1

theorem mk_newA (w : World) (c : ByteArray) : MkAt (((w.alloc (.cells (madeCells #[.bool false] ((half c).toNat + 1)) 4)).alloc (.cells (madeCells nineC (((half c).toNat + 1) * 9)) 131)).alloc (.cells #[.slice (some ⟨w.heap.size, 0, none⟩) ((half c).toNat + 1) ((half c).toNat + 1), .slice (some ⟨w.heap.size + 1, 0, none⟩) ((half c).toNat + 1) ((half c).toNat + 1)] 127)) (w.heap.size + 1 + 1) w.heap.size (w.heap.size + 1) c (fun _ _ => false) := by
  refine ⟨by simp, by simp; omega, by simp, by omega, by omega, by omega, ?_, ?_, fun j hj => ?_, fun j d hj hd => ?_, fun j hj => ?_, fun j d hj hd => ?_⟩
  · rw [cell_of_row _ _ 0 _ _ (0, 0) (row3 _ _ _ _)]; rfl
  · rw [cell_of_row _ _ 1 _ _ (0, 0) (row3 _ _ _ _)]; rfl
  · rw [cell_of_row _ _ j _ _ (0, 0) (row1 _ _ _ _)]; exact made_get _ _ _ hj
  · rw [cell_of_row _ _ _ _ _ (0, 0) (row2 _ _ _ _)]; exact nine_get _ _ (by omega)
  · simp only [World.frozen?, row1]; simp
  · simp only [World.frozen?, row2]; simp

theorem mk_newB (w : World) (c : ByteArray) : MkAt (((w.alloc (.cells (madeCells nineC (((half c).toNat + 1) * 9)) 131)).alloc (.cells (madeCells #[.bool false] ((half c).toNat + 1)) 4)).alloc (.cells #[.slice (some ⟨w.heap.size + 1, 0, none⟩) ((half c).toNat + 1) ((half c).toNat + 1), .slice (some ⟨w.heap.size, 0, none⟩) ((half c).toNat + 1) ((half c).toNat + 1)] 127)) (w.heap.size + 1 + 1) (w.heap.size + 1) w.heap.size c (fun _ _ => false) := by
  refine ⟨by simp, by simp, by simp; omega, by omega, by omega, by omega, ?_, ?_, fun j hj => ?_, fun j d hj hd => ?_, fun j hj => ?_, fun j d hj hd => ?_⟩
  · rw [cell_of_row _ _ 0 _ _ (0, 0) (row3 _ _ _ _)]; rfl
  · rw [cell_of_row _ _ 1 _ _ (0, 0) (row3 _ _ _ _)]; rfl
  · rw [cell_of_row _ _ j _ _ (0, 0) (row2 _ _ _ _)]; exact made_get _ _ _ hj
  · rw [cell_of_row _ _ _ _ _ (0, 0) (row1 _ _ _ _)]; exact nine_get _ _ (by omega)
  · simp only [World.frozen?, row2]; simp
  · simp only [World.frozen?, row1]; simp

/-- what spreading leaves -/
def SpreadPost (c v : ByteArray) (h : Nat → Int) (a : Int) (w : World) (e : Ending) (w' : World) : Prop :=
  ∃ (mb gp gs : Nat) (M : Int → Int → Bool), e = .returned (.pointer (some ⟨mb, 0, none⟩)) ∧ w.heap.size ≤ mb ∧ w.heap.size ≤ gp ∧ w.heap.size ≤ gs ∧ MkAt w' mb gp gs c M ∧ Below w.heap.size w w' ∧ Kp (∀ p d, M p d = true ↔ Flow c v h a p d)

set_option maxHeartbeats 3200000 in
theorem spread_ref (f gl gh gr : Nat) (n a : Int) (t v c : ByteArray) (lm : Nat → Bool) (h : Nat → Int) (R : Nat → Nat → Bool) (w : World) (H : FlAt w f gl gh gr n t v c lm h R) (F : Kp (CodeF c v t n h)) (hlive : Kp (∀ j : Nat, (j : Int) ≤ half c → (lm j = true ↔ Live c j))) (hReg : Kp (∀ i p : Nat, (i : Int) < half c → Live c i → bv c (2 * i) = 9 → (p : Int) ≤ half c → (R i p = true ↔ Reg c i p))) :
    Calls Tryz.prog 22 #[.pointer (some ⟨f, 0, none⟩), .int .i64 a] w (SpreadPost c v h a w) := by
  have hh := (half_bd c).1
  have hK := F.out.hK
  have hc := F.out.hc
  have q4 := H.c4
  have hflt := H.lt
  have hmk := run_make_row' (P := Tryz.prog) 57 4 (.bool false) 1 Tryz.underlying57 info_bool rfl .i64 .i64 ((half c).toNat + 1) (by omega) (by omega)
  rw [show ((((half c).toNat + 1) : Nat) : Int) = half c + 1 from by omega] at hmk
  have hmk2 : ∀ W : World, (Instr.makeSlice 125 (.int .i64 (half c + 1)) (.int .i64 (half c + 1))).run Tryz.prog W = .ok (.slice (some ⟨W.heap.size, 0, none⟩) ((half c).toNat + 1) ((half c).toNat + 1)) (W.alloc (.cells (madeCells nineC (((half c).toNat + 1) * 9)) 131)) := fun W => by
    obtain ⟨i9, hi9, hz9⟩ := Option.map_eq_some_iff.1 info_nine
    simp only [Prod.mk.injEq] at hz9
    have := run_make (P := Tryz.prog) W 125 131 i9 nine Tryz.underlying125 hi9 hz9.1 .i64 .i64 (half c + 1) (half c + 1) (by omega) (by omega) (by rw [hz9.2.2]; omega) (by omega)
    rw [this, hz9.2.1, show nine.cells = nineC from rfl, show (half c + 1).toNat = (half c).toNat + 1 from by omega]
  go_enter Tryz.func22, Tryz.ntmps22
  go_wp2_with fail
  have hwr : IntKind.i64.wrap (half c + 1) = half c + 1 := by rw [IntKind.wrap_i64]; omega
  go_region_held (fun w' => w'.cell? ⟨f, 4, none⟩ = some (.int .i64 (half c))) ((refine (Below.cell (B := w.heap.size) (w := w) (p := ⟨f, 4, none⟩) ?_ hflt).trans q4; first | exact (Below.refl _ _).drew | exact ((Below.refl _ _).alloc (Nat.le_refl _) _).drew | exact (((Below.refl _ _).alloc (Nat.le_refl _) _).alloc (by simp) _).drew | exact ((((Below.refl _ _).alloc (Nat.le_refl _) _).alloc (by simp) _).alloc (by simp; omega) _).drew)) (fail)
  all_goals
    first
    | (obtain ⟨w1, hw1⟩ : ∃ w1, w1 = (((w.alloc (.cells (madeCells #[.bool false] ((half c).toNat + 1)) 4)).alloc (.cells (madeCells nineC (((half c).toNat + 1) * 9)) 131)).alloc (.cells #[.slice (some ⟨w.heap.size, 0, none⟩) ((half c).toNat + 1) ((half c).toNat + 1), .slice (some ⟨w.heap.size + 1, 0, none⟩) ((half c).toNat + 1) ((half c).toNat + 1)] 127)).drew := ⟨_, rfl⟩; rw [← hw1]; have K1 : ∃ gp gs, w.heap.size ≤ gp ∧ w.heap.size ≤ gs ∧ gp < w.heap.size + 2 ∧ gs < w.heap.size + 2 ∧ MkAt w1 (w.heap.size + 1 + 1) gp gs c (fun _ _ => false) := ⟨w.heap.size, w.heap.size + 1, by omega, by omega, by omega, by omega, by rw [hw1]; exact (mk_newA w c).step ((Below.refl _ _).drew)⟩; have hB1 : Below w.heap.size w w1 := (by rw [hw1]; exact ((((Below.refl _ _).alloc (Nat.le_refl _) _).alloc (by simp) _).alloc (by simp; omega) _).drew); clear hw1)
    | (obtain ⟨w1, hw1⟩ : ∃ w1, w1 = (((w.alloc (.cells (madeCells nineC (((half c).toNat + 1) * 9)) 131)).alloc (.cells (madeCells #[.bool false] ((half c).toNat + 1)) 4)).alloc (.cells #[.slice (some ⟨w.heap.size + 1, 0, none⟩) ((half c).toNat + 1) ((half c).toNat + 1), .slice (some ⟨w.heap.size, 0, none⟩) ((half c).toNat + 1) ((half c).toNat + 1)] 127)).drew := ⟨_, rfl⟩; rw [← hw1]; have K1 : ∃ gp gs, w.heap.size ≤ gp ∧ w.heap.size ≤ gs ∧ gp < w.heap.size + 2 ∧ gs < w.heap.size + 2 ∧ MkAt w1 (w.heap.size + 1 + 1) gp gs c (fun _ _ => false) := ⟨w.heap.size + 1, w.heap.size, by omega, by omega, by omega, by omega, by rw [hw1]; exact (mk_newB w c).step ((Below.refl _ _).drew)⟩; have hB1 : Below w.heap.size w w1 := (by rw [hw1]; exact ((((Below.refl _ _).alloc (Nat.le_refl _) _).alloc (by simp) _).alloc (by simp; omega) _).drew); clear hw1)
    obtain ⟨gp, gs, g1, g2, g3, g4, K1⟩ := K1
    have hs1 : Kp (∀ p d : Int, (fun (_ _ : Int) => false) p d = true → Flow c v h a p d) := ⟨fun p d hd => absurd hd (by simp)⟩
    clear hmk hmk2 hwr q4
    go_wp2_with fail
    go_loopg [6] (2 * cntM c (fun _ _ => false) + 1) (fun gm ag wr => ∃ (ab : Bool) (M : Int → Int → Bool), ag = .bool ab ∧ gm = 2 * cntM c M + (if ab then 1 else 0) ∧ MkAt wr (w.heap.size + 1 + 1) gp gs c M ∧ Below w.heap.size w wr ∧ Kp (∀ p d, M p d = true → Flow c v h a p d) ∧ Kp (ab = false → ∀ i : Nat, (i : Int) < half c → Live c i → AllC c v h a M i))
    case atStart => exact ⟨true, _, rfl, by simp, K1, hB1, hs1, ⟨fun h => absurd h (by simp)⟩⟩
    case round =>
      clear K1 hB1 hs1
      obtain ⟨ab, M, rfl, hgm, K, hB, hsd, hall⟩ := hrel
      replace hgm : Kp _ := ⟨hgm⟩
      cases ab
      · have hfin : Kp (∀ p d, M p d = true ↔ Flow c v h a p d) := ⟨fun p d => ⟨hsd.out p d, fun hf => marks_full (fun i h0 h1 hl => by
          have e : ((i.toNat : Nat) : Int) = i := Int.toNat_of_nonneg h0
          have := hall.out rfl i.toNat (by rw [e]; exact h1) (by rw [e]; exact hl)
          rwa [e] at this) hf⟩⟩
        go_wp2_with fail
        go_ret
        exact ⟨_, gp, gs, M, rfl, by omega, g1, g2, K, hB, hfin⟩
      · clear hall
        have hM0 : Kp (Mor c v h a M M false) := ⟨Mor.refl c v h a M⟩
        go_wp2_with fail
        go_loopw [6, 7] (fun ag iv wr => ∃ (ab : Bool) (k : Nat) (M' : Int → Int → Bool), ag = .bool ab ∧ (k : Int) ≤ half c ∧ iv = .int .i64 k ∧ MkAt wr (w.heap.size + 1 + 1) gp gs c M' ∧ Below w.heap.size w wr ∧ Kp (Mor c v h a M M' ab ∧ (ab = false → ∀ i : Nat, i < k → Live c i → AllC c v h a M i))) (fun _ iv _ => (half c).toNat - (intOf iv).toNat)
        case atStart => exact ⟨false, 0, M, rfl, by omega, rfl, K, hB, ⟨hM0.out, fun _ i hi => absurd hi (by omega)⟩⟩
        case round =>
          clear K hB hM0
          obtain ⟨ab, k, M', rfl, hk, rfl, K, hB, hM'⟩ := hrel
          have H1 := H.step hB
          have q4 := H1.c4
          by_cases hlt : (k : Int) < half c
          · have q5 := H1.c5
            have ql := H1.l k (by omega)
            have hkN : (k : Int) < ((half c).toNat + 1 : Nat) := by omega
            cases hlm : lm k with
            | false =>
              rw [hlm] at ql
              have hM2 : Kp (Mor c v h a M M' ab ∧ (ab = false → ∀ i : Nat, i < k + 1 → Live c i → AllC c v h a M i)) := ⟨hM'.out.1, fun hm i hi hl => by
                by_cases e : i = k
                · subst e
                  rw [(hlive.out i (by omega)).2 hl] at hlm
                  exact absurd hlm (by simp)
                · exact hM'.out.2 hm i (by omega) hl⟩
              go_wp2_with fail
              go_roundw
              case rel => exact ⟨ab, k + 1, M', rfl, by omega, by go_num, K, hB, hM2⟩
              case measure => simp [intOf]; omega
            | true =>
              rw [hlm] at ql
              have hlv : Kp (Live c k) := ⟨(hlive.out k (by omega)).1 hlm⟩
              have q0 := H1.c0
              have q1 := H1.c1
              have q2 := H1.c2
              have q3 := H1.c3
              go_wp2_with fail
              refine (next_ref n k t v c _ hc (by omega) hlt hK).mono ?_
              rintro e w2 ⟨r, rfl, hI, hb2⟩
              obtain ⟨gn, cap, rfl, hgB, hgl2, hcells⟩ := hI.form
              have K2 := K.step hb2
              have hB2 := hB.trans (hb2.mono hB.size)
              have hgs := K.ls
              have hgp := K.lp
              have hL2 := nxt_len c k
              have hrg : Kp (∀ (q : Nat) (x : Int), (nxt c k)[q]? = some x → 0 ≤ x ∧ x ≤ half c ∧ x ∈ nxt c k) := ⟨fun q x hx => by
                have hm := List.mem_of_getElem? hx
                have := ranged_of F.out.ok k x ⟨by omega, hlt, hm⟩
                exact ⟨this.1, this.2, hm⟩⟩
              obtain ⟨Ls, hLs⟩ : ∃ Ls, nxt c k = Ls := ⟨_, rfl⟩
              rw [hLs] at hcells hL2 hrg
              have hLsK : Kp (nxt c k = Ls) := ⟨hLs⟩
              rw [hLs]
              replace hcells : Kp _ := ⟨hcells⟩
              clear q0 q1 q2 q3 q4 q5 ql hI hb2 K hB H1 hLs
              go_wp2_with fail
              go_loopw [6, 53] (fun ag qv wr => ∃ (ab : Bool) (q : Nat) (M2 : Int → Int → Bool), ag = .bool ab ∧ q ≤ Ls.length ∧ qv = .int .i64 q ∧ MkAt wr (w.heap.size + 1 + 1) gp gs c M2 ∧ Below w.heap.size w wr ∧ gn < wr.heap.size ∧ Kp (∀ (p : Nat) (x : Int), Ls[p]? = some x → wr.cell? ⟨gn, p, none⟩ = some (.int .i64 x)) ∧ Kp (Mor c v h a M M2 ab ∧ (ab = false → (∀ i : Nat, i < k → Live c i → AllC c v h a M i) ∧ ∀ (p : Nat) (x : Int), p < q → Ls[p]? = some x → OnwC c v h a M k x))) (fun _ qv _ => Ls.length - (intOf qv).toNat)
              case atStart => exact ⟨ab, 0, M', rfl, by omega, rfl, K2, hB2, hgl2, hcells, ⟨hM'.out.1, fun hm => ⟨hM'.out.2 hm, fun p x hp => absurd hp (by omega)⟩⟩⟩
              case round =>
                clear K2 hB2 hM' hcells hgl2
                obtain ⟨ab, q, M2, rfl, hq, rfl, K2, hB2, hgl2, hcells, hM2⟩ := hrel
                by_cases hlt2 : q < Ls.length
                · obtain ⟨x, hx⟩ : ∃ x, Ls[q]? = some x := ⟨_, List.getElem?_eq_getElem hlt2⟩
                  have cx := hcells.out q x hx
                  have hlt3 : (q : Int) < Ls.length := by omega
                  obtain ⟨xr0, xr1, xr2⟩ := hrg.out q x hx
                  obtain ⟨xn, rfl⟩ : ∃ xn : Nat, x = xn := ⟨x.toNat, by omega⟩
                  have hmem : Kp ((xn : Int) ∈ nxt c k) := ⟨by rw [hLsK.out]; exact xr2⟩
                  replace hx : Kp _ := ⟨hx⟩
                  have hsd2 : Kp (∀ p d, M2 p d = true → Flow c v h a p d) := ⟨fun p d hd => (hM2.out.1.ok p d hd).elim (hsd.out p d) id⟩
                  clear xr2
                  go_wp2_with fail
                  refine (onward_ref f gl gh gr (w.heap.size + 1 + 1) gp gs n a t v c lm h R M2 k xn w _ H hB2 K2 g2 F hsd2 hlt hlv hmem).mono ?_
                  rintro e w3 ⟨mo, M3, rfl, K3, hU3, hM3⟩
                  have hB3 := hU3.base hB2 g2
                  have hgl3 := Nat.lt_of_lt_of_le hgl2 hU3.size
                  have hcells3 : Kp (∀ (p : Nat) (x : Int), Ls[p]? = some x → w3.cell? ⟨gn, p, none⟩ = some (.int .i64 x)) := ⟨fun p x hx => by rw [hU3.cell (p := ⟨gn, p, none⟩) hgl2 (by show gn ≠ gs; omega)]; exact hcells.out p x hx⟩
                  have hM4 : Kp (Mor c v h a M M3 (ab || mo) ∧ ((ab || mo) = false → (∀ i : Nat, i < k → Live c i → AllC c v h a M i) ∧ ∀ (p : Nat) (x : Int), p < q + 1 → Ls[p]? = some x → OnwC c v h a M k x)) := ⟨hM2.out.1.trans hM3.out.1, fun hm => by
                    rw [Bool.or_eq_false_iff] at hm
                    have e2 := hM2.out.1.no hm.1
                    have h2 := hM2.out.2 hm.1
                    refine ⟨h2.1, fun p x hp hpx => ?_⟩
                    by_cases e : p = q
                    · subst e
                      rw [hx.out] at hpx
                      simp only [Option.some.injEq] at hpx
                      rw [← hpx]
                      have := hM3.out.2 hm.2
                      rwa [e2] at this
                    · exact h2.2 p x (by omega) hpx⟩
                  clear K2 hB2 hU3 hM2 hM3 hcells cx hgl2
                  cases ab <;> cases mo
                  all_goals
                    go_wp2_with fail
                    go_roundw
                    case rel => exact ⟨_, q + 1, M3, rfl, by omega, by go_num, K3, hB3, hgl3, hcells3, hM4⟩
                    case measure => simp [intOf]; omega
                · have hto : Kp (ab = false → (∀ i : Nat, i < k → Live c i → AllC c v h a M i) ∧ ∀ j, j ∈ nxt c k → OnwC c v h a M k j) := ⟨fun hm => ⟨(hM2.out.2 hm).1, fun j hj => by
                    rw [hLsK.out] at hj
                    obtain ⟨p, hp, hpx⟩ := List.getElem?_of_mem hj |> fun ⟨p, h⟩ => (⟨p, (List.getElem?_eq_some_iff.1 h).1, h⟩ : ∃ p, p < Ls.length ∧ Ls[p]? = some j)
                    exact (hM2.out.2 hm).2 p j (by omega) hpx⟩⟩
                  have hMo : Kp (Mor c v h a M M2 ab) := ⟨hM2.out.1⟩
                  have H2 := H.step hB2
                  have q0 := H2.c0
                  have q1 := H2.c1
                  have q2 := H2.c2
                  have q3 := H2.c3
                  have q4 := H2.c4
                  clear hM2 hcells
                  go_wp2_with fail
                  refine (uop_any n k t v c _ hc (by omega) hlt).mono ?_
                  rintro e w3 ⟨rfl, hb3⟩
                  have K3 := K2.step hb3
                  have hB3 := hB2.trans (hb3.mono hB2.size)
                  clear q0 q1 q2 q3 q4 K2 hB2 hb3 H2 hgl2
                  by_cases h9 : bv c (2 * k) = 9
                  · rw [h9]
                    have hsd2 : Kp (∀ p d, M2 p d = true → Flow c v h a p d) := ⟨fun p d hd => (hMo.out.ok p d hd).elim (hsd.out p d) id⟩
                    go_wp2_with fail
                    refine (hides_ref f gl gh gr (w.heap.size + 1 + 1) gp gs n a t v c lm h R M2 k w _ H hB3 K3 g1 F hsd2 hlt hlv hlm h9 ⟨fun p hp => hReg.out k p hlt hlv.out h9 hp⟩).mono ?_
                    rintro e w4 ⟨mo, M3, rfl, K4, hU4, hM3⟩
                    have hB4 := hU4.base hB3 g1
                    have hM4 : Kp (Mor c v h a M M3 (ab || mo) ∧ ((ab || mo) = false → ∀ i : Nat, i < k + 1 → Live c i → AllC c v h a M i)) := ⟨hMo.out.trans hM3.out.1, fun hm i hi hl => by
                      rw [Bool.or_eq_false_iff] at hm
                      have e2 := hMo.out.no hm.1
                      by_cases e : i = k
                      · subst e
                        refine ⟨(hto.out hm.1).2, fun _ => ?_⟩
                        have := hM3.out.2 hm.2
                        rwa [e2] at this
                      · exact (hto.out hm.1).1 i (by omega) hl⟩
                    clear K3 hB3 hU4 hM3 hto hMo
                    replace h9 : Kp _ := ⟨h9⟩
                    cases ab <;> cases mo
                    all_goals
                      go_wp2_with fail
                      go_roundw
                      case rel => exact ⟨_, k + 1, M3, rfl, by omega, by go_num, K4, hB4, hM4⟩
                      case measure => simp [intOf]; omega
                  · have h9' : (bv c (2 * k) == 9) = false := beq_eq_false_iff_ne.2 h9
                    have hM4 : Kp (Mor c v h a M M2 ab ∧ (ab = false → ∀ i : Nat, i < k + 1 → Live c i → AllC c v h a M i)) := ⟨hMo.out, fun hm i hi hl => by
                      by_cases e : i = k
                      · subst e; exact ⟨(hto.out hm).2, fun k9 => absurd k9 h9⟩
                      · exact (hto.out hm).1 i (by omega) hl⟩
                    clear hto hMo
                    go_wp2_with fail
                    go_roundw
                    case rel => exact ⟨ab, k + 1, M2, rfl, by omega, by go_num, K3, hB3, hM4⟩
                    case measure => simp [intOf]; omega
          · have hsd2 : Kp (∀ p d, M' p d = true → Flow c v h a p d) := ⟨fun p d hd => (hM'.out.1.ok p d hd).elim (hsd.out p d) id⟩
            have hfin2 : Kp (ab = false → ∀ i : Nat, (i : Int) < half c → Live c i → AllC c v h a M' i) := ⟨fun hm i hi hl => by rw [hM'.out.1.no hm]; exact hM'.out.2 hm i (by omega) hl⟩
            go_wp2_with fail
            go_roundg (2 * cntM c M' + (if ab then 1 else 0))
            case measure =>
              have h1 := hgm.out
              have h2 := hM'.out.1.le
              have h3 := hM'.out.1.yes
              simp at h1
              cases ab
              · simp; omega
              · have := h3 rfl; simp; omega
            case rel => exact ⟨ab, M', rfl, rfl, K, hB, hsd2, hfin2⟩
end Go.Proofs.YtcnbifdlkalimaaGreat

/-
  The walks of the document's own answer on what is let through (package sluiceref, P5), eleventh part: which instructions break a rule; for every file that is scanned and has heights.
-/
namespace Go.Proofs.YtcnbifdlkalimaaGreat
open Go.RowKit Go.Deep
set_option linter.unusedVariables false
set_option maxRecDepth 100000

set_option maxHeartbeats 3200000 in
theorem sinks_ref (n i : Int) (t v c : ByteArray) (w : World) (hc : c.size ≤ maxLen) (hv : v.size ≤ maxLen) (h0 : 0 ≤ i) (hi : i < half c) (h11 : bv c (2 * i) ≤ 11) (hvr : bv c (2 * i) = 2 → bv c (2 * i + 1) < v.size) :
    Calls Tryz.prog 56 #[.agg #[.int .i64 n, .string t, .string v, .string c, .int .i64 (half c)], .int .i64 i] w fun e w' => e = .returned (.tuple #[.int .i64 (sinkTo c v i), .bool (sinkVal c i)]) ∧ Below w.heap.size w w' := by
  have hT : Kp (sinkTo c v i = if bv c (2 * i) = 2 then bv v (bv c (2 * i + 1)) else if bv c (2 * i) = 10 ∨ bv c (2 * i) = 11 then bv c (2 * i + 1) else -1) := ⟨rfl⟩
  have hV : Kp (sinkVal c i = decide (bv c (2 * i) = 2 ∨ bv c (2 * i) = 11)) := ⟨rfl⟩
  have ho := (bv_bd c (2 * i)).1
  have ha := bv_bd c (2 * i + 1)
  replace hvr : Kp _ := ⟨hvr⟩
  have hB0 := (Below.refl w.heap.size w).alloc (Nat.le_refl _) (.cells #[.int .i64 n, .string t, .string v, .string c, .int .i64 (half c)] 54)
  have hO0 := Own.new5 w (.int .i64 n) (.string t) (.string v) (.string c) (.int .i64 (half c)) 54
  go_enter Tryz.func56, Tryz.ntmps56
  go_wp2_with fail
  refine (uop_any n i t v c _ hc h0 hi).mono ?_
  rintro e w1 ⟨rfl, hb1⟩
  have hO1 := hO0.step hb1
  have hB1 := hB0.trans (hb1.mono hB0.size)
  clear hO0 hB0 hb1
  obtain ⟨op, hop⟩ : ∃ op, bv c (2 * i) = op := ⟨_, rfl⟩
  obtain ⟨arg, harg⟩ : ∃ arg, bv c (2 * i + 1) = arg := ⟨_, rfl⟩
  rw [hop] at hT hV hvr h11 ho ⊢
  rw [harg] at hT hvr ha
  replace harg : Kp _ := ⟨harg⟩
  clear hop
  have q0 := hO1.c 0 _ rfl
  have q1 := hO1.c 1 _ rfl
  have q2 := hO1.c 2 _ rfl
  have q3 := hO1.c 3 _ rfl
  have q4 := hO1.c 4 _ rfl
  have hlw := hO1.lt
  have hcs : op = 2 ∨ op = 11 ∨ op = 10 ∨ (op = 0 ∨ op = 1 ∨ op = 3 ∨ op = 4 ∨ op = 5 ∨ op = 6 ∨ op = 7 ∨ op = 8 ∨ op = 9) := by omega
  rcases hcs with rfl | rfl | rfl | hcs
  · have hvs := hvr.out rfl
    have hT2 := hT.out
    have hV2 := hV.out
    rw [if_pos rfl] at hT2
    rw [decide_eq_true (.inl rfl)] at hV2
    replace hT2 : Kp _ := ⟨hT2⟩
    replace hV2 : Kp _ := ⟨hV2⟩
    have hwr : Kp (IntKind.i64.wrap (bv v arg) = bv v arg) := ⟨by have := bv_bd v arg; rw [IntKind.wrap_i64]; omega⟩
    have hvg : ((v[arg.toNat]'(by omega)).toNat : Int) = bv v arg := bv_get v arg (by omega)
    clear hT hV hvr
    go_wp2_with fail
    go_region_with (first
      | (go_at_call 47; refine (uarg_any n i t v c _ hc h0 hi).mono ?_; rintro e w5 ⟨rfl, hb5⟩; rw [harg.out]; have r2 : w5.cell? ⟨w.heap.size, 2, none⟩ = some (.string v) := (by rw [hb5.cell (p := ⟨w.heap.size, 2, none⟩) (by simpa using hlw)]; simpa using q2)))
    all_goals
      have hd : Below w1.heap.size w1 w1.drew := (Below.refl _ _).drew
      have b1 := hB1.trans (hd.mono hB1.size)
      have b2 := b1.trans (hb5.mono b1.size)
      clear hd b1 hb5 r2 q0 q1 q2 q3 q4
      go_wp2_with fail
      go_ret2
      exact ⟨by rw [hT2.out, hV2.out, hwr.out]; rfl, b2⟩
  · have hT2 := hT.out
    have hV2 := hV.out
    rw [if_neg (by decide), if_pos (.inr rfl)] at hT2
    rw [decide_eq_true (.inr rfl)] at hV2
    replace hT2 : Kp _ := ⟨hT2⟩
    replace hV2 : Kp _ := ⟨hV2⟩
    clear hT hV hvr
    go_wp2_with fail
    refine (uarg_any n i t v c _ hc h0 hi).mono ?_
    rintro e w5 ⟨rfl, hb5⟩
    rw [harg.out]
    have b2 := hB1.trans (hb5.mono hB1.size)
    go_wp2_with fail
    go_ret2
    exact ⟨by rw [hT2.out, hV2.out]; rfl, b2⟩
  · have hT2 := hT.out
    have hV2 := hV.out
    rw [if_neg (by decide), if_pos (.inl rfl)] at hT2
    rw [decide_eq_false (by decide)] at hV2
    replace hT2 : Kp _ := ⟨hT2⟩
    replace hV2 : Kp _ := ⟨hV2⟩
    clear hT hV hvr
    go_wp2_with fail
    refine (uarg_any n i t v c _ hc h0 hi).mono ?_
    rintro e w5 ⟨rfl, hb5⟩
    rw [harg.out]
    have b2 := hB1.trans (hb5.mono hB1.size)
    go_wp2_with fail
    go_ret2
    exact ⟨by rw [hT2.out, hV2.out]; rfl, b2⟩
  · have hT2 := hT.out
    have hV2 := hV.out
    rw [if_neg (by omega), if_neg (by omega)] at hT2
    rw [decide_eq_false (by omega)] at hV2
    replace hT2 : Kp _ := ⟨hT2⟩
    replace hV2 : Kp _ := ⟨hV2⟩
    clear hT hV hvr
    rcases hcs with rfl | rfl | rfl | rfl | rfl | rfl | rfl | rfl | rfl
    all_goals
      go_wp2_with fail
      go_ret2
      exact ⟨by rw [hT2.out, hV2.out]; rfl, hB1⟩

/-- block gL holds pointers to the marks of each level -/
structure MkL (w : World) (gL : Nat) (n : Int) (c : ByteArray) (Mf : Int → Int → Int → Bool) : Prop where
  lt : gL < w.heap.size
  m : ∀ a : Nat, (a : Int) < n → ∃ mb gp gs, w.cell? ⟨gL, a, none⟩ = some (.pointer (some ⟨mb, 0, none⟩)) ∧ MkAt w mb gp gs c (Mf a)

theorem MkL.step {w w1 : World} {gL : Nat} {n : Int} {c : ByteArray} {Mf : Int → Int → Int → Bool} (L : MkL w gL n c Mf) (hb : Below w.heap.size w w1) : MkL w1 gL n c Mf :=
  ⟨Nat.lt_of_lt_of_le L.lt hb.size, fun a ha => by
    obtain ⟨mb, gp, gs, h1, h2⟩ := L.m a ha
    exact ⟨mb, gp, gs, by rw [hb.cell (p := ⟨gL, a, none⟩) L.lt]; exact h1, h2.step hb⟩⟩

def BrkPost (c v t : ByteArray) (n : Int) (h : Nat → Int) (i : Int) (w : World) (e : Ending) (w' : World) : Prop :=
  ∃ b : Bool, e = .returned (.bool b) ∧ Kp (b = true ↔ Breaks c v t n h i) ∧ Below w.heap.size w w'

set_option maxHeartbeats 3200000 in
theorem breaks_ref (f gl gh gr gL cap : Nat) (n : Int) (t v c : ByteArray) (lm : Nat → Bool) (h : Nat → Int) (R : Nat → Nat → Bool) (Mf : Int → Int → Int → Bool) (i : Nat) (w : World) (H : FlAt w f gl gh gr n t v c lm h R) (L : MkL w gL n c Mf) (F : Kp (CodeF c v t n h)) (hlive : Kp (∀ j : Nat, (j : Int) ≤ half c → (lm j = true ↔ Live c j))) (hMf : Kp (∀ a p d, Lv n a → (Mf a p d = true ↔ Flow c v h a p d))) (hi : (i : Int) < half c) :
    Calls Tryz.prog 23 #[.pointer (some ⟨f, 0, none⟩), .slice (some ⟨gL, 0, none⟩) n.toNat cap, .int .i64 i] w (BrkPost c v t n h i w) := by
  have hh := (half_bd c).1
  have hK := F.out.hK
  have hc := F.out.hc
  have hv := F.out.hv
  have hT := F.out.lat.tab
  have hn1 := hT.1
  have hn2 := hT.hi
  have hI := F.out.ins (i := i) (by omega) hi
  have h11 := hI.hi
  have q0 := H.c0
  have q1 := H.c1
  have q2 := H.c2
  have q3 := H.c3
  have q4 := H.c4
  have hiN : (i : Int) < ((half c).toNat + 1 : Nat) := by omega
  have hto : Kp (0 ≤ sinkTo c v i → Lv n (sinkTo c v i)) := ⟨fun k => by
    unfold sinkTo at k ⊢
    split
    · rename_i e; exact (hI.vr (.inr e)).2
    · rename_i e
      rw [if_neg e] at k
      split
      · rename_i e2; exact hI.lv e2
      · rename_i e2; rw [if_neg e2] at k; omega⟩
  have hval : Kp (sinkVal c i = true → lm i = true → 1 ≤ h i ∧ h i ≤ 8) := ⟨fun k hl => by
    have hP := F.out.pops hi ((hlive.out i (by omega)).1 hl)
    have := of_decide_eq_true k
    have ht : takesAt c i = 1 := by unfold takesAt takesF; rw [if_pos (by omega)]
    omega⟩
  go_enter Tryz.func23, Tryz.ntmps23
  go_wp2_with fail
  refine (sinks_ref n i t v c _ hc hv (by omega) hi h11 (fun k => (hI.vr (.inr k)).1)).mono ?_
  rintro e w1 ⟨rfl, hb1⟩
  have H1 := H.step hb1
  have L1 := L.step hb1
  clear q0 q1 q2 q3 q4 H L
  have hBr : Kp (Breaks c v t n h i ↔ ((0 ≤ (i : Int) ∧ (i : Int) < half c) ∧ Live c i ∧ 0 ≤ sinkTo c v i ∧ ∃ a, Lv n a ∧ le t n a (sinkTo c v i) = false ∧ (Flow c v h a i (-1) ∨ (sinkVal c i = true ∧ Flow c v h a i (h i - 1))))) := ⟨Iff.rfl⟩
  obtain ⟨to, hto'⟩ : ∃ to, sinkTo c v i = to := ⟨_, rfl⟩
  obtain ⟨vl, hvl'⟩ : ∃ vl, sinkVal c i = vl := ⟨_, rfl⟩
  rw [hto'] at hto hBr ⊢
  rw [hvl'] at hval hBr ⊢
  clear hto' hvl'
  by_cases hneg : to < 0
  · have hR : Kp (false = true ↔ Breaks c v t n h i) := ⟨by rw [hBr.out]; exact ⟨fun k => absurd k (by simp), fun k => by have := k.2.2.1; omega⟩⟩
    go_wp2_with fail
    go_ret
    exact ⟨false, rfl, hR, hb1⟩
  · have q5 := H1.c5
    have ql := H1.l i (by omega)
    cases hlm : lm i with
    | false =>
      rw [hlm] at ql
      have hR : Kp (false = true ↔ Breaks c v t n h i) := ⟨by
        rw [hBr.out]
        exact ⟨fun k => absurd k (by simp), fun k => by rw [(hlive.out i (by omega)).2 k.2.1] at hlm; exact absurd hlm (by simp)⟩⟩
      go_wp2_with fail
      go_ret
      exact ⟨false, rfl, hR, hb1⟩
    | true =>
      rw [hlm] at ql
      have hlv : Kp (Live c i) := ⟨(hlive.out i (by omega)).1 hlm⟩
      obtain ⟨to0, to1⟩ := hto.out (by omega)
      replace hlm : Kp _ := ⟨hlm⟩
      have hh1 : Kp (vl = true → 1 ≤ h i ∧ h i ≤ 8) := ⟨fun k => hval.out k hlm.out⟩
      clear hval hto
      go_wp2_with fail
      clear q5 ql
      go_loopw [9] (fun av wr => ∃ k : Nat, (k : Int) ≤ n ∧ av = .int .i64 k ∧ FlAt wr f gl gh gr n t v c lm h R ∧ MkL wr gL n c Mf ∧ Below w.heap.size w wr ∧ Kp (∀ a : Nat, a < k → ¬ (le t n a to = false ∧ (Flow c v h a i (-1) ∨ (vl = true ∧ Flow c v h a i (h i - 1)))))) (fun av _ => n.toNat - (intOf av).toNat)
      case atStart => exact ⟨0, by omega, rfl, H1, L1, hb1, ⟨fun a ha => absurd ha (by omega)⟩⟩
      case round =>
        clear H1 L1 hb1
        obtain ⟨k, hk, rfl, H1, L1, hB1, hN⟩ := hrel
        have q0 := H1.c0
        by_cases hlt : (k : Int) < n
        · obtain ⟨mb, gp, gs, cm, K⟩ := L1.m k hlt
          have hkN : (k : Int) < (n.toNat : Nat) := by omega
          have k0 := K.c0
          have k1 := K.c1
          have kp := K.p i (by omega)
          have q1 := H1.c1
          have hF1 := hMf.out k i (-1) ⟨by omega, hlt⟩
          have hF2 := hMf.out k i (h i - 1) ⟨by omega, hlt⟩
          obtain ⟨x, hx⟩ : ∃ x, Mf k i (-1) = x := ⟨_, rfl⟩
          rw [hx] at kp hF1
          have hBd := fun q => hB1.trans ((below_drewN (Below.refl wr.heap.size wr) q).mono hB1.size)
          have hHd := fun q => H1.step (below_drewN (Below.refl wr.heap.size wr) q)
          have hLd := fun q => L1.step (below_drewN (Below.refl wr.heap.size wr) q)
          have hlf := H1.lt
          have next : Kp (∀ fl : Bool, (fl = true ↔ (Flow c v h k i (-1) ∨ (vl = true ∧ Flow c v h k i (h i - 1)))) → (fl = false ∨ le t n k to = true) → ∀ a : Nat, a < k + 1 → ¬ (le t n a to = false ∧ (Flow c v h a i (-1) ∨ (vl = true ∧ Flow c v h a i (h i - 1))))) := ⟨fun fl hfl hor a ha hc2 => by
            by_cases e : a = k
            · subst e
              rcases hor with k | k
              · rw [hfl.2 hc2.2] at k; exact absurd k (by simp)
              · rw [k] at hc2; exact absurd hc2.1 (by simp)
            · exact hN.out a (by omega) hc2⟩
          have fnd : Kp (∀ fl : Bool, (fl = true ↔ (Flow c v h k i (-1) ∨ (vl = true ∧ Flow c v h k i (h i - 1)))) → fl = true → le t n k to = false → (true = true ↔ Breaks c v t n h i)) := ⟨fun fl hfl h1 h2 => ⟨fun _ => by rw [hBr.out]; exact ⟨⟨by omega, hi⟩, hlv.out, to0, k, ⟨by omega, hlt⟩, h2, hfl.1 h1⟩, fun _ => rfl⟩⟩
          have fin : Kp (∀ fl : Bool, (fl = true ↔ (Flow c v h k i (-1) ∨ (vl = true ∧ Flow c v h k i (h i - 1)))) → fl = true → le t n k to = true → ∀ a : Nat, a < k + 1 → ¬ (le t n a to = false ∧ (Flow c v h a i (-1) ∨ (vl = true ∧ Flow c v h a i (h i - 1))))) := ⟨fun fl hfl _ hle => next.out fl hfl (.inr hle)⟩
          have q0d := fun q => (hHd q).c0
          have q1d := fun q => (hHd q).c1
          cases x
          · cases vl
            · have hfl : Kp ((false = true) ↔ (Flow c v h k i (-1) ∨ (false = true ∧ Flow c v h k i (h i - 1)))) := ⟨⟨fun e => absurd e (by simp), fun e => by
                rcases e with e | e
                · exact hF1.2 e
                · exact absurd e.1 (by simp)⟩⟩
              have hnx := (⟨next.out false hfl.out (.inl rfl)⟩ : Kp _)
              clear next fnd fin hfl hF1 hF2 hN
              go_wp2_with fail
              go_quiet (fail)
              go_wp2_with fail
              go_quiet (fail)
              go_wp2_with fail
              go_roundw
              case rel => exact ⟨k + 1, by omega, by go_num, hHd _, hLd _, hBd _, hnx⟩
              case measure => simp [intOf]; omega
            · obtain ⟨hh0, hh8⟩ := hh1.out rfl
              obtain ⟨d1, hd1⟩ : ∃ d1 : Nat, h i - 1 = d1 := ⟨(h i - 1).toNat, by omega⟩
              have hhi : h i = d1 + 1 := by omega
              have q6 := H1.c6
              have qh := H1.h i (by omega)
              have ks := K.s i d1 (by omega) (by omega)
              have hd9 : (d1 : Int) < 9 := by omega
              rw [hhi] at qh
              replace hd1 : Kp _ := ⟨hd1⟩
              clear hhi hh1 hh0 hh8
              obtain ⟨y, hy⟩ : ∃ y, Mf k i d1 = y := ⟨_, rfl⟩
              rw [hy] at ks
              rw [hd1.out, hy] at hF2
              replace hy : Kp _ := ⟨hy⟩
              have hfl : Kp ((y = true) ↔ (Flow c v h k i (-1) ∨ (true = true ∧ Flow c v h k i (h i - 1)))) := ⟨by rw [hd1.out]; exact ⟨fun e => .inr ⟨rfl, hF2.1 e⟩, fun e => by
                rcases e with e | e
                · exact absurd (hF1.2 e) (by simp)
                · exact hF2.2 e.2⟩⟩
              clear hN hF1 hF2 hd1
              cases y
              · have hnx := (⟨next.out false hfl.out (.inl rfl)⟩ : Kp _)
                clear next fnd fin hfl
                go_wp2_with fail
                go_quiet (fail)
                go_wp2_with fail
                go_quiet (fail)
                go_wp2_with fail
                go_roundw
                case rel => exact ⟨k + 1, by omega, by go_num, hHd _, hLd _, hBd _, hnx⟩
                case measure => simp [intOf]; omega
              · cases hle : le t n k to with
                | true =>
                  have hnx := (⟨next.out true hfl.out (.inr hle)⟩ : Kp _)
                  have hu : Kp (∀ W : World, Calls Tryz.prog 57 #[.string t, .int .i64 n, .int .i64 k, .int .i64 to] W fun e w' => e = .returned (.bool true) ∧ w' = W) := ⟨fun W => by have := under_ref hT k to W (by omega) hlt to0 to1; rwa [hle] at this⟩
                  replace hle : Kp _ := ⟨hle⟩
                  clear next fnd fin hfl
                  go_wp2_with fail
                  go_quiet (fail)
                  have H5 := hHd nq
                  have L5 := hLd nq
                  have B5 := hBd nq
                  generalize wr.drewN nq = w5 at H5 L5 B5 ⊢
                  have r0 := H5.c0
                  have r1 := H5.c1
                  clear q0d q1d hHd hLd hBd q0 q1 k0 k1 kp K cm
                  go_wp2_with fail
                  go_quiet ((go_at_call 57; exact Calls.quiet_of_same (hu.out _)))
                  go_wp2_with fail
                  go_roundw
                  case rel => exact ⟨k + 1, by omega, by go_num, H5.step (below_drewN (Below.refl _ _) _), L5.step (below_drewN (Below.refl _ _) _), below_drewN B5 _, hnx⟩
                  case measure => simp [intOf]; omega
                | false =>
                  have hR := (⟨fnd.out true hfl.out rfl hle⟩ : Kp _)
                  have hu : Kp (∀ W : World, Calls Tryz.prog 57 #[.string t, .int .i64 n, .int .i64 k, .int .i64 to] W fun e w' => e = .returned (.bool false) ∧ w' = W) := ⟨fun W => by have := under_ref hT k to W (by omega) hlt to0 to1; rwa [hle] at this⟩
                  replace hle : Kp _ := ⟨hle⟩
                  clear next fnd fin hfl
                  go_wp2_with fail
                  go_quiet (fail)
                  have H5 := hHd nq
                  have L5 := hLd nq
                  have B5 := hBd nq
                  generalize wr.drewN nq = w5 at H5 L5 B5 ⊢
                  have r0 := H5.c0
                  have r1 := H5.c1
                  clear q0d q1d hHd hLd hBd q0 q1 k0 k1 kp K cm
                  go_wp2_with fail
                  go_quiet ((go_at_call 57; exact Calls.quiet_of_same (hu.out _)))
                  go_wp2_with fail
                  go_ret
                  exact ⟨true, rfl, ⟨⟨fun _ => hR.out.1 trivial, fun _ => rfl⟩⟩, below_drewN B5 _⟩
          · have hfl : Kp ((true = true) ↔ (Flow c v h k i (-1) ∨ (vl = true ∧ Flow c v h k i (h i - 1)))) := ⟨⟨fun _ => .inl (hF1.1 rfl), fun _ => rfl⟩⟩
            clear hN hF1 hF2
            cases hle : le t n k to with
            | true =>
              have hnx := (⟨next.out true hfl.out (.inr hle)⟩ : Kp _)
              have hu : Kp (∀ W : World, Calls Tryz.prog 57 #[.string t, .int .i64 n, .int .i64 k, .int .i64 to] W fun e w' => e = .returned (.bool true) ∧ w' = W) := ⟨fun W => by have := under_ref hT k to W (by omega) hlt to0 to1; rwa [hle] at this⟩
              replace hle : Kp _ := ⟨hle⟩
              clear next fnd fin hfl
              go_wp2_with fail
              go_quiet (fail)
              have H5 := hHd nq
              have L5 := hLd nq
              have B5 := hBd nq
              generalize wr.drewN nq = w5 at H5 L5 B5 ⊢
              have r0 := H5.c0
              have r1 := H5.c1
              clear q0d q1d hHd hLd hBd q0 q1 k0 k1 kp K cm
              go_wp2_with fail
              go_quiet ((go_at_call 57; exact Calls.quiet_of_same (hu.out _)))
              go_wp2_with fail
              go_roundw
              case rel => exact ⟨k + 1, by omega, by go_num, H5.step (below_drewN (Below.refl _ _) _), L5.step (below_drewN (Below.refl _ _) _), below_drewN B5 _, hnx⟩
              case measure => simp [intOf]; omega
            | false =>
              have hR := (⟨fnd.out true hfl.out rfl hle⟩ : Kp _)
              have hu : Kp (∀ W : World, Calls Tryz.prog 57 #[.string t, .int .i64 n, .int .i64 k, .int .i64 to] W fun e w' => e = .returned (.bool false) ∧ w' = W) := ⟨fun W => by have := under_ref hT k to W (by omega) hlt to0 to1; rwa [hle] at this⟩
              replace hle : Kp _ := ⟨hle⟩
              clear next fnd fin hfl
              go_wp2_with fail
              go_quiet (fail)
              have H5 := hHd nq
              have L5 := hLd nq
              have B5 := hBd nq
              generalize wr.drewN nq = w5 at H5 L5 B5 ⊢
              have r0 := H5.c0
              have r1 := H5.c1
              clear q0d q1d hHd hLd hBd q0 q1 k0 k1 kp K cm
              go_wp2_with fail
              go_quiet ((go_at_call 57; exact Calls.quiet_of_same (hu.out _)))
              go_wp2_with fail
              go_ret
              exact ⟨true, rfl, ⟨⟨fun _ => hR.out.1 trivial, fun _ => rfl⟩⟩, below_drewN B5 _⟩
        · have hR : Kp (false = true ↔ Breaks c v t n h i) := ⟨by
            rw [hBr.out]
            refine ⟨fun k => absurd k (by simp), fun hb => ?_⟩
            obtain ⟨_, _, _, a, ha, h1, h2⟩ := hb
            have e : ((a.toNat : Nat) : Int) = a := Int.toNat_of_nonneg ha.1
            have ha2 := ha.2
            exact absurd ⟨by rw [e]; exact h1, by rw [e]; exact h2⟩ (hN.out a.toNat (by omega))⟩
          go_wp2_with fail
          go_ret
          exact ⟨false, rfl, hR, hB1⟩
end Go.Proofs.YtcnbifdlkalimaaGreat
