/-
  The walk of the statement Renamed; for every text, tapes, fuel and shift.
-/
import Derived.Test.YtcnbifdlkalimaaKsC
import Derived.Test.YtcnbifdlkalimaaEqs0
import Derived.Deep.RegionHeld
import Derived.Outline
namespace Go.Proofs.Ytcnbifdlkalimaa
open Go.RowKit
set_option linter.unusedVariables false
set_option maxRecDepth 100000

theorem scanE_vals {s : ByteArray} (h : scanE s ≠ 0) : scanE s = 1 ∨ scanE s = 2 ∨ scanE s = 4 ∨ scanE s = 5 ∨ scanE s = 6 := by
  rcases scan_cases s with ⟨_, k⟩ | ⟨_, _, k⟩ | ⟨_, k2, k3, k⟩ | ⟨_, _, _, _, k⟩ | ⟨k1, k2, k3, k4, k5⟩
  · omega
  · omega
  · unfold fOk at k2
    rw [Bool.and_eq_true] at k2
    obtain ⟨_, _, j⟩ := fTab_tab k2.1
    unfold judgeE at j
    rw [← j] at k k3
    split at k
    · split at k
      · omega
      · omega
    · omega
  · omega
  · omega

theorem codeIs_vals {c v t : ByteArray} {n p e : Int} (h : CodeIs c v t n p e) : e = 7 ∨ e = 8 ∨ e = 9 ∨ e = 0 := by
  rcases h with ⟨a, _⟩ | ⟨_, h⟩
  · exact .inl a
  · rcases h with ⟨a, _⟩ | ⟨_, _, h⟩
    · exact .inr (.inl a)
    · rcases h with ⟨a, _⟩ | ⟨a, _⟩
      · exact .inr (.inr (.inl a))
      · exact .inr (.inr (.inr a))

/-- the two runs of Renamed -/
theorem ren_runs (s : ByteArray) (T : Int → ByteArray) (fr m x a : Nat) (p e : Int) (hs : s.size ≤ maxLen) (hC : CheckIs s p e) (h0 : scanE s = 0) (F : OtherF s fr m x) (hx : x < m ∨ m = 0 ∧ x = 0) (ha : a ≤ 20000) (hT : ∀ j : Nat, j < 6 → (T j).size ≤ maxLen) :
    ∃ (en st : Int) (y : Nat → ByteArray) (v u : ByteArray), (∀ W, Calls Try.prog 29 #[.string s, tapV T, .int .i64 a] W fun z w' => z = .returned (.tuple #[resA en st y v, .int .i64 e]) ∧ Below W.heap.size W w') ∧
      (∀ W, Calls Try.prog 29 #[.string (otherB s fr m x), tapV T, .int .i64 a] W fun z w' => z = .returned (.tuple #[resA en st y u, .int .i64 e]) ∧ Below W.heap.size W w') ∧ (e = 0 → v.size = m ∧ u = rollB v x) := by
  have hC2 := other_check hs F hx h0 hC
  have hs2 : (otherB s fr m x).size ≤ maxLen := by rw [F.size]; exact hs
  by_cases he : e = 0
  · subst he
    obtain ⟨_, rfl, h, P⟩ := check_ok hs hC
    obtain ⟨_, _, h', P'⟩ := check_ok hs2 hC2
    rw [F.ocode, F.ovars, F.tab, F.lv] at P'
    obtain ⟨g1, g2, g3, g4⟩ := other_run (T := T) hs F hx h0 P ⟨h', P'⟩ a
    refine ⟨endOf (fCode s) T a, cntOf (fCode s) T a, fun j => logOf (fCode s) T a j, varsOf (fCode s) (fVars s) T a, varsOf (shB (fCode s) m x) (rollB (fVars s) x) T a, fun W => prun_ok s T a W hs hC ha hT, fun W => ?_, fun _ => ⟨by rw [vars_size, F.vsz], g4.symm⟩⟩
    have := prun_ok (otherB s fr m x) T a W hs2 hC2 ha hT
    rw [resV_resA, F.ocode, F.ovars, g1, g2] at this
    have e3 : (fun j : Nat => logOf (shB (fCode s) m x) T a j) = (fun j : Nat => logOf (fCode s) T a j) := by funext j; exact g3 j
    rw [e3] at this
    exact this
  · exact ⟨0, 0, fun _ => { data := #[] }, { data := #[] }, { data := #[] }, fun W => prun_bad s T a p e W hs hC he hT, fun W => prun_bad _ T a p e W hs2 hC2 he hT, fun h => absurd h he⟩

theorem wrapB {x : Int} (h0 : -9223372036854775808 ≤ x) (h1 : x ≤ 9223372036854775807) : IntKind.i64.wrap x = x ∧ wrap64 x = x := by
  constructor
  · rw [IntKind.wrap_i64]; omega
  · unfold wrap64; omega

theorem share {P Q : Prop} (h : Kp P → Q) (p : P) : Q := h ⟨p⟩

set_option maxHeartbeats 12800000 in
theorem renamed_walk (s : ByteArray) (f1 sh : Int) (T : Int → ByteArray) (w : World) (hs : s.size ≤ maxLen) (c2 : -9223372036854775808 ≤ f1 ∧ f1 ≤ 9223372036854775807) (c3 : -9223372036854775808 ≤ sh ∧ sh ≤ 9223372036854775807) (hT : ∀ l : Nat, l < 6 → (T l).size ≤ maxLen) :
    Calls Try.prog 10 #[.string s, tapV T, .int .i64 f1, .int .i64 sh] w fun e w' => e = .returned (.bool true) ∧ Below w.heap.size w w' := by
  obtain ⟨wb, hwb⟩ : ∃ wb, wb = w.alloc (.cells #[.string (T 0), .string (T 1), .string (T 2), .string (T 3), .string (T 4), .string (T 5)] 49) := ⟨_, rfl⟩
  have A0 : TapAt wb w.heap.size (fun j => T j) := by rw [hwb]; exact TapAt.new w 49 (T 0) (T 1) (T 2) (T 3) (T 4) (T 5) (f := fun j => T j) ⟨rfl, rfl, rfl, rfl, rfl, rfl⟩
  have hB0 : Below w.heap.size w wb := by rw [hwb]; exact (Below.refl _ _).alloc (Nat.le_refl _) _
  replace hwb : Kp _ := ⟨hwb⟩
  replace A0 : Kp _ := ⟨A0⟩
  replace hB0 : Kp _ := ⟨hB0⟩
  obtain ⟨a, ha⟩ : ∃ a : Nat, pickF f1 20001 = a := ⟨(pickF f1 20001).toNat, by have := pickF_bd (c := f1) (n := 20001) (by omega); omega⟩
  have la : a ≤ 20000 := by have := pickF_bd (c := f1) (n := 20001) (by omega); omega
  have hP1 := fun W => pickN_any f1 20001 W c2 (by omega) (by omega)
  rw [ha] at hP1
  replace hP1 : Kp _ := ⟨hP1⟩
  replace ha : Kp _ := ⟨ha⟩
  have hT2 : Kp _ := ⟨hT⟩
  replace c3 : Kp _ := ⟨c3⟩
  clear hT c2
  unfold tapV
  go_enter Try.func10, Try.ntmps10
  go_wp2_with fail
  rw [← hwb.out]
  clear hwb
  refine (known_any _).mono ?_
  rintro e w1 ⟨rfl, b1⟩
  have A1 : Kp _ := ⟨A0.out.step b1⟩
  have hB1 : Kp _ := ⟨hB0.out.trans (b1.mono hB0.out.size)⟩
  clear A0 hB0 b1
  go_wp2_with fail
  refine (check_any s _ hs).mono ?_
  rintro e w2 ⟨p, e, rfl, hC, b1⟩
  have A2 : Kp _ := ⟨A1.out.step b1⟩
  have hB2 : Kp _ := ⟨hB1.out.trans (b1.mono hB1.out.size)⟩
  clear A1 hB1 b1
  by_cases h0 : scanE s = 0
  · have hev : e = 7 ∨ e = 8 ∨ e = 9 ∨ e = 0 := by
      rcases hC.out with ⟨q, _⟩ | ⟨_, q⟩
      · exact absurd h0 q
      · exact codeIs_vals q
    have FA := file_at h0
    obtain ⟨g0, g2, g3, g4, g5, g6⟩ := FA.bds
    have n0 := FA.n0
    have n6 := FA.n6
    have m0 := FA.m0
    have m8 := FA.m8
    have hsz := FA.sz
    have k0 := FA.k0
    have k9 := FA.k9
    obtain ⟨n, hn⟩ : ∃ n, bv s 1 = n := ⟨_, rfl⟩
    rw [hn] at n0 n6 m0 m8 g3 g4 g5 hsz
    obtain ⟨m, hm⟩ : ∃ m : Nat, (m : Int) = bv s (2 + n * n) := ⟨(bv s (2 + n * n)).toNat, by omega⟩
    obtain ⟨N, hN⟩ : ∃ N, n * n = N := ⟨_, rfl⟩
    rw [← hm] at m0 m8 g5 hsz
    rw [hN] at g3 g4 g5 hsz
    obtain ⟨fr, hfr⟩ : ∃ fr : Nat, (fr : Int) = 3 + N := ⟨(3 + N).toNat, by omega⟩
    obtain ⟨kk, hkk⟩ : ∃ kk : Nat, half (fCode s) = kk := ⟨(half (fCode s)).toNat, by omega⟩
    rw [hkk] at hsz k0 k9
    have hm1 := hm
    rw [hN] at hm1
    have hvr : 1 < s.size := g0
    have hv1 := bv_nat s 1 hvr
    rw [show ((1 : Nat) : Int) = 1 from rfl, hn] at hv1
    obtain ⟨fp, hfp⟩ : ∃ fp : Nat, (fr : Int) - 1 = fp := ⟨fr - 1, by omega⟩
    have hfs : fp < s.size := by omega
    have hvm := bv_nat s fp hfs
    rw [show ((fp : Nat) : Int) = 2 + N from by omega, ← hm1] at hvm
    obtain ⟨to, hto⟩ : ∃ to : Nat, (fr : Int) + m = to := ⟨fr + m, by omega⟩
    obtain ⟨x, hxm, hxp⟩ : ∃ x : Nat, (x < m ∨ m = 0 ∧ x = 0) ∧ (0 < m → pickF sh m = x) := by
      by_cases q : m = 0
      · exact ⟨0, .inr ⟨q, rfl⟩, fun h => absurd h (by omega)⟩
      · have := pickF_bd (c := sh) (n := m) (by omega)
        exact ⟨(pickF sh m).toNat, .inl (by omega), fun _ => by omega⟩
    have OF := other_ok (x := x) h0 (by rw [hn, hN]; exact hfr) (by rw [hn]; exact hm) hxm
    have hC2 := other_check hs OF hxm h0 hC.out
    obtain ⟨en, st, y, v, u, R1, R2, hvu⟩ := ren_runs s T fr m x a p e hs hC.out h0 OF hxm la hT2.out
    have hO2 : (otherB s fr m x).size ≤ maxLen := by rw [OF.size]; exact hs
    have hCk := fun W => check_any (otherB s fr m x) W hO2
    have hone : Kp (∀ q z, CheckIs (otherB s fr m x) q z → q = p ∧ z = e) := ⟨fun q z h => check_one (fun h => ranged_of (file_ok hO2 h).ok) h hC2⟩
    have hRo := fun W => rolled_any (fVars s) x W (by rw [OF.vsz]; omega) (by rw [OF.vsz]; exact hxm)
    have hSh := fun W => shifted_any (fCode s) m x kk W (by have := OF.code; rw [← this, ex_size _ (Nat.le_refl _)]; omega) (by omega) (by omega) (by omega) (by omega) (by rcases hxm with q | q <;> omega)
    have hRv := fun W (hz : v.size = m) => rolled_any v x W (by omega) (by rw [hz]; exact hxm)
    have zA : (s.extract 0 fr).size = fr := by rw [ex_size _ (by omega)]; omega
    have zR : (rollB (fVars s) x).size = m := by rw [rollB_size (by rw [OF.vsz]; rcases hxm with q | q <;> omega)]; exact OF.vsz
    have zK : (s.extract to (to + 1)).size = 1 := by rw [ex_size _ (by omega)]; omega
    have zC : (shB (fCode s) m x).size = 2 * kk := by rw [shB_size, hkk]; omega
    have eV : s.extract fr to = fVars s := by have := OF.vars; rw [show fr + m = to from by omega] at this; exact this
    have eC : s.extract (to + 1) s.size = fCode s := by have := OF.code; rw [show fr + m = to from by omega] at this; exact this
    have eO : otherB s fr m x = ((s.extract 0 fr ++ rollB (fVars s) x) ++ s.extract to (to + 1)) ++ shB (fCode s) m x := by
      unfold otherB
      rw [OF.vars, OF.code, show fr + m = to from by omega]
    rw [eO] at hCk R2 hone
    obtain ⟨AA, hAA⟩ : ∃ AA, s.extract 0 fr = AA := ⟨_, rfl⟩
    obtain ⟨RR, hRR⟩ : ∃ RR, rollB (fVars s) x = RR := ⟨_, rfl⟩
    obtain ⟨KK, hKK⟩ : ∃ KK, s.extract to (to + 1) = KK := ⟨_, rfl⟩
    obtain ⟨CC, hCC⟩ : ∃ CC, shB (fCode s) m x = CC := ⟨_, rfl⟩
    obtain ⟨VV, hVV⟩ : ∃ VV, fVars s = VV := ⟨_, rfl⟩
    obtain ⟨DD, hDD⟩ : ∃ DD, fCode s = DD := ⟨_, rfl⟩
    rw [hCC] at hSh zC hCk R2 hone
    rw [hRR] at hRo zR hCk R2 hone
    rw [hVV] at hRo eV
    rw [hDD] at hSh eC
    rw [hAA] at zA hCk R2 hone
    rw [hKK] at zK hCk R2 hone
    obtain ⟨A1, hA1⟩ : ∃ A1, AA ++ RR = A1 := ⟨_, rfl⟩
    obtain ⟨A2', hA2⟩ : ∃ A2', A1 ++ KK = A2' := ⟨_, rfl⟩
    obtain ⟨OO, hOO⟩ : ∃ OO, A2' ++ CC = OO := ⟨_, rfl⟩
    have z1 : A1.size = fr + m := by rw [← hA1, size_app, zA, zR]
    have z2 : A2'.size = fr + m + 1 := by rw [← hA2, size_app, z1, zK]
    rw [hA1, hA2, hOO] at hCk R2 hone
    have i1 : ¬ (9223372036854775807 : Int) < (AA.size : Int) + RR.size := by omega
    have i2 : ¬ (9223372036854775807 : Int) < (A1.size : Int) + KK.size := by omega
    have i3 : ¬ (9223372036854775807 : Int) < (A2'.size : Int) + CC.size := by omega
    have j1 : ¬ (9223372036854775807 : Int) < ((AA.size + RR.size : Nat) : Int) := by omega
    have j2 : ¬ (9223372036854775807 : Int) < ((A1.size + KK.size : Nat) : Int) := by omega
    have j3 : ¬ (9223372036854775807 : Int) < ((A2'.size + CC.size : Nat) : Int) := by omega
    unfold resA at R1 R2
    unfold tapV at R1 R2
    have hvu2 : Kp (e = 0 → v.size = m ∧ u = rollB v x) := ⟨hvu⟩
    replace hRv : Kp _ := ⟨hRv⟩
    replace R1 : Kp _ := ⟨R1⟩
    replace R2 : Kp _ := ⟨R2⟩
    replace hCk : Kp _ := ⟨hCk⟩
    replace hRo : Kp _ := ⟨hRo⟩
    replace hSh : Kp _ := ⟨hSh⟩
    have wn1 : wrap64 n = n := by unfold wrap64; omega
    have wn2 : IntKind.i64.wrap n = n := by rw [IntKind.wrap_i64]; omega
    have wN1 : wrap64 N = N := by unfold wrap64; omega
    have wN2 : IntKind.i64.wrap N = N := by rw [IntKind.wrap_i64]; omega
    have wf1 : wrap64 (3 + N) = fr := by unfold wrap64; omega
    have wf2 : IntKind.i64.wrap (3 + N) = fr := by rw [IntKind.wrap_i64]; omega
    have h1i : (1 : Int) < s.size := by omega
    have frs : (fr : Int) ≤ s.size := by omega
    have tos : (to : Int) < s.size := by omega
    have to1 : ((to + 1 : Nat) : Int) ≤ s.size := by omega
    have to1e : (to : Int) + 1 = ((to + 1 : Nat) : Int) := by omega
    have frto : (fr : Int) ≤ to := by omega
    have fpi : (fp : Int) < s.size := by omega
    have s448 : (s.size : Int) ≤ 448 := by omega
    have mi8 : (m : Int) ≤ 8 := by omega
    have d2 : decide ((s.size : Int) < 2) = false := decide_eq_false (by omega)
    replace hm : Kp _ := ⟨hm⟩
    replace hm1 : Kp _ := ⟨hm1⟩
    replace hfr : Kp _ := ⟨hfr⟩
    replace hkk : Kp _ := ⟨hkk⟩
    replace hsz : Kp _ := ⟨hsz⟩
    replace hn : Kp _ := ⟨hn⟩
    replace hxm : Kp _ := ⟨hxm⟩
    replace hxp : Kp _ := ⟨hxp⟩
    clear FA OF hC2 hC eO hCC hRR hVV hDD hvu zA zR zK zC z1 z2 hO2 h0 g2 g3 g4 g5 k0 k9 m0 m8 n0 n6
    have e1 : (e == 1) = false := beq_eq_false_iff_ne.2 (by omega)
    have e2 : (e == 2) = false := beq_eq_false_iff_ne.2 (by omega)
    have e4 : (e == 4) = false := beq_eq_false_iff_ne.2 (by omega)
    have e5 : (e == 5) = false := beq_eq_false_iff_ne.2 (by omega)
    have e6 : (e == 6) = false := beq_eq_false_iff_ne.2 (by omega)
    replace hev : Kp _ := ⟨hev⟩
    go_wp2_with fail
    go_quiet (fail)
    have A3 := A2.out.step (below_drewN (Below.refl _ _) nq)
    have hB3 := below_drewN hB2.out nq
    generalize w2.drewN nq = w3 at A3 hB3 ⊢
    replace A3 : Kp _ := ⟨A3⟩
    replace hB3 : Kp _ := ⟨hB3⟩
    clear A2 hB2 wn1 wn2 wN1 wN2 wf1 wf2 d2 e1 e2 e4 e5 e6 hv1
    by_cases hm0 : m = 0
    · have hx0 : x = 0 := by rcases hxm.out with q | q <;> omega
      have hmz : ¬ (0 : Int) < m := by omega
      subst hx0
      replace hm0 : Kp _ := ⟨hm0⟩
      go_wp2_with fail
      replace la : Kp _ := ⟨la⟩
      obtain ⟨t1, ht1⟩ : ∃ t1, to + 1 = t1 := ⟨_, rfl⟩
      have frsn : fr ≤ s.size := by omega
      have ton : fr ≤ to := by omega
      have tosn : t1 ≤ s.size := by omega
      have tot1 : to ≤ t1 := by omega
      have tosi : (t1 : Int) ≤ s.size := by omega
      have tot1i : (to : Int) ≤ t1 := by omega
      have tosn2 : to ≤ s.size := by omega
      have tosi2 : (to : Int) ≤ s.size := by omega
      have frsi : (fr : Int) ≤ s.size := by omega
      have t1e : (to : Int) + 1 = t1 := by omega
      have wtb := wrapB (x := (to : Int) + 1) (by omega) (by omega)
      have wt1 : wrap64 ((to : Int) + 1) = (t1 : Int) := wtb.2.trans t1e
      have wt2 : IntKind.i64.wrap ((to : Int) + 1) = (t1 : Int) := wtb.1.trans t1e
      clear wtb
      have eC2 : s.extract t1 s.size = DD := by rw [← ht1]; exact eC
      have hKK2 : s.extract to t1 = KK := by rw [← ht1]; exact hKK
      replace ht1 : Kp _ := ⟨ht1⟩
      clear eC hKK t1e
      clear hvm hmz hfs g0 g6 hvr h1i fpi s448 mi8 tos to1e hs hfp hto hN
      apply share
      · intro key
        go_region_held (fun _ => True) (trivial) (first
          | (go_at_call 32; refine (hRo.out _).mono ?_; rintro z w5 ⟨rfl, q5, hw5⟩; subst hw5)
          | (go_at_call 33; refine (hSh.out _).mono ?_; rintro z w6 ⟨rfl, b6⟩))
        all_goals
          have Bx : Kp (Below w3.heap.size w3 w6) := ⟨(below_drewN (Below.refl w3.heap.size w3) (1 + q5)).trans (b6.mono (below_drewN (Below.refl w3.heap.size w3) (1 + q5)).size)⟩
          clear b6
          revert Bx
          revert w6
          exact key.out
      intro w6 Bx
      have A4 : Kp _ := ⟨A3.out.step Bx.out⟩
      have hB4 : Kp _ := ⟨hB3.out.trans (Bx.out.mono hB3.out.size)⟩
      clear A3 hB3 Bx hRo hSh wt1 wt2 eC2 hKK2 hAA eV i1 i2 i3 j1 j2 j3 frs frto to1 frsn ton tosn tot1 tosi tot1i tosn2 tosi2 frsi hA1 hA2 hOO
      go_wp2_with fail
      refine (hCk.out _).mono ?_
      rintro z w7 ⟨q, z, rfl, hCq, b7⟩
      have hqp := (hone.out q z hCq.out).1.symm
      have hze := (hone.out q z hCq.out).2.symm
      subst hqp
      subst hze
      have A5 : Kp _ := ⟨A4.out.step b7⟩
      have hB5 : Kp _ := ⟨hB4.out.trans (b7.mono hB4.out.size)⟩
      clear A4 hB4 b7 hCk hone hCq
      have pp : (p != p) = false := by simp
      have ee : (e != e) = false := by simp
      go_wp2_with fail
      have t0 := A5.out.c 0 (by omega)
      have t1 := A5.out.c 1 (by omega)
      have t2 := A5.out.c 2 (by omega)
      have t3 := A5.out.c 3 (by omega)
      have t4 := A5.out.c 4 (by omega)
      have t5 := A5.out.c 5 (by omega)
      have hnw : w7.heap.size ≠ w.heap.size := Nat.ne_of_gt A5.out.lt
      apply share
      · intro key
        go_region_held (fun w' => w'.cell? ⟨w.heap.size, 0, none⟩ = some (.string (T 0)) ∧ w'.cell? ⟨w.heap.size, 1, none⟩ = some (.string (T 1)) ∧ w'.cell? ⟨w.heap.size, 2, none⟩ = some (.string (T 2)) ∧ w'.cell? ⟨w.heap.size, 3, none⟩ = some (.string (T 3)) ∧ w'.cell? ⟨w.heap.size, 4, none⟩ = some (.string (T 4)) ∧ w'.cell? ⟨w.heap.size, 5, none⟩ = some (.string (T 5))) (go_keep) (first
          | (go_at_call 22; refine (hP1.out _).mono ?_; rintro z w7 ⟨rfl, hw7⟩; subst hw7)
          | (go_at_call 29; refine (R1.out _).mono ?_; rintro z w8 ⟨rfl, b8⟩; (first | (have b9 : Below w7.heap.size w7 w8 := (Below.refl _ _).drew.trans b8; have A8 := A5.out.step b9; have r0 := A8.c 0 (by omega); have r1 := A8.c 1 (by omega); have r2 := A8.c 2 (by omega); have r3 := A8.c 3 (by omega); have r4 := A8.c 4 (by omega); have r5 := A8.c 5 (by omega)) | (have b9 : Below w7.heap.size w7 w8 := ((Below.refl _ _).alloc (Nat.le_refl _) _).drew.trans (b8.mono (by simp)); have A8 := A5.out.step b9; have r0 := A8.c 0 (by omega); have r1 := A8.c 1 (by omega); have r2 := A8.c 2 (by omega); have r3 := A8.c 3 (by omega); have r4 := A8.c 4 (by omega); have r5 := A8.c 5 (by omega); have X8 := (ResAt.new w7 51 0 0).step ((Below.refl _ _).drew.trans b8); have x0 := X8.c0; have x1 := X8.c1; have x2 := X8.cl 0 (by omega); have x3 := X8.cl 1 (by omega); have x4 := X8.cl 2 (by omega); have x5 := X8.cl 3 (by omega); have x6 := X8.cl 4 (by omega); have x7 := X8.cl 5 (by omega); have x8 := X8.cv; have z0 := X8.f 0 (by omega); have z1 := X8.f 1 (by omega); have z2 := X8.f 2 (by omega); have z3 := X8.f 3 (by omega); have z4 := X8.f 4 (by omega); have z5 := X8.f 5 (by omega); have z6 := X8.f 6 (by omega); have z7 := X8.f 7 (by omega); have z8 := X8.f 8 (by omega); have xl := X8.lt))))
        all_goals
          first
            | (have Xn := X8.fill en st y v
               have Bn := below_fill b9 w7.heap.size (Nat.le_refl _) en st y v
               rw [show ((((((((w8.setCell ⟨w7.heap.size, 0, none⟩ (.int .i64 en)).setCell ⟨w7.heap.size, 1, none⟩ (.int .i64 st)).setCell ⟨w7.heap.size, 2, none⟩ (.string (y 0))).setCell ⟨w7.heap.size, 3, none⟩ (.string (y 1))).setCell ⟨w7.heap.size, 4, none⟩ (.string (y 2))).setCell ⟨w7.heap.size, 5, none⟩ (.string (y 3))).setCell ⟨w7.heap.size, 6, none⟩ (.string (y 4))).setCell ⟨w7.heap.size, 7, none⟩ (.string (y 5))).setCell ⟨w7.heap.size, 8, none⟩ (.string v) = resFill w8 w7.heap.size en st y v from rfl]
               generalize resFill w8 w7.heap.size en st y v = w9 at Xn Bn ⊢
               obtain ⟨gr, hgn⟩ : ∃ g, g = w7.heap.size := ⟨_, rfl⟩
               rw [← hgn] at Xn ⊢
               clear hgn)
            | (have Xn := ResAt.box w8 51 en st y v
               have Bn : Below w7.heap.size w7 (w8.alloc (.cells #[.int .i64 en, .int .i64 st, .string (y 0), .string (y 1), .string (y 2), .string (y 3), .string (y 4), .string (y 5), .string v] 51)) := b9.alloc b9.size _
               generalize w8.alloc (.cells #[.int .i64 en, .int .i64 st, .string (y 0), .string (y 1), .string (y 2), .string (y 3), .string (y 4), .string (y 5), .string v] 51) = w9 at Xn Bn ⊢
               clear x0 x1 x2 x3 x4 x5 x6 x7 x8 z0 z1 z2 z3 z4 z5 z6 z7 z8 xl X8
               generalize w8.heap.size = gr at Xn ⊢)
            | (have Xn := ResAt.box w8 51 en st y v
               have Bn : Below w7.heap.size w7 (w8.alloc (.cells #[.int .i64 en, .int .i64 st, .string (y 0), .string (y 1), .string (y 2), .string (y 3), .string (y 4), .string (y 5), .string v] 51)) := b9.alloc b9.size _
               generalize w8.alloc (.cells #[.int .i64 en, .int .i64 st, .string (y 0), .string (y 1), .string (y 2), .string (y 3), .string (y 4), .string (y 5), .string v] 51) = w9 at Xn Bn ⊢
               generalize w8.heap.size = gr at Xn ⊢)
          replace Xn : Kp _ := ⟨Xn⟩
          replace Bn : Kp _ := ⟨Bn⟩
          revert Xn Bn
          revert gr w9
          exact key.out
      clear t0 t1 t2 t3 t4 t5 hnw
      intro w9 gr Xn Bn
      have A9 : Kp _ := ⟨A5.out.step Bn.out⟩
      have hB9 : Kp _ := ⟨hB5.out.trans (Bn.out.mono hB5.out.size)⟩
      have X9 := Xn
      clear A5 hB5 Bn R1 Xn
      go_wp2_with fail
      have t0 := A9.out.c 0 (by omega)
      have t1 := A9.out.c 1 (by omega)
      have t2 := A9.out.c 2 (by omega)
      have t3 := A9.out.c 3 (by omega)
      have t4 := A9.out.c 4 (by omega)
      have t5 := A9.out.c 5 (by omega)
      have hnw : w9.heap.size ≠ w.heap.size := Nat.ne_of_gt A9.out.lt
      apply share
      · intro key
        go_region_held (fun w' => w'.cell? ⟨w.heap.size, 0, none⟩ = some (.string (T 0)) ∧ w'.cell? ⟨w.heap.size, 1, none⟩ = some (.string (T 1)) ∧ w'.cell? ⟨w.heap.size, 2, none⟩ = some (.string (T 2)) ∧ w'.cell? ⟨w.heap.size, 3, none⟩ = some (.string (T 3)) ∧ w'.cell? ⟨w.heap.size, 4, none⟩ = some (.string (T 4)) ∧ w'.cell? ⟨w.heap.size, 5, none⟩ = some (.string (T 5))) (go_keep) (first
          | (go_at_call 22; refine (hP1.out _).mono ?_; rintro z w7 ⟨rfl, hw7⟩; subst hw7)
          | (go_at_call 29; refine (R2.out _).mono ?_; rintro z w8 ⟨rfl, b8⟩; (first | (have b9 : Below w9.heap.size w9 w8 := (Below.refl _ _).drew.trans b8; have A8 := A9.out.step b9; have r0 := A8.c 0 (by omega); have r1 := A8.c 1 (by omega); have r2 := A8.c 2 (by omega); have r3 := A8.c 3 (by omega); have r4 := A8.c 4 (by omega); have r5 := A8.c 5 (by omega)) | (have b9 : Below w9.heap.size w9 w8 := ((Below.refl _ _).alloc (Nat.le_refl _) _).drew.trans (b8.mono (by simp)); have A8 := A9.out.step b9; have r0 := A8.c 0 (by omega); have r1 := A8.c 1 (by omega); have r2 := A8.c 2 (by omega); have r3 := A8.c 3 (by omega); have r4 := A8.c 4 (by omega); have r5 := A8.c 5 (by omega); have X8 := (ResAt.new w9 51 0 0).step ((Below.refl _ _).drew.trans b8); have x0 := X8.c0; have x1 := X8.c1; have x2 := X8.cl 0 (by omega); have x3 := X8.cl 1 (by omega); have x4 := X8.cl 2 (by omega); have x5 := X8.cl 3 (by omega); have x6 := X8.cl 4 (by omega); have x7 := X8.cl 5 (by omega); have x8 := X8.cv; have z0 := X8.f 0 (by omega); have z1 := X8.f 1 (by omega); have z2 := X8.f 2 (by omega); have z3 := X8.f 3 (by omega); have z4 := X8.f 4 (by omega); have z5 := X8.f 5 (by omega); have z6 := X8.f 6 (by omega); have z7 := X8.f 7 (by omega); have z8 := X8.f 8 (by omega); have xl := X8.lt))))
        all_goals
          first
            | (have Xn := X8.fill en st y u
               have Bn := below_fill b9 w9.heap.size (Nat.le_refl _) en st y u
               rw [show ((((((((w8.setCell ⟨w9.heap.size, 0, none⟩ (.int .i64 en)).setCell ⟨w9.heap.size, 1, none⟩ (.int .i64 st)).setCell ⟨w9.heap.size, 2, none⟩ (.string (y 0))).setCell ⟨w9.heap.size, 3, none⟩ (.string (y 1))).setCell ⟨w9.heap.size, 4, none⟩ (.string (y 2))).setCell ⟨w9.heap.size, 5, none⟩ (.string (y 3))).setCell ⟨w9.heap.size, 6, none⟩ (.string (y 4))).setCell ⟨w9.heap.size, 7, none⟩ (.string (y 5))).setCell ⟨w9.heap.size, 8, none⟩ (.string u) = resFill w8 w9.heap.size en st y u from rfl]
               generalize resFill w8 w9.heap.size en st y u = w10 at Xn Bn ⊢
               obtain ⟨gs, hgn⟩ : ∃ g, g = w9.heap.size := ⟨_, rfl⟩
               rw [← hgn] at Xn ⊢
               clear hgn)
            | (have Xn := ResAt.box w8 51 en st y u
               have Bn : Below w9.heap.size w9 (w8.alloc (.cells #[.int .i64 en, .int .i64 st, .string (y 0), .string (y 1), .string (y 2), .string (y 3), .string (y 4), .string (y 5), .string u] 51)) := b9.alloc b9.size _
               generalize w8.alloc (.cells #[.int .i64 en, .int .i64 st, .string (y 0), .string (y 1), .string (y 2), .string (y 3), .string (y 4), .string (y 5), .string u] 51) = w10 at Xn Bn ⊢
               clear x0 x1 x2 x3 x4 x5 x6 x7 x8 z0 z1 z2 z3 z4 z5 z6 z7 z8 xl X8
               generalize w8.heap.size = gs at Xn ⊢)
            | (have Xn := ResAt.box w8 51 en st y u
               have Bn : Below w9.heap.size w9 (w8.alloc (.cells #[.int .i64 en, .int .i64 st, .string (y 0), .string (y 1), .string (y 2), .string (y 3), .string (y 4), .string (y 5), .string u] 51)) := b9.alloc b9.size _
               generalize w8.alloc (.cells #[.int .i64 en, .int .i64 st, .string (y 0), .string (y 1), .string (y 2), .string (y 3), .string (y 4), .string (y 5), .string u] 51) = w10 at Xn Bn ⊢
               generalize w8.heap.size = gs at Xn ⊢)
          replace Xn : Kp _ := ⟨Xn⟩
          replace Bn : Kp _ := ⟨Bn⟩
          revert Xn Bn
          revert gs w10
          exact key.out
      clear t0 t1 t2 t3 t4 t5 hnw
      intro w10 gs Xn Bn
      have X10 := X9.out.step Bn.out
      have hB10 := hB9.out.trans (Bn.out.mono hB9.out.size)
      replace hB10 : Kp _ := ⟨hB10⟩
      clear A9 hB9 Bn R2 hP1 X9
      by_cases he0 : e = 0
      · subst he0
        obtain ⟨hvz, huv⟩ := hvu2.out rfl
        subst huv
        have hRw : Kp _ := ⟨fun W => hRv.out W hvz⟩
        have hvm : ((v.size : Int) == (m : Int)) = true := by rw [hvz]; simp
        clear hvu2 hRv hev
        have hX := X10.lt
        have hY := Xn.out.lt
        have p0 := X10.c0
        have q0 := Xn.out.c0
        have p1 := X10.c1
        have q1 := Xn.out.c1
        have p2 := X10.cl 0 (by omega)
        have q2 := Xn.out.cl 0 (by omega)
        have p3 := X10.cl 1 (by omega)
        have q3 := Xn.out.cl 1 (by omega)
        have p4 := X10.cl 2 (by omega)
        have q4 := Xn.out.cl 2 (by omega)
        have p5 := X10.cl 3 (by omega)
        have q5 := Xn.out.cl 3 (by omega)
        have p6 := X10.cl 4 (by omega)
        have q6 := Xn.out.cl 4 (by omega)
        have p7 := X10.cl 5 (by omega)
        have q7 := Xn.out.cl 5 (by omega)
        have p8 := X10.cv
        have q8 := Xn.out.cv
        clear X10 Xn
        replace hvz : Kp _ := ⟨hvz⟩
        have hQ : ∀ (y0 y1 y2 y3 y4 y5 : ByteArray) (w : World), (Op.equalIn 10000 49 (.agg #[.string y0, .string y1, .string y2, .string y3, .string y4, .string y5]) (.agg #[.string y0, .string y1, .string y2, .string y3, .string y4, .string y5])).run Try.prog w = .ok true w := eq_tapes 9998
        obtain ⟨u, hu⟩ : ∃ u, rollB v 0 = u := ⟨_, rfl⟩
        rw [hu] at hRw q8
        replace hu : Kp _ := ⟨hu⟩
        go_wp2_with fail
        go_quiet ((go_at_call 32; exact Calls.quiet_of (hRw.out _)))
        go_wp2_with fail
        go_ret
        exact ⟨ret_bool (by simp), below_drewN hB10.out _⟩
      · have hk : (e != 0) = true := bne_iff_ne.2 he0
        clear X10 Xn
        go_wp2_with fail
        go_ret
        exact ⟨rfl, hB10.out⟩
    · have hmz : (0 : Int) < m := by omega
      have hPx := fun W => pickN_any sh m W c3.out (by omega) (by omega)
      rw [hxp.out (by omega)] at hPx
      replace hPx : Kp _ := ⟨hPx⟩
      go_wp2_with fail
      refine (hPx.out _).mono ?_
      rintro z w4 ⟨rfl, hw4⟩
      have hw5 := hw4.symm
      clear hw4
      subst hw5
      go_wp2_with fail
      replace la : Kp _ := ⟨la⟩
      obtain ⟨t1, ht1⟩ : ∃ t1, to + 1 = t1 := ⟨_, rfl⟩
      have frsn : fr ≤ s.size := by omega
      have ton : fr ≤ to := by omega
      have tosn : t1 ≤ s.size := by omega
      have tot1 : to ≤ t1 := by omega
      have tosi : (t1 : Int) ≤ s.size := by omega
      have tot1i : (to : Int) ≤ t1 := by omega
      have tosn2 : to ≤ s.size := by omega
      have tosi2 : (to : Int) ≤ s.size := by omega
      have frsi : (fr : Int) ≤ s.size := by omega
      have t1e : (to : Int) + 1 = t1 := by omega
      have wtb := wrapB (x := (to : Int) + 1) (by omega) (by omega)
      have wt1 : wrap64 ((to : Int) + 1) = (t1 : Int) := wtb.2.trans t1e
      have wt2 : IntKind.i64.wrap ((to : Int) + 1) = (t1 : Int) := wtb.1.trans t1e
      clear wtb
      have eC2 : s.extract t1 s.size = DD := by rw [← ht1]; exact eC
      have hKK2 : s.extract to t1 = KK := by rw [← ht1]; exact hKK
      replace ht1 : Kp _ := ⟨ht1⟩
      clear eC hKK t1e
      clear hvm hmz hfs g0 g6 hvr h1i fpi s448 mi8 tos to1e hs hfp hto hN
      apply share
      · intro key
        go_region_held (fun _ => True) (trivial) (first
          | (go_at_call 32; refine (hRo.out _).mono ?_; rintro z w5 ⟨rfl, q5, hw5⟩; subst hw5)
          | (go_at_call 33; refine (hSh.out _).mono ?_; rintro z w6 ⟨rfl, b6⟩))
        all_goals
          have Bx : Kp (Below w3.heap.size w3 w6) := ⟨(below_drewN (Below.refl w3.heap.size w3) (1 + q5)).trans (b6.mono (below_drewN (Below.refl w3.heap.size w3) (1 + q5)).size)⟩
          clear b6
          revert Bx
          revert w6
          exact key.out
      intro w6 Bx
      have A4 : Kp _ := ⟨A3.out.step Bx.out⟩
      have hB4 : Kp _ := ⟨hB3.out.trans (Bx.out.mono hB3.out.size)⟩
      clear A3 hB3 Bx hRo hSh wt1 wt2 eC2 hKK2 hAA eV i1 i2 i3 j1 j2 j3 frs frto to1 frsn ton tosn tot1 tosi tot1i tosn2 tosi2 frsi hA1 hA2 hOO
      go_wp2_with fail
      refine (hCk.out _).mono ?_
      rintro z w7 ⟨q, z, rfl, hCq, b7⟩
      have hqp := (hone.out q z hCq.out).1.symm
      have hze := (hone.out q z hCq.out).2.symm
      subst hqp
      subst hze
      have A5 : Kp _ := ⟨A4.out.step b7⟩
      have hB5 : Kp _ := ⟨hB4.out.trans (b7.mono hB4.out.size)⟩
      clear A4 hB4 b7 hCk hone hCq
      have pp : (p != p) = false := by simp
      have ee : (e != e) = false := by simp
      go_wp2_with fail
      have t0 := A5.out.c 0 (by omega)
      have t1 := A5.out.c 1 (by omega)
      have t2 := A5.out.c 2 (by omega)
      have t3 := A5.out.c 3 (by omega)
      have t4 := A5.out.c 4 (by omega)
      have t5 := A5.out.c 5 (by omega)
      have hnw : w7.heap.size ≠ w.heap.size := Nat.ne_of_gt A5.out.lt
      apply share
      · intro key
        go_region_held (fun w' => w'.cell? ⟨w.heap.size, 0, none⟩ = some (.string (T 0)) ∧ w'.cell? ⟨w.heap.size, 1, none⟩ = some (.string (T 1)) ∧ w'.cell? ⟨w.heap.size, 2, none⟩ = some (.string (T 2)) ∧ w'.cell? ⟨w.heap.size, 3, none⟩ = some (.string (T 3)) ∧ w'.cell? ⟨w.heap.size, 4, none⟩ = some (.string (T 4)) ∧ w'.cell? ⟨w.heap.size, 5, none⟩ = some (.string (T 5))) (go_keep) (first
          | (go_at_call 22; refine (hP1.out _).mono ?_; rintro z w7 ⟨rfl, hw7⟩; subst hw7)
          | (go_at_call 29; refine (R1.out _).mono ?_; rintro z w8 ⟨rfl, b8⟩; (first | (have b9 : Below w7.heap.size w7 w8 := (Below.refl _ _).drew.trans b8; have A8 := A5.out.step b9; have r0 := A8.c 0 (by omega); have r1 := A8.c 1 (by omega); have r2 := A8.c 2 (by omega); have r3 := A8.c 3 (by omega); have r4 := A8.c 4 (by omega); have r5 := A8.c 5 (by omega)) | (have b9 : Below w7.heap.size w7 w8 := ((Below.refl _ _).alloc (Nat.le_refl _) _).drew.trans (b8.mono (by simp)); have A8 := A5.out.step b9; have r0 := A8.c 0 (by omega); have r1 := A8.c 1 (by omega); have r2 := A8.c 2 (by omega); have r3 := A8.c 3 (by omega); have r4 := A8.c 4 (by omega); have r5 := A8.c 5 (by omega); have X8 := (ResAt.new w7 51 0 0).step ((Below.refl _ _).drew.trans b8); have x0 := X8.c0; have x1 := X8.c1; have x2 := X8.cl 0 (by omega); have x3 := X8.cl 1 (by omega); have x4 := X8.cl 2 (by omega); have x5 := X8.cl 3 (by omega); have x6 := X8.cl 4 (by omega); have x7 := X8.cl 5 (by omega); have x8 := X8.cv; have z0 := X8.f 0 (by omega); have z1 := X8.f 1 (by omega); have z2 := X8.f 2 (by omega); have z3 := X8.f 3 (by omega); have z4 := X8.f 4 (by omega); have z5 := X8.f 5 (by omega); have z6 := X8.f 6 (by omega); have z7 := X8.f 7 (by omega); have z8 := X8.f 8 (by omega); have xl := X8.lt))))
        all_goals
          first
            | (have Xn := X8.fill en st y v
               have Bn := below_fill b9 w7.heap.size (Nat.le_refl _) en st y v
               rw [show ((((((((w8.setCell ⟨w7.heap.size, 0, none⟩ (.int .i64 en)).setCell ⟨w7.heap.size, 1, none⟩ (.int .i64 st)).setCell ⟨w7.heap.size, 2, none⟩ (.string (y 0))).setCell ⟨w7.heap.size, 3, none⟩ (.string (y 1))).setCell ⟨w7.heap.size, 4, none⟩ (.string (y 2))).setCell ⟨w7.heap.size, 5, none⟩ (.string (y 3))).setCell ⟨w7.heap.size, 6, none⟩ (.string (y 4))).setCell ⟨w7.heap.size, 7, none⟩ (.string (y 5))).setCell ⟨w7.heap.size, 8, none⟩ (.string v) = resFill w8 w7.heap.size en st y v from rfl]
               generalize resFill w8 w7.heap.size en st y v = w9 at Xn Bn ⊢
               obtain ⟨gr, hgn⟩ : ∃ g, g = w7.heap.size := ⟨_, rfl⟩
               rw [← hgn] at Xn ⊢
               clear hgn)
            | (have Xn := ResAt.box w8 51 en st y v
               have Bn : Below w7.heap.size w7 (w8.alloc (.cells #[.int .i64 en, .int .i64 st, .string (y 0), .string (y 1), .string (y 2), .string (y 3), .string (y 4), .string (y 5), .string v] 51)) := b9.alloc b9.size _
               generalize w8.alloc (.cells #[.int .i64 en, .int .i64 st, .string (y 0), .string (y 1), .string (y 2), .string (y 3), .string (y 4), .string (y 5), .string v] 51) = w9 at Xn Bn ⊢
               clear x0 x1 x2 x3 x4 x5 x6 x7 x8 z0 z1 z2 z3 z4 z5 z6 z7 z8 xl X8
               generalize w8.heap.size = gr at Xn ⊢)
            | (have Xn := ResAt.box w8 51 en st y v
               have Bn : Below w7.heap.size w7 (w8.alloc (.cells #[.int .i64 en, .int .i64 st, .string (y 0), .string (y 1), .string (y 2), .string (y 3), .string (y 4), .string (y 5), .string v] 51)) := b9.alloc b9.size _
               generalize w8.alloc (.cells #[.int .i64 en, .int .i64 st, .string (y 0), .string (y 1), .string (y 2), .string (y 3), .string (y 4), .string (y 5), .string v] 51) = w9 at Xn Bn ⊢
               generalize w8.heap.size = gr at Xn ⊢)
          replace Xn : Kp _ := ⟨Xn⟩
          replace Bn : Kp _ := ⟨Bn⟩
          revert Xn Bn
          revert gr w9
          exact key.out
      clear t0 t1 t2 t3 t4 t5 hnw
      intro w9 gr Xn Bn
      have A9 : Kp _ := ⟨A5.out.step Bn.out⟩
      have hB9 : Kp _ := ⟨hB5.out.trans (Bn.out.mono hB5.out.size)⟩
      have X9 := Xn
      clear A5 hB5 Bn R1 Xn
      go_wp2_with fail
      have t0 := A9.out.c 0 (by omega)
      have t1 := A9.out.c 1 (by omega)
      have t2 := A9.out.c 2 (by omega)
      have t3 := A9.out.c 3 (by omega)
      have t4 := A9.out.c 4 (by omega)
      have t5 := A9.out.c 5 (by omega)
      have hnw : w9.heap.size ≠ w.heap.size := Nat.ne_of_gt A9.out.lt
      apply share
      · intro key
        go_region_held (fun w' => w'.cell? ⟨w.heap.size, 0, none⟩ = some (.string (T 0)) ∧ w'.cell? ⟨w.heap.size, 1, none⟩ = some (.string (T 1)) ∧ w'.cell? ⟨w.heap.size, 2, none⟩ = some (.string (T 2)) ∧ w'.cell? ⟨w.heap.size, 3, none⟩ = some (.string (T 3)) ∧ w'.cell? ⟨w.heap.size, 4, none⟩ = some (.string (T 4)) ∧ w'.cell? ⟨w.heap.size, 5, none⟩ = some (.string (T 5))) (go_keep) (first
          | (go_at_call 22; refine (hP1.out _).mono ?_; rintro z w7 ⟨rfl, hw7⟩; subst hw7)
          | (go_at_call 29; refine (R2.out _).mono ?_; rintro z w8 ⟨rfl, b8⟩; (first | (have b9 : Below w9.heap.size w9 w8 := (Below.refl _ _).drew.trans b8; have A8 := A9.out.step b9; have r0 := A8.c 0 (by omega); have r1 := A8.c 1 (by omega); have r2 := A8.c 2 (by omega); have r3 := A8.c 3 (by omega); have r4 := A8.c 4 (by omega); have r5 := A8.c 5 (by omega)) | (have b9 : Below w9.heap.size w9 w8 := ((Below.refl _ _).alloc (Nat.le_refl _) _).drew.trans (b8.mono (by simp)); have A8 := A9.out.step b9; have r0 := A8.c 0 (by omega); have r1 := A8.c 1 (by omega); have r2 := A8.c 2 (by omega); have r3 := A8.c 3 (by omega); have r4 := A8.c 4 (by omega); have r5 := A8.c 5 (by omega); have X8 := (ResAt.new w9 51 0 0).step ((Below.refl _ _).drew.trans b8); have x0 := X8.c0; have x1 := X8.c1; have x2 := X8.cl 0 (by omega); have x3 := X8.cl 1 (by omega); have x4 := X8.cl 2 (by omega); have x5 := X8.cl 3 (by omega); have x6 := X8.cl 4 (by omega); have x7 := X8.cl 5 (by omega); have x8 := X8.cv; have z0 := X8.f 0 (by omega); have z1 := X8.f 1 (by omega); have z2 := X8.f 2 (by omega); have z3 := X8.f 3 (by omega); have z4 := X8.f 4 (by omega); have z5 := X8.f 5 (by omega); have z6 := X8.f 6 (by omega); have z7 := X8.f 7 (by omega); have z8 := X8.f 8 (by omega); have xl := X8.lt))))
        all_goals
          first
            | (have Xn := X8.fill en st y u
               have Bn := below_fill b9 w9.heap.size (Nat.le_refl _) en st y u
               rw [show ((((((((w8.setCell ⟨w9.heap.size, 0, none⟩ (.int .i64 en)).setCell ⟨w9.heap.size, 1, none⟩ (.int .i64 st)).setCell ⟨w9.heap.size, 2, none⟩ (.string (y 0))).setCell ⟨w9.heap.size, 3, none⟩ (.string (y 1))).setCell ⟨w9.heap.size, 4, none⟩ (.string (y 2))).setCell ⟨w9.heap.size, 5, none⟩ (.string (y 3))).setCell ⟨w9.heap.size, 6, none⟩ (.string (y 4))).setCell ⟨w9.heap.size, 7, none⟩ (.string (y 5))).setCell ⟨w9.heap.size, 8, none⟩ (.string u) = resFill w8 w9.heap.size en st y u from rfl]
               generalize resFill w8 w9.heap.size en st y u = w10 at Xn Bn ⊢
               obtain ⟨gs, hgn⟩ : ∃ g, g = w9.heap.size := ⟨_, rfl⟩
               rw [← hgn] at Xn ⊢
               clear hgn)
            | (have Xn := ResAt.box w8 51 en st y u
               have Bn : Below w9.heap.size w9 (w8.alloc (.cells #[.int .i64 en, .int .i64 st, .string (y 0), .string (y 1), .string (y 2), .string (y 3), .string (y 4), .string (y 5), .string u] 51)) := b9.alloc b9.size _
               generalize w8.alloc (.cells #[.int .i64 en, .int .i64 st, .string (y 0), .string (y 1), .string (y 2), .string (y 3), .string (y 4), .string (y 5), .string u] 51) = w10 at Xn Bn ⊢
               clear x0 x1 x2 x3 x4 x5 x6 x7 x8 z0 z1 z2 z3 z4 z5 z6 z7 z8 xl X8
               generalize w8.heap.size = gs at Xn ⊢)
            | (have Xn := ResAt.box w8 51 en st y u
               have Bn : Below w9.heap.size w9 (w8.alloc (.cells #[.int .i64 en, .int .i64 st, .string (y 0), .string (y 1), .string (y 2), .string (y 3), .string (y 4), .string (y 5), .string u] 51)) := b9.alloc b9.size _
               generalize w8.alloc (.cells #[.int .i64 en, .int .i64 st, .string (y 0), .string (y 1), .string (y 2), .string (y 3), .string (y 4), .string (y 5), .string u] 51) = w10 at Xn Bn ⊢
               generalize w8.heap.size = gs at Xn ⊢)
          replace Xn : Kp _ := ⟨Xn⟩
          replace Bn : Kp _ := ⟨Bn⟩
          revert Xn Bn
          revert gs w10
          exact key.out
      clear t0 t1 t2 t3 t4 t5 hnw
      intro w10 gs Xn Bn
      have X10 := X9.out.step Bn.out
      have hB10 := hB9.out.trans (Bn.out.mono hB9.out.size)
      replace hB10 : Kp _ := ⟨hB10⟩
      clear A9 hB9 Bn R2 hP1 X9
      by_cases he0 : e = 0
      · subst he0
        obtain ⟨hvz, huv⟩ := hvu2.out rfl
        subst huv
        have hRw : Kp _ := ⟨fun W => hRv.out W hvz⟩
        have hvm : ((v.size : Int) == (m : Int)) = true := by rw [hvz]; simp
        clear hvu2 hRv hev
        have hX := X10.lt
        have hY := Xn.out.lt
        have p0 := X10.c0
        have q0 := Xn.out.c0
        have p1 := X10.c1
        have q1 := Xn.out.c1
        have p2 := X10.cl 0 (by omega)
        have q2 := Xn.out.cl 0 (by omega)
        have p3 := X10.cl 1 (by omega)
        have q3 := Xn.out.cl 1 (by omega)
        have p4 := X10.cl 2 (by omega)
        have q4 := Xn.out.cl 2 (by omega)
        have p5 := X10.cl 3 (by omega)
        have q5 := Xn.out.cl 3 (by omega)
        have p6 := X10.cl 4 (by omega)
        have q6 := Xn.out.cl 4 (by omega)
        have p7 := X10.cl 5 (by omega)
        have q7 := Xn.out.cl 5 (by omega)
        have p8 := X10.cv
        have q8 := Xn.out.cv
        clear X10 Xn
        replace hvz : Kp _ := ⟨hvz⟩
        have hQ : ∀ (y0 y1 y2 y3 y4 y5 : ByteArray) (w : World), (Op.equalIn 10000 49 (.agg #[.string y0, .string y1, .string y2, .string y3, .string y4, .string y5]) (.agg #[.string y0, .string y1, .string y2, .string y3, .string y4, .string y5])).run Try.prog w = .ok true w := eq_tapes 9998
        obtain ⟨u, hu⟩ : ∃ u, rollB v x = u := ⟨_, rfl⟩
        rw [hu] at hRw q8
        replace hu : Kp _ := ⟨hu⟩
        go_wp2_with fail
        go_quiet ((go_at_call 32; exact Calls.quiet_of (hRw.out _)))
        go_wp2_with fail
        go_ret
        exact ⟨ret_bool (by simp), below_drewN hB10.out _⟩
      · have hk : (e != 0) = true := bne_iff_ne.2 he0
        clear X10 Xn
        go_wp2_with fail
        go_ret
        exact ⟨rfl, hB10.out⟩
  · have hpe : p = 0 ∧ e = scanE s := by
      rcases hC.out with ⟨_, q1, q2⟩ | ⟨q, _⟩
      · exact ⟨q1, q2⟩
      · exact absurd q h0
    obtain ⟨rfl, hee⟩ := hpe
    have hv := scanE_vals h0
    rw [← hee] at hv
    replace hC : Kp _ := ⟨hC.out⟩
    clear hee h0
    rcases hv with rfl | rfl | rfl | rfl | rfl
    all_goals
      go_wp2_with fail
      go_ret
      exact ⟨rfl, hB2.out⟩
end Go.Proofs.Ytcnbifdlkalimaa
