/-
  The walk of the statement Secret; for every text, level, tapes and fuels.
-/
import Derived.Test.YtcnbifdlkalimaaKsB
import Derived.Deep.RegionHeld
namespace Go.Proofs.Ytcnbifdlkalimaa
open Go.RowKit
set_option linter.unusedVariables false
set_option maxRecDepth 100000

set_option maxHeartbeats 3200000 in
theorem secret_walk (s : ByteArray) (a1 f1 f2 : Int) (T U : Int → ByteArray) (w : World) (hs : s.size ≤ maxLen) (c1 : -9223372036854775808 ≤ a1 ∧ a1 ≤ 9223372036854775807) (c2 : -9223372036854775808 ≤ f1 ∧ f1 ≤ 9223372036854775807) (c3 : -9223372036854775808 ≤ f2 ∧ f2 ≤ 9223372036854775807) (hT : ∀ l : Nat, l < 6 → (T l).size ≤ maxLen) (hU : ∀ l : Nat, l < 6 → (U l).size ≤ maxLen) :
    Calls Try.prog 7 #[.string s, .int .i64 a1, tapV T, tapV U, .int .i64 f1, .int .i64 f2] w fun e w' => e = .returned (.bool true) ∧ Below w.heap.size w w' := by
  obtain ⟨wb, hwb⟩ : ∃ wb, wb = (w.alloc (.cells #[.string (T 0), .string (T 1), .string (T 2), .string (T 3), .string (T 4), .string (T 5)] 49)).alloc (.cells #[.string (U 0), .string (U 1), .string (U 2), .string (U 3), .string (U 4), .string (U 5)] 49) := ⟨_, rfl⟩
  have A0 : TapAt wb w.heap.size (fun j => T j) := by rw [hwb]; exact (TapAt.new w 49 (T 0) (T 1) (T 2) (T 3) (T 4) (T 5) (f := fun j => T j) ⟨rfl, rfl, rfl, rfl, rfl, rfl⟩).step ((Below.refl _ _).alloc (Nat.le_refl _) _)
  have B0 : TapAt wb (w.heap.size + 1) (fun j => U j) := by
    rw [hwb]
    have := TapAt.new (w.alloc (.cells #[.string (T 0), .string (T 1), .string (T 2), .string (T 3), .string (T 4), .string (T 5)] 49)) 49 (U 0) (U 1) (U 2) (U 3) (U 4) (U 5) (f := fun j => U j) ⟨rfl, rfl, rfl, rfl, rfl, rfl⟩
    simpa using this
  have hB0 : Below w.heap.size w wb := by rw [hwb]; exact ((Below.refl _ _).alloc (Nat.le_refl _) _).alloc (by simp) _
  replace hwb : Kp _ := ⟨hwb⟩
  replace A0 : Kp _ := ⟨A0⟩
  replace B0 : Kp _ := ⟨B0⟩
  replace hB0 : Kp _ := ⟨hB0⟩
  replace hT : Kp _ := ⟨hT⟩
  replace hU : Kp _ := ⟨hU⟩
  unfold tapV
  go_enter Try.func7, Try.ntmps7
  go_wp2_with fail
  rw [← hwb.out]
  clear hwb
  refine (known_any _).mono ?_
  rintro e w1 ⟨rfl, b1⟩
  have A1 : Kp _ := ⟨A0.out.step b1⟩
  have B1 : Kp _ := ⟨B0.out.step b1⟩
  have hB1 : Kp _ := ⟨hB0.out.trans (b1.mono hB0.out.size)⟩
  clear A0 B0 hB0 b1
  go_wp2_with fail
  refine (check_any s _ hs).mono ?_
  rintro e w2 ⟨p, x, rfl, hC, b1⟩
  have A2 : Kp _ := ⟨A1.out.step b1⟩
  have B2 : Kp _ := ⟨B1.out.step b1⟩
  have hB2 : Kp _ := ⟨hB1.out.trans (b1.mono hB1.out.size)⟩
  clear A1 B1 hB1 b1
  by_cases hx : x = 0
  · subst hx
    obtain ⟨hsc, rfl, hgt, P⟩ := check_ok hs hC.out
    have F := file_ok hs hsc
    have FA := file_at hsc
    have hvm : ((fVars s).size : Int) = bv s (2 + bv s 1 * bv s 1) := by
      rw [FA.vars]
      have hb := FA.bds
      have hm0 := FA.m0
      exact hd_size hm0 (by rw [tl_size (by omega) (by omega)]; omega)
    obtain ⟨g0, g2, g3, g4, g5, g6⟩ := FA.bds
    have n0 := FA.n0
    have n6 := FA.n6
    have hv := bv_nat s 1 g0
    rw [show ((1 : Nat) : Int) = 1 from rfl] at hv
    have hSc := fun W => scan_yes s W hs hsc
    obtain ⟨n, hn⟩ : ∃ n, bv s 1 = n := ⟨_, rfl⟩
    rw [hn] at hv hSc n0 n6 g3 g4 g5
    obtain ⟨o, ho⟩ : ∃ o, pickF a1 n = o := ⟨_, rfl⟩
    obtain ⟨o0, o1⟩ := pickF_bd (c := a1) (n := n) n0
    rw [ho] at o0 o1
    have hPk := fun W => pickN_any a1 n W c1 n0 (by omega)
    rw [ho] at hPk
    obtain ⟨k1, hk1⟩ : ∃ k1 : Nat, pickF f1 20001 = k1 := ⟨(pickF f1 20001).toNat, by have := pickF_bd (c := f1) (n := 20001) (by omega); omega⟩
    obtain ⟨k2, hk2⟩ : ∃ k2 : Nat, pickF f2 20001 = k2 := ⟨(pickF f2 20001).toNat, by have := pickF_bd (c := f2) (n := 20001) (by omega); omega⟩
    have l1 : k1 ≤ 20000 := by have := pickF_bd (c := f1) (n := 20001) (by omega); omega
    have l2 : k2 ≤ 20000 := by have := pickF_bd (c := f2) (n := 20001) (by omega); omega
    have hP1 := fun W => pickN_any f1 20001 W c2 (by omega) (by omega)
    have hP2 := fun W => pickN_any f2 20001 W c3 (by omega) (by omega)
    rw [hk1] at hP1
    rw [hk2] at hP2
    have hUd := fun (l : Int) W (h0 : 0 ≤ l) (h1 : l < n) => kunder_any (by rw [hn] at FA; exact FA) l o W h0 h1 o0 o1
    replace hn : Kp _ := ⟨hn⟩
    replace hC : Kp _ := ⟨hC.out⟩
    replace P : Kp _ := ⟨P⟩
    replace F : Kp _ := ⟨F⟩
    replace FA : Kp _ := ⟨FA⟩
    replace hvm : Kp _ := ⟨hvm⟩
    replace hSc : Kp _ := ⟨hSc⟩
    replace hPk : Kp _ := ⟨hPk⟩
    replace hP1 : Kp _ := ⟨hP1⟩
    replace hP2 : Kp _ := ⟨hP2⟩
    replace hUd : Kp _ := ⟨hUd⟩
    replace ho : Kp _ := ⟨ho⟩
    replace hk1 : Kp _ := ⟨hk1⟩
    replace hk2 : Kp _ := ⟨hk2⟩
    replace hsc : Kp _ := ⟨hsc⟩
    have hs2 : Kp (s.size ≤ maxLen) := ⟨hs⟩
    clear c1 c2 c3 hs
    go_wp2_with fail
    refine (hSc.out _).mono ?_
    rintro e w3 ⟨rfl, b1⟩
    generalize ((fVars s).size : Int) = vz
    generalize half (fCode s) = cz
    have O3 := Own.new3 w3 (.int .i64 n) (.int .i64 vz) (.int .i64 cz) 32
    have b2 : Below w2.heap.size w2 (w3.alloc (.cells #[.int .i64 n, .int .i64 vz, .int .i64 cz] 32)) := b1.trans (((Below.refl _ _).alloc (Nat.le_refl _) _).mono b1.size)
    have A3 : Kp _ := ⟨A2.out.step b2⟩
    have B3 : Kp _ := ⟨B2.out.step b2⟩
    have hB3 : Kp _ := ⟨hB2.out.trans (b2.mono hB2.out.size)⟩
    have hz3 : w.heap.size + 1 < w3.heap.size := Nat.lt_of_lt_of_le B2.out.lt b1.size
    clear A2 B2 hB2 b2 b1
    have dc1 : decide (n < 1) = false := decide_eq_false (by omega)
    have dc2 : decide (6 < n) = false := decide_eq_false (by omega)
    have dc3 : decide ((s.size : Int) < 2) = false := decide_eq_false (by omega)
    have dc4 : (n != n) = false := by simp
    go_wp2_with fail
    go_quiet (fail)
    have A4 := A3.out.step (below_drewN (Below.refl _ _) nq)
    have B4 := B3.out.step (below_drewN (Below.refl _ _) nq)
    have O4 := O3.step (below_drewN (Below.refl _ _) nq)
    have hB4 := below_drewN hB3.out nq
    generalize (w3.alloc (.cells #[.int .i64 n, .int .i64 vz, .int .i64 cz] 32)).drewN nq = w4 at A4 B4 O4 hB4 ⊢
    have i0 := O4.c 0 _ rfl
    clear A3 B3 O3 hB3 dc1 dc2 dc3 dc4
    go_wp2_with fail
    refine (hPk.out _).mono ?_
    rintro e w5 ⟨rfl, hw5⟩
    subst hw5
    replace A4 : Kp _ := ⟨A4⟩
    replace B4 : Kp _ := ⟨B4⟩
    replace O4 : Kp _ := ⟨O4⟩
    replace hB4 : Kp _ := ⟨hB4⟩
    clear i0 hPk
    go_wp2_with fail
    go_loopw [19] (fun lv wr => ∃ l : Nat, (l : Int) ≤ n ∧ lv = .int .i64 l ∧ Kp (TapAt wr w.heap.size (fun j => T j)) ∧ Kp (TapAt wr (w.heap.size + 1) (fun j => mixT (fTab s) n o T U l j)) ∧ Kp (Own wr w3.heap.size [.int .i64 n, .int .i64 vz, .int .i64 cz]) ∧ Kp (Below w.heap.size w wr)) (fun lv _ => n.toNat - (intOf lv).toNat)
    case atStart => exact ⟨0, by omega, rfl, A4, ⟨B4.out.same (fun j _ => by show U j = mixT (fTab s) n o T U (0 : Nat) j; unfold mixT; rw [if_neg (by omega)])⟩, O4, hB4⟩
    case round =>
      clear A4 B4 O4 hB4
      obtain ⟨l, hl, rfl, A5, B5, O5, hB5⟩ := hrel
      have i0 := O5.out.c 0 _ rfl
      by_cases hln : (l : Int) < n
      · have hl6 : (l : Int) < 6 := by omega
        have hUl := fun W => hUd.out l W (by omega) hln
        cases hu : le (fTab s) n l o with
        | false =>
          rw [hu] at hUl
          replace hUl : Kp _ := ⟨hUl⟩
          have B6 : Kp _ := ⟨B5.out.same (fun j _ => mix_skip (T := T) (U := U) j hu)⟩
          replace hu : Kp _ := ⟨hu⟩
          go_wp2_with fail
          refine (hUl.out _).mono ?_
          rintro e w6 ⟨rfl, hw6⟩
          subst hw6
          go_wp2_with fail
          go_roundw
          case rel => exact ⟨l + 1, by omega, by go_num, A5, B6, O5, hB5⟩
          case measure => simp [intOf]; omega
        | true =>
          rw [hu] at hUl
          replace hUl : Kp _ := ⟨hUl⟩
          have q0 := A5.out.c l (by omega)
          have q1 := B5.out.c l (by omega)
          have q2 := B5.out.f l (by omega)
          have B6 : Kp _ := ⟨(B5.out.set (k := l) (by omega) (T l)).same (fun j _ => mix_next (T := T) (U := U) j hu)⟩
          have A6 : Kp _ := ⟨A5.out.far (b := w.heap.size + 1) (k := l) (x := .string (T l)) (by omega)⟩
          have O6 : Kp _ := ⟨O5.out.away (g := w.heap.size + 1) (k := l) (.string (T l)) (by omega)⟩
          have hB6 : Kp _ := ⟨hB5.out.setCell (p := ⟨w.heap.size + 1, l, none⟩) (by show w.heap.size ≤ w.heap.size + 1; omega) (.string (T l))⟩
          replace hu : Kp _ := ⟨hu⟩
          clear A5 B5 O5 hB5
          go_wp2_with fail
          refine (hUl.out _).mono ?_
          rintro e w6 ⟨rfl, hw6⟩
          subst hw6
          go_wp2_with fail
          go_roundw
          case rel => exact ⟨l + 1, by omega, by go_num, A6, B6, O6, hB6⟩
          case measure => simp [intOf]; omega
      · have e : (l : Int) = n := by omega
        have R1 := fun W => prun_ok s T k1 W hs2.out hC.out l1 hT.out
        have R2 := fun W => prun_ok s (mixT (fTab s) n o T U l) k2 W hs2.out hC.out l2 (fun j hj => by unfold mixT; split; exact hT.out j hj; exact hU.out j hj)
        have BI : Kp (BlindIn s n (bv s (2 + bv s 1 * bv s 1)) o (endOf (fCode s) T k1) (endOf (fCode s) (mixT (fTab s) n o T U l) k2) (fun j => logOf (fCode s) T k1 j) (fun j => logOf (fCode s) (mixT (fTab s) n o T U l) k2 j) (varsOf (fCode s) (fVars s) T k1) (varsOf (fCode s) (fVars s) (mixT (fTab s) n o T U l) k2)) := ⟨by
          have hn2 := hn.out
          subst hn2
          exact blind_of FA.out P.out hvm.out F.out.vars ⟨o0, o1⟩ l1 l2 (fun i hi hle => by unfold mixT; rw [if_pos ⟨by have := hi.2; omega, hle⟩])⟩
        have BW := fun W => blind_any (by have := FA.out; rw [hn.out] at this; exact this) o (endOf (fCode s) T k1) (cntOf (fCode s) T k1) (endOf (fCode s) (mixT (fTab s) n o T U l) k2) (cntOf (fCode s) (mixT (fTab s) n o T U l) k2) (fun j => logOf (fCode s) T k1 j) (fun j => logOf (fCode s) (mixT (fTab s) n o T U l) k2 j) (varsOf (fCode s) (fVars s) T k1) (varsOf (fCode s) (fVars s) (mixT (fTab s) n o T U l) k2) W o0 o1 (by have := BI; rw [hn.out] at this; exact this)
        obtain ⟨mt, hmt⟩ : ∃ mt, mixT (fTab s) n o T U l = mt := ⟨_, rfl⟩
        rw [hmt] at R2 BW B5
        replace hmt : Kp _ := ⟨hmt⟩
        obtain ⟨y1, hy1⟩ : ∃ y1 : Nat → ByteArray, (fun j : Nat => logOf (fCode s) T k1 j) = y1 := ⟨_, rfl⟩
        obtain ⟨y2, hy2⟩ : ∃ y2 : Nat → ByteArray, (fun j : Nat => logOf (fCode s) mt k2 j) = y2 := ⟨_, rfl⟩
        simp only [resV_resA] at R1 R2
        rw [hy1] at R1 BW
        rw [hy2] at R2 BW
        generalize endOf (fCode s) T k1 = en1 at R1 BW
        generalize endOf (fCode s) mt k2 = en2 at R2 BW
        generalize cntOf (fCode s) T k1 = st1 at R1 BW
        generalize cntOf (fCode s) mt k2 = st2 at R2 BW
        generalize varsOf (fCode s) (fVars s) T k1 = v1 at R1 BW
        generalize varsOf (fCode s) (fVars s) mt k2 = v2 at R2 BW
        unfold resA at R1 R2 BW
        unfold tapV at R1 R2
        replace R1 : Kp _ := ⟨R1⟩
        replace R2 : Kp _ := ⟨R2⟩
        replace BW : Kp _ := ⟨BW⟩
        have t0 := A5.out.c 0 (by omega)
        have t1 := A5.out.c 1 (by omega)
        have t2 := A5.out.c 2 (by omega)
        have t3 := A5.out.c 3 (by omega)
        have t4 := A5.out.c 4 (by omega)
        have t5 := A5.out.c 5 (by omega)
        clear BI FA F P hvm hC hT hU hSc hUd hn ho hk1 hk2 hsc hs2 hmt hy1 hy2 O5 g0 g2 g3 g4 g5 g6 e hv
        go_wp2_with fail
        have hnw : wr.heap.size ≠ w.heap.size := Nat.ne_of_gt A5.out.lt
        go_region_held (fun w' => w'.cell? ⟨w.heap.size, 0, none⟩ = some (.string (T 0)) ∧ w'.cell? ⟨w.heap.size, 1, none⟩ = some (.string (T 1)) ∧ w'.cell? ⟨w.heap.size, 2, none⟩ = some (.string (T 2)) ∧ w'.cell? ⟨w.heap.size, 3, none⟩ = some (.string (T 3)) ∧ w'.cell? ⟨w.heap.size, 4, none⟩ = some (.string (T 4)) ∧ w'.cell? ⟨w.heap.size, 5, none⟩ = some (.string (T 5))) (go_keep) (first
          | (go_at_call 22; refine (hP1.out _).mono ?_; rintro e w7 ⟨rfl, hw7⟩; subst hw7)
          | (go_at_call 29; refine (R1.out _).mono ?_; rintro e w8 ⟨rfl, b8⟩; (first | (have b9 : Below wr.heap.size wr w8 := (Below.refl _ _).drew.trans b8; have A8 := A5.out.step b9; have r0 := A8.c 0 (by omega); have r1 := A8.c 1 (by omega); have r2 := A8.c 2 (by omega); have r3 := A8.c 3 (by omega); have r4 := A8.c 4 (by omega); have r5 := A8.c 5 (by omega)) | (have b9 : Below wr.heap.size wr w8 := ((Below.refl _ _).alloc (Nat.le_refl _) _).drew.trans (b8.mono (by simp)); have A8 := A5.out.step b9; have r0 := A8.c 0 (by omega); have r1 := A8.c 1 (by omega); have r2 := A8.c 2 (by omega); have r3 := A8.c 3 (by omega); have r4 := A8.c 4 (by omega); have r5 := A8.c 5 (by omega); have X8 := (ResAt.new wr 51 0 0).step ((Below.refl _ _).drew.trans b8); have x0 := X8.c0; have x1 := X8.c1; have x2 := X8.cl 0 (by omega); have x3 := X8.cl 1 (by omega); have x4 := X8.cl 2 (by omega); have x5 := X8.cl 3 (by omega); have x6 := X8.cl 4 (by omega); have x7 := X8.cl 5 (by omega); have x8 := X8.cv; have z0 := X8.f 0 (by omega); have z1 := X8.f 1 (by omega); have z2 := X8.f 2 (by omega); have z3 := X8.f 3 (by omega); have z4 := X8.f 4 (by omega); have z5 := X8.f 5 (by omega); have z6 := X8.f 6 (by omega); have z7 := X8.f 7 (by omega); have z8 := X8.f 8 (by omega); have xl := X8.lt))))
        all_goals
          clear t0 t1 t2 t3 t4 t5
          first
            | (have Xn := X8.fill en1 st1 y1 v1
               have Bn := below_fill b9 wr.heap.size (Nat.le_refl _) en1 st1 y1 v1
               rw [show ((((((((w8.setCell ⟨wr.heap.size, 0, none⟩ (.int .i64 en1)).setCell ⟨wr.heap.size, 1, none⟩ (.int .i64 st1)).setCell ⟨wr.heap.size, 2, none⟩ (.string (y1 0))).setCell ⟨wr.heap.size, 3, none⟩ (.string (y1 1))).setCell ⟨wr.heap.size, 4, none⟩ (.string (y1 2))).setCell ⟨wr.heap.size, 5, none⟩ (.string (y1 3))).setCell ⟨wr.heap.size, 6, none⟩ (.string (y1 4))).setCell ⟨wr.heap.size, 7, none⟩ (.string (y1 5))).setCell ⟨wr.heap.size, 8, none⟩ (.string v1) = resFill w8 wr.heap.size en1 st1 y1 v1 from rfl]
               clear x0 x1 x2 x3 x4 x5 x6 x7 x8 z0 z1 z2 z3 z4 z5 z6 z7 z8 xl X8 A8 b8 b9 r0 r1 r2 r3 r4 r5
               generalize resFill w8 wr.heap.size en1 st1 y1 v1 = w9 at Xn Bn ⊢
               obtain ⟨gr, hgn⟩ : ∃ g, g = wr.heap.size := ⟨_, rfl⟩
               rw [← hgn] at Xn ⊢
               clear hgn)
            | (have Xn := ResAt.box w8 51 en1 st1 y1 v1
               have Bn : Below wr.heap.size wr (w8.alloc (.cells #[.int .i64 en1, .int .i64 st1, .string (y1 0), .string (y1 1), .string (y1 2), .string (y1 3), .string (y1 4), .string (y1 5), .string v1] 51)) := b9.alloc b9.size _
               clear A8 b8 b9 r0 r1 r2 r3 r4 r5
               generalize w8.alloc (.cells #[.int .i64 en1, .int .i64 st1, .string (y1 0), .string (y1 1), .string (y1 2), .string (y1 3), .string (y1 4), .string (y1 5), .string v1] 51) = w9 at Xn Bn ⊢
               generalize w8.heap.size = gr at Xn ⊢)
          replace Xn : Kp _ := ⟨Xn⟩
          have A9 : Kp _ := ⟨B5.out.step Bn⟩
          have hB9 : Kp _ := ⟨hB5.out.trans (Bn.mono hB5.out.size)⟩
          have t0 := A9.out.c 0 (by omega)
          have t1 := A9.out.c 1 (by omega)
          have t2 := A9.out.c 2 (by omega)
          have t3 := A9.out.c 3 (by omega)
          have t4 := A9.out.c 4 (by omega)
          have t5 := A9.out.c 5 (by omega)
          have hnx : w9.heap.size ≠ w.heap.size + 1 := Nat.ne_of_gt A9.out.lt
          clear A5 B5 hB5 Bn hP1 R1 i0 hnw
          have X9 := Xn
          clear Xn
          go_wp2_with fail
          go_region_held (fun w' => w'.cell? ⟨w.heap.size + 1, 0, none⟩ = some (.string (mt 0)) ∧ w'.cell? ⟨w.heap.size + 1, 1, none⟩ = some (.string (mt 1)) ∧ w'.cell? ⟨w.heap.size + 1, 2, none⟩ = some (.string (mt 2)) ∧ w'.cell? ⟨w.heap.size + 1, 3, none⟩ = some (.string (mt 3)) ∧ w'.cell? ⟨w.heap.size + 1, 4, none⟩ = some (.string (mt 4)) ∧ w'.cell? ⟨w.heap.size + 1, 5, none⟩ = some (.string (mt 5))) (go_keep) (first
          | (go_at_call 22; refine (hP2.out _).mono ?_; rintro e w7 ⟨rfl, hw7⟩; subst hw7)
          | (go_at_call 29; refine (R2.out _).mono ?_; rintro e w8 ⟨rfl, b8⟩; (first | (have b9 : Below w9.heap.size w9 w8 := (Below.refl _ _).drew.trans b8; have A8 := A9.out.step b9; have r0 := A8.c 0 (by omega); have r1 := A8.c 1 (by omega); have r2 := A8.c 2 (by omega); have r3 := A8.c 3 (by omega); have r4 := A8.c 4 (by omega); have r5 := A8.c 5 (by omega)) | (have b9 : Below w9.heap.size w9 w8 := ((Below.refl _ _).alloc (Nat.le_refl _) _).drew.trans (b8.mono (by simp)); have A8 := A9.out.step b9; have r0 := A8.c 0 (by omega); have r1 := A8.c 1 (by omega); have r2 := A8.c 2 (by omega); have r3 := A8.c 3 (by omega); have r4 := A8.c 4 (by omega); have r5 := A8.c 5 (by omega); have X8 := (ResAt.new w9 51 0 0).step ((Below.refl _ _).drew.trans b8); have x0 := X8.c0; have x1 := X8.c1; have x2 := X8.cl 0 (by omega); have x3 := X8.cl 1 (by omega); have x4 := X8.cl 2 (by omega); have x5 := X8.cl 3 (by omega); have x6 := X8.cl 4 (by omega); have x7 := X8.cl 5 (by omega); have x8 := X8.cv; have z0 := X8.f 0 (by omega); have z1 := X8.f 1 (by omega); have z2 := X8.f 2 (by omega); have z3 := X8.f 3 (by omega); have z4 := X8.f 4 (by omega); have z5 := X8.f 5 (by omega); have z6 := X8.f 6 (by omega); have z7 := X8.f 7 (by omega); have z8 := X8.f 8 (by omega); have xl := X8.lt))))
          all_goals
            clear t0 t1 t2 t3 t4 t5
            first
              | (have Xn := X8.fill en2 st2 y2 v2
                 have Bn := below_fill b9 w9.heap.size (Nat.le_refl _) en2 st2 y2 v2
                 rw [show ((((((((w8.setCell ⟨w9.heap.size, 0, none⟩ (.int .i64 en2)).setCell ⟨w9.heap.size, 1, none⟩ (.int .i64 st2)).setCell ⟨w9.heap.size, 2, none⟩ (.string (y2 0))).setCell ⟨w9.heap.size, 3, none⟩ (.string (y2 1))).setCell ⟨w9.heap.size, 4, none⟩ (.string (y2 2))).setCell ⟨w9.heap.size, 5, none⟩ (.string (y2 3))).setCell ⟨w9.heap.size, 6, none⟩ (.string (y2 4))).setCell ⟨w9.heap.size, 7, none⟩ (.string (y2 5))).setCell ⟨w9.heap.size, 8, none⟩ (.string v2) = resFill w8 w9.heap.size en2 st2 y2 v2 from rfl]
                 clear x0 x1 x2 x3 x4 x5 x6 x7 x8 z0 z1 z2 z3 z4 z5 z6 z7 z8 xl X8 A8 b8 b9 r0 r1 r2 r3 r4 r5
                 generalize resFill w8 w9.heap.size en2 st2 y2 v2 = w10 at Xn Bn ⊢
                 obtain ⟨gs, hgn⟩ : ∃ g, g = w9.heap.size := ⟨_, rfl⟩
                 rw [← hgn] at Xn ⊢
                 clear hgn)
              | (have Xn := ResAt.box w8 51 en2 st2 y2 v2
                 have Bn : Below w9.heap.size w9 (w8.alloc (.cells #[.int .i64 en2, .int .i64 st2, .string (y2 0), .string (y2 1), .string (y2 2), .string (y2 3), .string (y2 4), .string (y2 5), .string v2] 51)) := b9.alloc b9.size _
                 clear A8 b8 b9 r0 r1 r2 r3 r4 r5
                 generalize w8.alloc (.cells #[.int .i64 en2, .int .i64 st2, .string (y2 0), .string (y2 1), .string (y2 2), .string (y2 3), .string (y2 4), .string (y2 5), .string v2] 51) = w10 at Xn Bn ⊢
                 generalize w8.heap.size = gs at Xn ⊢)
            have X10 := X9.out.step Bn
            have hB10 := hB9.out.trans (Bn.mono hB9.out.size)
            have p0 := X10.c0
            have p1 := X10.c1
            have p2 := X10.cl 0 (by omega)
            have p3 := X10.cl 1 (by omega)
            have p4 := X10.cl 2 (by omega)
            have p5 := X10.cl 3 (by omega)
            have p6 := X10.cl 4 (by omega)
            have p7 := X10.cl 5 (by omega)
            have p8 := X10.cv
            have q0 := Xn.c0
            have q1 := Xn.c1
            have q2 := Xn.cl 0 (by omega)
            have q3 := Xn.cl 1 (by omega)
            have q4 := Xn.cl 2 (by omega)
            have q5 := Xn.cl 3 (by omega)
            have q6 := Xn.cl 4 (by omega)
            have q7 := Xn.cl 5 (by omega)
            have q8 := Xn.cv
            clear X9 hB9 Bn A9 R2 hP2 hnx X10 Xn
            go_wp2_with fail
            refine (BW.out _).mono ?_
            rintro e w11 ⟨rfl, b11⟩
            have hB11 := hB10.trans (b11.mono hB10.size)
            clear b11 BW hB10 p0 p1 p2 p3 p4 p5 p6 p7 p8 q0 q1 q2 q3 q4 q5 q6 q7 q8
            go_wp2_with fail
            go_ret
            exact ⟨rfl, hB11⟩
  · have hk : (x != 0) = true := bne_iff_ne.2 hx
    go_wp2_with fail
    go_ret
    exact ⟨rfl, hB2.out⟩
end Go.Proofs.Ytcnbifdlkalimaa
