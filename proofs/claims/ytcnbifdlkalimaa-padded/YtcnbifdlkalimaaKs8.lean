/-
  The walk of the statement Padded; for every text, tapes, fuel, level and number.
-/
import Derived.Test.YtcnbifdlkalimaaKs7
import Derived.Deep.RegionHeld
import Derived.Deep.OwnRows
namespace Go.Proofs.Ytcnbifdlkalimaa
open Go.RowKit Go.Deep
set_option linter.unusedVariables false
set_option maxRecDepth 100000

/-- the two runs of Padded answer the same -/
theorem pad_runs (s : ByteArray) (T : Int → ByteArray) (l k a : Nat) (b : ByteArray) (nn p x : Int) (hs : s.size ≤ maxLen) (hC : CheckIs s p x) (ha : a ≤ 20000) (hnn : 1 < s.size → nn = bv s 1) (hT : ∀ j : Nat, j < 6 → (T j).size ≤ maxLen) (hU : ∀ j : Nat, j < 6 → (padT T l (noughts k) b nn j).size ≤ maxLen) :
    ∃ (en st : Int) (y : Nat → ByteArray) (v : ByteArray), (∀ W, Calls Try.prog 29 #[.string s, tapV T, .int .i64 a] W fun e w' => e = .returned (.tuple #[resA en st y v, .int .i64 x]) ∧ Below W.heap.size W w') ∧
      (∀ W, Calls Try.prog 29 #[.string s, tapV (padT T l (noughts k) b nn), .int .i64 a] W fun e w' => e = .returned (.tuple #[resA en st y v, .int .i64 x]) ∧ Below W.heap.size W w') := by
  by_cases hx : x = 0
  · subst hx
    obtain ⟨hsc, rfl, h, P⟩ := check_ok hs hC
    have FA := file_at hsc
    have e := hnn FA.bds.1
    subst e
    refine ⟨endOf (fCode s) T a, cntOf (fCode s) T a, fun j => logOf (fCode s) T a j, varsOf (fCode s) (fVars s) T a, fun W => prun_ok s T a W hs hC ha hT, fun W => ?_⟩
    have := prun_ok s (padT T l (noughts k) b (bv s 1)) a W hs hC ha hU
    rw [pad_res P] at this
    exact this
  · exact ⟨0, 0, fun _ => { data := #[] }, { data := #[] }, fun W => prun_bad s T a p x W hs hC hx hT, fun W => prun_bad s _ a p x W hs hC hx hU⟩

/-- the tapes within the loop: those below i are done -/
def padI (T : Int → ByteArray) (l : Int) (z b : ByteArray) (n : Int) (i : Nat) : Nat → ByteArray := fun j => if j < i ∧ n ≤ (j : Int) then b else if (j : Int) = l then T j ++ z else T j

theorem padI_zero {T : Int → ByteArray} {l : Nat} {z b : ByteArray} {n : Int} (j : Nat) : (if j = l then T l ++ z else T j) = padI T l z b n 0 j := by
  unfold padI
  have e3 : ¬ (j < 0 ∧ n ≤ (j : Int)) := fun q => by omega
  by_cases e : j = l
  · subst e; rw [if_pos rfl, if_neg e3, if_pos rfl]
  · have e4 : ¬ (j : Int) = (l : Int) := by omega
    rw [if_neg e, if_neg e3, if_neg e4]
theorem padI_next {T : Int → ByteArray} {l : Int} {z b : ByteArray} {n : Int} {i : Nat} (h : n ≤ (i : Int)) (j : Nat) : (if j = i then b else padI T l z b n i j) = padI T l z b n (i + 1) j := by
  unfold padI
  by_cases e : j = i
  · subst e; rw [if_pos rfl, if_pos ⟨by omega, h⟩]
  · rw [if_neg e]
    by_cases e2 : j < i ∧ n ≤ (j : Int)
    · rw [if_pos e2, if_pos ⟨by omega, e2.2⟩]
    · have e3 : ¬ (j < i + 1 ∧ n ≤ (j : Int)) := fun q => e2 ⟨by omega, q.2⟩
      rw [if_neg e2, if_neg e3]
theorem padI_skip {T : Int → ByteArray} {l : Int} {z b : ByteArray} {n : Int} {i : Nat} (h : ¬ n ≤ (i : Int)) (j : Nat) : padI T l z b n i j = padI T l z b n (i + 1) j := by
  unfold padI
  by_cases e2 : j < i ∧ n ≤ (j : Int)
  · rw [if_pos e2, if_pos ⟨by omega, e2.2⟩]
  · have e3 : ¬ (j < i + 1 ∧ n ≤ (j : Int)) := fun q => e2 ⟨by
      by_cases e : j = i
      · subst e; exact absurd q.2 h
      · omega, q.2⟩
    rw [if_neg e2, if_neg e3]
theorem padI_end {T : Int → ByteArray} {l : Int} {z b : ByteArray} {n : Int} (j : Nat) (hj : j < 6) : padI T l z b n 6 j = padT T l z b n j := by
  unfold padI padT
  by_cases e : n ≤ (j : Int)
  · rw [if_pos ⟨hj, e⟩, if_pos e]
  · rw [if_neg (fun q => e q.2), if_neg e]

set_option maxHeartbeats 3200000 in
theorem padded_walk (s : ByteArray) (f1 lv nv : Int) (T : Int → ByteArray) (b : ByteArray) (w : World) (hs : s.size ≤ maxLen) (c1 : -9223372036854775808 ≤ f1 ∧ f1 ≤ 9223372036854775807) (c2 : -9223372036854775808 ≤ lv ∧ lv ≤ 9223372036854775807) (c3 : -9223372036854775808 ≤ nv ∧ nv ≤ 9223372036854775807) (hT : ∀ l : Nat, l < 6 → (T l).size ≤ 140737488355328) (hb : b.size ≤ maxLen) :
    Calls Try.prog 9 #[.string s, tapV T, .int .i64 f1, .int .i64 lv, .int .i64 nv, .string b] w fun e w' => e = .returned (.bool true) ∧ Below w.heap.size w w' := by
  obtain ⟨wb, hwb⟩ : ∃ wb, wb = w.alloc (.cells #[.string (T 0), .string (T 1), .string (T 2), .string (T 3), .string (T 4), .string (T 5)] 49) := ⟨_, rfl⟩
  have A0 : TapAt wb w.heap.size (fun j => T j) := by rw [hwb]; exact TapAt.new w 49 (T 0) (T 1) (T 2) (T 3) (T 4) (T 5) (f := fun j => T j) ⟨rfl, rfl, rfl, rfl, rfl, rfl⟩
  have hB0 : Below w.heap.size w wb := by rw [hwb]; exact (Below.refl _ _).alloc (Nat.le_refl _) _
  replace hwb : Kp _ := ⟨hwb⟩
  replace A0 : Kp _ := ⟨A0⟩
  replace hB0 : Kp _ := ⟨hB0⟩
  obtain ⟨a, ha⟩ : ∃ a : Nat, pickF f1 20001 = a := ⟨(pickF f1 20001).toNat, by have := pickF_bd (c := f1) (n := 20001) (by omega); omega⟩
  have la : a ≤ 20000 := by have := pickF_bd (c := f1) (n := 20001) (by omega); omega
  obtain ⟨l, hl⟩ : ∃ l : Nat, pickF lv 6 = l := ⟨(pickF lv 6).toNat, by have := pickF_bd (c := lv) (n := 6) (by omega); omega⟩
  have ll : l < 6 := by have := pickF_bd (c := lv) (n := 6) (by omega); omega
  obtain ⟨k, hk⟩ : ∃ k : Nat, pickF nv 40 = k := ⟨(pickF nv 40).toNat, by have := pickF_bd (c := nv) (n := 40) (by omega); omega⟩
  have lk : k < 40 := by have := pickF_bd (c := nv) (n := 40) (by omega); omega
  have hP1 := fun W => pickN_any f1 20001 W c1 (by omega) (by omega)
  have hP2 := fun W => pickN_any lv 6 W c2 (by omega) (by omega)
  have hP3 := fun W => pickN_any nv 40 W c3 (by omega) (by omega)
  rw [ha] at hP1
  rw [hl] at hP2
  rw [hk] at hP3
  replace hP1 : Kp _ := ⟨hP1⟩
  replace hP2 : Kp _ := ⟨hP2⟩
  replace hP3 : Kp _ := ⟨hP3⟩
  replace ha : Kp _ := ⟨ha⟩
  replace hl : Kp _ := ⟨hl⟩
  replace hk : Kp _ := ⟨hk⟩
  obtain ⟨nn, hnn⟩ : ∃ nn : Int, nn = if 1 < s.size then bv s 1 else 6 := ⟨_, rfl⟩
  have hnn1 : 1 < s.size → nn = bv s 1 := fun h => by rw [hnn, if_pos h]
  have hT1 : ∀ j : Nat, j < 6 → (T j).size ≤ maxLen := fun j hj => by have := hT j hj; unfold maxLen; omega
  have hU1 : ∀ j : Nat, j < 6 → (padT T l (noughts k) b nn j).size ≤ maxLen := fun j hj => by
    unfold padT
    split
    · exact hb
    · split
      · have := hT j hj
        have h2 : (T j ++ noughts k).size = (T j).size + (noughts k).size := by simp
        rw [noughts_size] at h2
        unfold maxLen
        omega
      · exact hT1 j hj
  have hmk := run_make_row' (P := Try.prog) 58 5 (.int .u8 0) 1 Try.underlying58 info_byte rfl .i64 .i64 k (by omega) (by omega)
  have hcv := fun W : World => conv_noughts (W.alloc (.cells (madeCells #[.int .u8 0] k) 5)) W.heap.size k (fun j hj => made_cell W k _ j hj)
  have hcw := fun W : World => conv_noughts ((W.alloc (.cells (madeCells #[.int .u8 0] k) 5)).drew) W.heap.size k (fun j hj => made_cell W k _ j hj)
  have hQ := eq_tap
  replace hT : Kp _ := ⟨hT⟩
  clear c1 c2 c3
  unfold tapV
  go_enter Try.func9, Try.ntmps9
  go_wp2_with fail
  rw [← hwb.out]
  clear hwb
  refine (known_any _).mono ?_
  rintro e w1 ⟨rfl, b1⟩
  have A1 : Kp _ := ⟨A0.out.step b1⟩
  have hB1 : Kp _ := ⟨hB0.out.trans (b1.mono hB0.out.size)⟩
  clear A0 hB0 b1
  go_wp2_with fail
  refine (check_any s _ hs).mono ?_
  rintro e w2 ⟨p, x, rfl, hC, b1⟩
  have A2 : Kp _ := ⟨A1.out.step b1⟩
  have hB2 : Kp _ := ⟨hB1.out.trans (b1.mono hB1.out.size)⟩
  clear A1 hB1 b1
  obtain ⟨en, st, y, v, R1, R2⟩ := pad_runs s T l k a b nn p x hs hC.out la hnn1 hT1 hU1
  unfold resA at R1 R2
  unfold tapV at R1 R2
  replace R1 : Kp _ := ⟨R1⟩
  replace R2 : Kp _ := ⟨R2⟩
  replace hnn : Kp _ := ⟨hnn⟩
  clear hnn1 hT1 hU1 hC
  go_wp2_with fail
  refine (hP1.out _).mono ?_
  rintro e w3 ⟨rfl, hw3⟩
  subst hw3
  have t0 := A2.out.c 0 (by omega)
  have t1 := A2.out.c 1 (by omega)
  have t2 := A2.out.c 2 (by omega)
  have t3 := A2.out.c 3 (by omega)
  have t4 := A2.out.c 4 (by omega)
  have t5 := A2.out.c 5 (by omega)
  go_wp2_with fail
  refine (R1.out _).mono ?_
  rintro e w4 ⟨rfl, b4⟩
  obtain ⟨wc, hwc⟩ : ∃ wc, wc = w4.alloc (.cells #[.int .i64 en, .int .i64 st, .string (y 0), .string (y 1), .string (y 2), .string (y 3), .string (y 4), .string (y 5), .string v] 51) := ⟨_, rfl⟩
  have X4 : ResAt wc w4.heap.size en st y v := by rw [hwc]; exact ResAt.box w4 _ en st y v
  have bc : Below w3.heap.size w3 wc := by rw [hwc]; exact b4.alloc b4.size _
  have A4 := A2.out.step bc
  have hB4 := hB2.out.trans (bc.mono hB2.out.size)
  have hg4 : w.heap.size < w4.heap.size := Nat.lt_of_lt_of_le A2.out.lt b4.size
  replace hwc : Kp _ := ⟨hwc⟩
  replace X4 : Kp _ := ⟨X4⟩
  replace A4 : Kp _ := ⟨A4⟩
  replace hB4 : Kp _ := ⟨hB4⟩
  clear t0 t1 t2 t3 t4 t5 A2 hB2 b4 bc hP1 R1
  go_wp2_with fail
  rw [← hwc.out]
  generalize w4.heap.size = g1 at *
  clear hwc
  refine (hP2.out _).mono ?_
  rintro e w5 ⟨rfl, hw5⟩
  subst hw5
  have q0 := A4.out.c l ll
  have q1 := A4.out.f l ll
  have lli : (l : Int) < 6 := by omega
  obtain ⟨tp, htp⟩ : ∃ tp, T l = tp := ⟨_, rfl⟩
  rw [htp] at q0
  have htz : tp.size ≤ 140737488355328 := by rw [← htp]; exact hT.out l ll
  replace htp : Kp _ := ⟨htp⟩
  have hzs : (noughts k).size = k := noughts_size k
  obtain ⟨z, hz⟩ : ∃ z, noughts k = z := ⟨_, rfl⟩
  rw [hz] at hcv hcw hzs
  replace hz : Kp _ := ⟨hz⟩
  have hs1 : ¬ (9223372036854775807 : Int) < (tp.size : Int) + z.size := by omega
  have hs2 : ¬ (9223372036854775807 : Int) < ((tp.size + z.size : Nat) : Int) := by omega
  have hs3 : (tp.size : Int) + z.size ≤ 9223372036854775807 := by omega
  go_wp2_with fail
  have hl5 := A4.out.lt
  go_region_with ((go_at_call 22; refine (hP3.out _).mono ?_; rintro e w7 ⟨rfl, hw7⟩; subst hw7))
  all_goals
    clear hP2 hP3 hmk hcv hcw q0 q1 hs1 hs2 hs3
    obtain ⟨w6, hw6⟩ : ∃ w6, w6 = ((w5.setCell ⟨w.heap.size, l, none⟩ (.string (tp ++ z))).alloc (.cells (madeCells #[.int .u8 0] k) 5)).drew := ⟨_, rfl⟩
    rw [← hw6]
    have bs6 : Below (w5.setCell ⟨w.heap.size, l, none⟩ (.string (tp ++ z))).heap.size (w5.setCell ⟨w.heap.size, l, none⟩ (.string (tp ++ z))) w6 := by rw [hw6]; exact ((Below.refl _ _).alloc (Nat.le_refl _) _).drew
    have A6 : TapAt w6 w.heap.size (padI T l z b nn 0) := ((A4.out.set ll (tp ++ z)).step bs6).same (fun j _ => by rw [← htp.out]; exact padI_zero j)
    have X6 : ResAt w6 g1 en st y v := (X4.out.but ((But.refl w.heap.size w5.heap.size w5).setCell l (.string (tp ++ z))) (by omega)).step bs6
    have hB6 : Below w.heap.size w w6 := by
      have h1 := hB4.out.setCell (p := ⟨w.heap.size, l, none⟩) (Nat.le_refl _) (.string (tp ++ z))
      exact h1.trans (bs6.mono h1.size)
    replace A6 : Kp _ := ⟨A6⟩
    replace X6 : Kp _ := ⟨X6⟩
    replace hB6 : Kp _ := ⟨hB6⟩
    rw [hz.out] at R2
    clear bs6 hw6 A4 X4 hB4 hl5 hzs htz
    go_wp2_with fail
    go_loopw [20] (fun iv wr => ∃ i : Nat, i ≤ 6 ∧ iv = .int .i64 i ∧ Kp (TapAt wr w.heap.size (padI T l z b nn i)) ∧ Kp (ResAt wr g1 en st y v) ∧ Kp (Below w.heap.size w wr)) (fun iv _ => 6 - (intOf iv).toNat)
    case atStart => exact ⟨0, by omega, rfl, A6, X6, hB6⟩
    case round =>
      clear A6 X6 hB6
      obtain ⟨i, hi, rfl, A7, X7, hB7⟩ := hrel
      by_cases hi6 : i < 6
      · have hii : (i : Int) < 6 := by omega
        by_cases h1 : 1 < s.size
        · have hv := bv_nat s 1 h1
          have hn := hnn.out
          rw [if_pos h1] at hn
          rw [show ((1 : Nat) : Int) = 1 from rfl, ← hn] at hv
          have h1i : (1 : Int) < s.size := by omega
          have nb := bv_bd s 1
          rw [← hn] at nb
          obtain ⟨nb0, nb9⟩ := nb
          clear hn
          by_cases hni : nn ≤ (i : Int)
          · have q0 := A7.out.c i hi6
            have q1 := A7.out.f i hi6
            have A8 : Kp _ := ⟨(A7.out.set hi6 b).same (fun j _ => padI_next (T := T) (l := l) (z := z) (b := b) hni j)⟩
            have X8 : Kp _ := ⟨X7.out.but ((But.refl w.heap.size wr.heap.size wr).setCell i (.string b)) (by omega)⟩
            have hB8 : Kp _ := ⟨hB7.out.setCell (p := ⟨w.heap.size, i, none⟩) (Nat.le_refl _) (.string b)⟩
            clear A7 X7 hB7
            go_wp2_with fail
            go_roundw
            case rel => exact ⟨i + 1, by omega, by go_num, A8, X8, hB8⟩
            case measure => simp [intOf]; omega
          · have A8 : Kp _ := ⟨A7.out.same (fun j _ => padI_skip (T := T) (l := l) (z := z) (b := b) hni j)⟩
            clear A7
            go_wp2_with fail
            go_roundw
            case rel => exact ⟨i + 1, by omega, by go_num, A8, X7, hB7⟩
            case measure => simp [intOf]; omega
        · have h1i : ¬ (1 : Int) < s.size := by omega
          have hn := hnn.out
          rw [if_neg h1] at hn
          have A8 : Kp _ := ⟨A7.out.same (fun j _ => padI_skip (T := T) (l := l) (z := z) (b := b) (by omega) j)⟩
          clear A7 hn
          go_wp2_with fail
          go_roundw
          case rel => exact ⟨i + 1, by omega, by go_num, A8, X7, hB7⟩
          case measure => simp [intOf]; omega
      · have e6 : i = 6 := by omega
        subst e6
        obtain ⟨mt, hmt⟩ : ∃ mt, padT T l z b nn = mt := ⟨_, rfl⟩
        have A8 : TapAt wr w.heap.size (fun j => mt j) := A7.out.same (fun j hj => by rw [← hmt]; exact padI_end j hj)
        rw [hmt] at R2
        replace hmt : Kp _ := ⟨hmt⟩
        have t0 := A8.c 0 (by omega)
        have t1 := A8.c 1 (by omega)
        have t2 := A8.c 2 (by omega)
        have t3 := A8.c 3 (by omega)
        have t4 := A8.c 4 (by omega)
        have t5 := A8.c 5 (by omega)
        clear A7 A8
        go_wp2_with fail
        refine (R2.out _).mono ?_
        rintro e w9 ⟨rfl, b9⟩
        have X9 := X7.out.step b9
        have hB9 := hB7.out.trans (b9.mono hB7.out.size)
        have hx9 := X9.lt
        have hxx : (x == x) = true := by simp
        have p0 := X9.c0
        have p1 := X9.c1
        have p2 := X9.cl 0 (by omega)
        have p3 := X9.cl 1 (by omega)
        have p4 := X9.cl 2 (by omega)
        have p5 := X9.cl 3 (by omega)
        have p6 := X9.cl 4 (by omega)
        have p7 := X9.cl 5 (by omega)
        have p8 := X9.cv
        clear X7 X9 hB7 b9 R2 t0 t1 t2 t3 t4 t5
        go_wp2_with fail
        go_ret
        exact ⟨ret_bool (by simp), hB9.alloc hB9.size _⟩
end Go.Proofs.Ytcnbifdlkalimaa
