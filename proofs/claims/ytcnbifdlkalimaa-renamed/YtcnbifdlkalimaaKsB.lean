import Derived.Test.YtcnbifdlkalimaaKn0
import Derived.Test.YtcnbifdlkalimaaMch8
import Derived.Deep.QuietTactic
import Derived.BigQuiet
import Derived.Test.YtcnbifdlkalimaaPrg7

/-
  The walks of the statements' own functions: the run with which they begin, beginnings of texts, levels by a file's bytes; no condition but those that stand in each lemma.
-/
namespace Go.Proofs.Ytcnbifdlkalimaa
open Go.RowKit
set_option linter.unusedVariables false
set_option maxRecDepth 100000

/-- the tapes of the first run -/
def tapK (l : Int) : ByteArray := if l = 0 then { data := #[120, 121] } else if l = 1 then { data := #[122] } else { data := #[] }

theorem runK : endOf ⟨#[10, 0, 11, 1]⟩ tapK 5 = 1 ∧ cntOf ⟨#[10, 0, 11, 1]⟩ tapK 5 = 2 ∧ logOf ⟨#[10, 0, 11, 1]⟩ tapK 5 0 = { data := #[] } ∧ logOf ⟨#[10, 0, 11, 1]⟩ tapK 5 1 = { data := #[120] } := by
  refine ⟨by kernel_rfl, by kernel_rfl, by kernel_rfl, by kernel_rfl⟩

theorem codeK : fCode ⟨#[83, 2, 49, 49, 48, 49, 0, 2, 10, 0, 11, 1]⟩ = ⟨#[10, 0, 11, 1]⟩ := by kernel_rfl

/-- what Run answers is determined -/
theorem run_one {s : ByteArray} {T : Int → ByteArray} {f : Int} {r : Value} {x : Int} (hs : s.size ≤ maxLen) (h : RunAns s T f r x) :
    (∀ p e, CheckIs s p e → e ≠ 0 → r = resZ ∧ x = e) ∧ (CheckIs s 0 0 → f < 0 ∨ 20000 < f → r = resZ ∧ x = 10) ∧ (CheckIs s 0 0 → 0 ≤ f → f ≤ 20000 → r = resV (fCode s) (fVars s) T f.toNat ∧ x = 0) := by
  have one : ∀ {p e p' e'}, CheckIs s p e → CheckIs s p' e' → p = p' ∧ e = e' := fun a b => check_one (fun h => ranged_of (file_ok hs h).ok) a b
  rcases h with ⟨p, hC, hx, hr⟩ | ⟨hC, hf, hx, hr⟩ | ⟨hC, hf0, hf1, hx, hr⟩
  · exact ⟨fun p' e' hC' _ => ⟨hr, (one hC hC').2⟩, fun hC' => absurd (one hC hC').2 hx, fun hC' => absurd (one hC hC').2 hx⟩
  · exact ⟨fun p' e' hC' he => absurd (one hC hC').2.symm he, fun _ _ => ⟨hr, hx⟩, fun _ a b => by omega⟩
  · exact ⟨fun p' e' hC' he => absurd (one hC hC').2.symm he, fun _ h => by omega, fun _ _ _ => ⟨hr, hx⟩⟩

set_option maxHeartbeats 800000 in
theorem known_any (w : World) : Calls Try.prog 27 #[] w fun e w' => e = .returned (.bool true) ∧ Below w.heap.size w w' := by
  have hR := fun w1 => prun_any { data := #[83, 2, 49, 49, 48, 49, 0, 2, 10, 0, 11, 1] } tapK 5 w1 kl1 (fun l _ => by unfold tapK maxLen; split; decide; split; decide; decide)
  rw [show tapV tapK = .agg #[.string { data := #[120, 121] }, .string { data := #[122] }, .string { data := #[] }, .string { data := #[] }, .string { data := #[] }, .string { data := #[] }] from rfl] at hR
  replace hR : Kp _ := ⟨hR⟩
  go_enter Try.func27, Try.ntmps27
  go_wp2_with fail
  refine (lets_any _).mono ?_
  rintro e w1 ⟨rfl, b0⟩
  go_wp2_with fail
  refine (two_any { data := #[] } { data := #[10, 0, 11, 1] } _ (by decide) (by decide)).mono ?_
  rintro e w2 ⟨rfl, b1⟩
  rw [show twoF { data := #[] } { data := #[10, 0, 11, 1] } = { data := #[83, 2, 49, 49, 48, 49, 0, 2, 10, 0, 11, 1] } from by kernel_rfl]
  replace b0 := b0.trans (b1.mono b0.size)
  clear b1
  go_wp2_with fail
  refine (hR.out _).mono ?_
  rintro e w3 ⟨r, x, rfl, hA, b1⟩
  obtain ⟨rfl, rfl⟩ := (run_one kl1 hA.out).2.2 kc28 (by omega) (by omega)
  replace b0 := b0.trans (b1.mono b0.size)
  clear b1 hA hR
  rw [codeK, show (5 : Int).toNat = 5 from rfl]
  unfold resV
  rw [runK.1, runK.2.1, runK.2.2.1, runK.2.2.2]
  go_wp2_with fail
  go_ret
  exact ⟨rfl, b0.alloc b0.size _⟩

/-- is one of two texts the beginning of the other? -/
def startsB (a b : ByteArray) : Bool := if b.size < a.size then b.toList == (a.extract 0 b.size).toList else a.toList == (b.extract 0 a.size).toList

set_option maxHeartbeats 800000 in
theorem starts_any (a b : ByteArray) (w : World) (ha : a.size ≤ maxLen) (hb : b.size ≤ maxLen) : Calls Try.prog 31 #[.string a, .string b] w fun e w' => e = .returned (.bool (startsB a b)) ∧ w' = w := by
  unfold maxLen at ha hb
  by_cases h : b.size < a.size
  · have e : Kp (startsB a b = (b.toList == (a.extract 0 b.size).toList)) := ⟨if_pos h⟩
    go_enter Try.func31, Try.ntmps31
    go_wp2
    go_ret
    exact ⟨ret_bool e.out.symm, rfl⟩
  · have e : Kp (startsB a b = (a.toList == (b.extract 0 a.size).toList)) := ⟨if_neg h⟩
    go_enter Try.func31, Try.ntmps31
    go_wp2
    go_ret
    exact ⟨ret_bool e.out.symm, rfl⟩

theorem starts_left (a b : ByteArray) : startsB a (a ++ b) = true := by
  unfold startsB
  have hs : (a ++ b).size = a.size + b.size := by simp
  by_cases h : (a ++ b).size < a.size
  · omega
  · rw [if_neg h, ext_left]
    simp
theorem starts_right (a b : ByteArray) : startsB (a ++ b) a = true := by
  unfold startsB
  by_cases h : a.size < (a ++ b).size
  · rw [if_pos h, ext_left]
    simp
  · have hs : (a ++ b).size = a.size + b.size := by simp
    rw [if_neg h, show (a ++ b).size = a.size from by omega, show a.extract 0 a.size = a from by simp]
    have hb : b = { data := #[] } := by
      apply ByteArray.ext
      exact Array.eq_empty_of_size_eq_zero (by show b.size = 0; omega)
    rw [hb]
    have : a ++ ({ data := #[] } : ByteArray) = a := by
      apply ByteArray.ext
      rw [ByteArray.data_append]
      simp
    rw [this]
    simp

/-- levels by a file's bytes -/
theorem bv_cut {s : ByteArray} {a n : Int} {k : Nat} (ha : 0 ≤ a) (hk : (k : Int) < n) (h : a + n ≤ s.size) : bv (hd (tl s a) n) k = bv s (a + k) := by
  have e1 : bv (hd (tl s a) n) k = bv (tl s a) k := bv_hd k hk (by rw [tl_size ha (by omega)]; omega)
  rw [e1]
  unfold bv tl
  have := byt_cut s a.toNat s.size k (Nat.le_refl _) (by omega)
  rw [this, show (((a.toNat + k : Nat)) : Int) = a + k from by omega]

theorem byt_bv {s t : ByteArray} {i j : Int} (h : bv s i = bv t j) : byt s i = byt t j := by
  unfold bv at h
  exact UInt8.toNat.inj (by omega)

theorem tl_add {s : ByteArray} {a b : Int} (ha : 0 ≤ a) (hb : 0 ≤ b) (h : a ≤ s.size) : tl (tl s a) b = tl s (a + b) := by
  have e := tl_size ha h
  unfold tl at e ⊢
  rw [ByteArray.extract_extract]
  congr 1
  · omega
  · omega
theorem bv_tlk {s : ByteArray} {a : Int} {k : Nat} (ha : 0 ≤ a) (h : a + k < s.size) : bv (tl s a) k = bv s (a + k) := by
  unfold bv tl
  have := byt_cut s a.toNat s.size k (Nat.le_refl _) (by omega)
  rw [this, show (((a.toNat + k : Nat)) : Int) = a + k from by omega]

/-- where a scanned file's parts lie -/
structure FileAt (s : ByteArray) (n m k : Int) : Prop where
  n0 : 1 ≤ n
  n6 : n ≤ 6
  hn : bv s 1 = n
  m0 : 0 ≤ m
  m8 : m ≤ 8
  hm : bv s (2 + n * n) = m
  k0 : 0 ≤ k
  k9 : k ≤ 200
  hk : bv s (3 + n * n + m) = k
  sz : (s.size : Int) = 4 + n * n + m + 2 * k
  tab : fTab s = hd (tl s 2) (n * n)
  vars : fVars s = hd (tl s (3 + n * n)) m
  code : fCode s = hd (tl s (4 + n * n + m)) (2 * k)
  lo : s.size ≤ 448
  c0 : bv s 0 = 83

theorem file_at {s : ByteArray} (h : scanE s = 0) : FileAt s (bv s 1) (bv s (2 + bv s 1 * bv s 1)) (half (fCode s)) := by
  rcases scan_cases s with ⟨_, k⟩ | ⟨_, _, k⟩ | ⟨_, _, k3, k⟩ | ⟨_, _, _, _, k⟩ | ⟨k1, k2, k3, k4, k5⟩
  · omega
  · omega
  · omega
  · omega
  · unfold fOk fTabOk vOk at k2
    simp only [Bool.and_eq_true] at k2
    obtain ⟨⟨f1, f2, _⟩, ⟨f3, _⟩, f4, f5⟩ := k2
    obtain ⟨a1, a2, a3, a4⟩ := fHead_t f1
    obtain ⟨c1, c2, c3⟩ := cOk_t f3
    obtain ⟨d1, d2, d3⟩ := cOk_t f4
    have f2 := of_decide_eq_true f2
    have f5 := of_decide_eq_true f5
    have eT : fTab s = hd (tl s 2) (bv s 1 * bv s 1) := rfl
    generalize hn : bv s 1 = n at *
    have hnn : 0 ≤ n * n := Int.mul_nonneg (by omega) (by omega)
    have e2 := tl_size (s := s) (n := 2) (by omega) (by omega)
    rw [e2] at f2
    have r1 : fR1 s = tl s (2 + n * n) := by unfold fR1; rw [hn]; exact tl_add (by omega) hnn (by omega)
    generalize hN : n * n = N at *
    have e3 := tl_size (s := s) (n := 2 + N) (by omega) (by omega)
    rw [r1] at c1 c2 c3
    have b0 : bv (tl s (2 + N)) 0 = bv s (2 + N) := by
      have := bv_tlk (s := s) (a := 2 + N) (k := 0) (by omega) (by omega)
      simpa using this
    rw [b0] at c2 c3
    have eV : fVars s = hd (tl s (3 + N)) (bv s (2 + N)) := by
      show hd (tl (fR1 s) 1) (1 * bv (fR1 s) 0) = _
      rw [r1, b0, Int.one_mul, tl_add (by omega) (by omega) (by omega), show 2 + N + 1 = 3 + N from by omega]
    have e4 : tl (tl s (2 + N)) 1 = tl s (3 + N) := by rw [tl_add (by omega) (by omega) (by omega), show 2 + N + 1 = 3 + N from by omega]
    rw [e4, Int.one_mul] at c3
    have e5 := tl_size (s := s) (n := 3 + N) (by omega) (by omega)
    rw [e5] at c3
    have m0 := (bv_bd s (2 + N)).1
    generalize hm : bv s (2 + N) = m at *
    have r2 : fR2 s = tl s (3 + N + m) := by
      show tl (tl (fR1 s) 1) (1 * bv (fR1 s) 0) = _
      rw [r1, b0, Int.one_mul, e4, tl_add (by omega) m0 (by omega)]
    rw [r2] at d1 d2 d3
    have e6 := tl_size (s := s) (n := 3 + N + m) (by omega) (by omega)
    have b1 : bv (tl s (3 + N + m)) 0 = bv s (3 + N + m) := by
      have := bv_tlk (s := s) (a := 3 + N + m) (k := 0) (by omega) (by omega)
      simpa using this
    have e7 : tl (tl s (3 + N + m)) 1 = tl s (4 + N + m) := by rw [tl_add (by omega) (by omega) (by omega), show 3 + N + m + 1 = 4 + N + m from by omega]
    rw [b1] at d2 d3
    rw [e7] at d3
    have e8 := tl_size (s := s) (n := 4 + N + m) (by omega) (by omega)
    rw [e8] at d3
    have k0 := (bv_bd s (3 + N + m)).1
    have eC : fCode s = hd (tl s (4 + N + m)) (2 * bv s (3 + N + m)) := by
      show hd (tl (fR2 s) 1) (2 * bv (fR2 s) 0) = _
      rw [r2, b1, e7]
    have eS : ((fCode s).size : Int) = 2 * bv s (3 + N + m) := by rw [eC]; exact hd_size (by omega) (by rw [e8]; omega)
    have eH : half (fCode s) = bv s (3 + N + m) := by unfold half; omega
    have r3 : fR3 s = tl (tl s (4 + N + m)) (2 * bv s (3 + N + m)) := by
      show tl (tl (fR2 s) 1) (2 * bv (fR2 s) 0) = _
      rw [r2, b1, e7]
    rw [r3] at f5
    have e9 := tl_size (s := tl s (4 + N + m)) (n := 2 * bv s (3 + N + m)) (by omega) (by rw [e8]; omega)
    rw [e8] at e9
    subst hN
    rw [eH]
    exact ⟨by omega, by omega, hn, m0, by omega, hm, k0, by omega, rfl, by omega, eT, eV, eC, k1, a2⟩
end Go.Proofs.Ytcnbifdlkalimaa

/-
  The walks of the statements' own functions, second part: levels by a file's bytes, what one sees of two runs; for every scanned file.
-/
namespace Go.Proofs.Ytcnbifdlkalimaa
open Go.RowKit
set_option linter.unusedVariables false
set_option maxRecDepth 100000

theorem FileAt.bds {s : ByteArray} {n m k : Int} (H : FileAt s n m k) : 1 < s.size ∧ (2 : Int) ≤ s.size ∧ n * n ≤ 36 ∧ 1 ≤ n * n ∧ 4 + n * n + m ≤ s.size ∧ s.size ≤ 448 := by
  have h4 := sq_le n H.n0 H.n6
  have h5 : 1 * 1 ≤ n * n := Int.mul_le_mul H.n0 H.n0 (by omega) (by have := H.n0; omega)
  have hsz := H.sz
  have hm0 := H.m0
  have hk0 := H.k0
  have hl := H.lo
  omega

theorem under_byte {s : ByteArray} {n m k : Int} (H : FileAt s n m k) {a b : Int} (ha : 0 ≤ a) (ha' : a < n) (hb : 0 ≤ b) (hb' : b < n) (hi : (2 + a * n + b).toNat < s.size) : ((((s[(2 + a * n + b).toNat]'hi).toNat : Nat) : Int) == 49) = le (fTab s) n a b := by
  obtain ⟨h1, h2⟩ := ix_lt n a b ha ha' hb'
  have hB := H.bds
  have hm0 := H.m0
  have e1 := byt_eq s (2 + a * n + b) 49 hi
  have e2 : bv (fTab s) ((a * n + b).toNat : Nat) = bv s (2 + ((a * n + b).toNat : Nat)) := by rw [H.tab]; exact bv_cut (by omega) (by omega) (by omega)
  rw [show (((a * n + b).toNat : Nat) : Int) = a * n + b from by omega] at e2
  have e3 := byt_bv e2
  unfold le
  rw [e3, show 2 + (a * n + b) = 2 + a * n + b from by omega]
  exact e1

set_option maxHeartbeats 400000 in
theorem kunder_any {s : ByteArray} {n m k : Int} (H : FileAt s n m k) (a b : Int) (w : World) (ha : 0 ≤ a) (ha' : a < n) (hb : 0 ≤ b) (hb' : b < n) :
    Calls Try.prog 28 #[.string s, .int .i64 a, .int .i64 b] w fun e w' => e = .returned (.bool (le (fTab s) n a b)) ∧ w' = w := by
  obtain ⟨h1, h2⟩ := ix_lt n a b ha ha' hb'
  obtain ⟨g0, g2, g3, g4, g5, g6⟩ := H.bds
  have n0 := H.n0
  have n6 := H.n6
  have hm0 := H.m0
  have hi : (2 + a * n + b).toNat < s.size := by omega
  have hii : 2 + a * n + b < s.size := by omega
  have hv := bv_nat s 1 g0
  rw [show ((1 : Nat) : Int) = 1 from rfl, H.hn] at hv
  have HL : Kp _ := ⟨under_byte H ha ha' hb hb' hi⟩
  clear H
  go_enter Try.func28, Try.ntmps28
  go_wp2
  go_ret
  exact ⟨ret_bool HL.out, rfl⟩

set_option maxHeartbeats 400000 in
theorem kvariable_any {s : ByteArray} {n m k : Int} (H : FileAt s n m k) (x : Nat) (w : World) (hx : (x : Int) < m) :
    Calls Try.prog 53 #[.string s, .int .i64 x] w fun e w' => e = .returned (.int .i64 (bv (fVars s) x)) ∧ w' = w := by
  obtain ⟨g0, g2, g3, g4, g5, g6⟩ := H.bds
  have n0 := H.n0
  have n6 := H.n6
  have hm8 := H.m8
  have hi : (3 + n * n + x).toNat < s.size := by omega
  have hii : 3 + n * n + x < s.size := by omega
  have hv := bv_nat s 1 g0
  rw [show ((1 : Nat) : Int) = 1 from rfl, H.hn] at hv
  have HL := bv_get s (3 + n * n + x) hi
  have e2 : bv (fVars s) x = bv s (3 + n * n + x) := by rw [H.vars]; exact bv_cut (by omega) (by omega) (by omega)
  rw [← e2] at HL
  replace e2 : Kp _ := ⟨e2⟩
  obtain ⟨y0, y9⟩ := bv_bd (fVars s) x
  generalize hy : bv (fVars s) x = y at *
  replace hy : Kp _ := ⟨hy⟩
  clear H
  go_enter Try.func53, Try.ntmps53
  go_wp2
  go_ret
  exact ⟨ret_int (by simp), rfl⟩

/-- a result as a value -/
def resA (en st : Int) (y : Nat → ByteArray) (v : ByteArray) : Value := .agg #[.int .i64 en, .int .i64 st, .string (y 0), .string (y 1), .string (y 2), .string (y 3), .string (y 4), .string (y 5), .string v]

theorem resV_resA (c v : ByteArray) (T : Int → ByteArray) (f : Nat) : resV c v T f = resA (endOf c T f) (cntOf c T f) (fun j => logOf c T f j) (varsOf c v T f) := rfl

theorem ResAt.box (w : World) (t : TypeId) (en st : Int) (y : Nat → ByteArray) (v : ByteArray) : ResAt (w.alloc (.cells #[.int .i64 en, .int .i64 st, .string (y 0), .string (y 1), .string (y 2), .string (y 3), .string (y 4), .string (y 5), .string v] t)) w.heap.size en st y v := by
  refine ⟨by simp, by simp [go_sem], by simp [go_sem], fun j hj => ?_, by simp [go_sem], fun j hj => ?_⟩
  · match j with
    | 0 => simp [go_sem]
    | 1 => simp [go_sem]
    | 2 => simp [go_sem]
    | 3 => simp [go_sem]
    | 4 => simp [go_sem]
    | 5 => simp [go_sem]
    | j + 6 => omega
  · simp [go_sem]

/-- what two results have in common -/
structure BlindIn (s : ByteArray) (n m o en1 en2 : Int) (y1 y2 : Nat → ByteArray) (v1 v2 : ByteArray) : Prop where
  l1 : ∀ j, j < 6 → (y1 j).size ≤ maxLen
  l2 : ∀ j, j < 6 → (y2 j).size ≤ maxLen
  logs : ∀ l : Nat, (l : Int) < n → le (fTab s) n l o = true → startsB (y1 l) (y2 l) = true ∧ (en1 = 1 → en2 = 1 → y1 l = y2 l)
  vs1 : (v1.size : Int) = m
  vs2 : (v2.size : Int) = m
  vars : en1 = 1 → en2 = 1 → ∀ x : Nat, x < v1.size → le (fTab s) n (bv (fVars s) x) o = true → bv v1 x = bv v2 x
  lv : ∀ x : Nat, (x : Int) < m → Lv n (bv (fVars s) x)

set_option maxHeartbeats 3200000 in
theorem blind_any {s : ByteArray} {n m k : Int} (H : FileAt s n m k) (o en1 st1 en2 st2 : Int) (y1 y2 : Nat → ByteArray) (v1 v2 : ByteArray) (w : World) (ho0 : 0 ≤ o) (ho1 : o < n) (I : Kp (BlindIn s n m o en1 en2 y1 y2 v1 v2)) :
    Calls Try.prog 30 #[.string s, .int .i64 o, resA en1 st1 y1 v1, resA en2 st2 y2 v2] w fun e w' => e = .returned (.bool true) ∧ Below w.heap.size w w' := by
  obtain ⟨g0, g2, g3, g4, g5, g6⟩ := H.bds
  have n0 := H.n0
  have n6 := H.n6
  have hm8 := H.m8
  have hv := bv_nat s 1 g0
  rw [show ((1 : Nat) : Int) = 1 from rfl, H.hn] at hv
  obtain ⟨wb, hwb⟩ : ∃ wb, wb = (w.alloc (.cells #[.int .i64 en1, .int .i64 st1, .string (y1 0), .string (y1 1), .string (y1 2), .string (y1 3), .string (y1 4), .string (y1 5), .string v1] 51)).alloc (.cells #[.int .i64 en2, .int .i64 st2, .string (y2 0), .string (y2 1), .string (y2 2), .string (y2 3), .string (y2 4), .string (y2 5), .string v2] 51) := ⟨_, rfl⟩
  have X1 : ResAt wb w.heap.size en1 st1 y1 v1 := by rw [hwb]; exact (ResAt.box w _ en1 st1 y1 v1).step ((Below.refl _ _).alloc (Nat.le_refl _) _)
  have X2 : ResAt wb (w.heap.size + 1) en2 st2 y2 v2 := by
    rw [hwb]
    have := ResAt.box (w.alloc (.cells #[.int .i64 en1, .int .i64 st1, .string (y1 0), .string (y1 1), .string (y1 2), .string (y1 3), .string (y1 4), .string (y1 5), .string v1] 51)) 51 en2 st2 y2 v2
    simpa using this
  have hB0 : Below w.heap.size w wb := by rw [hwb]; exact ((Below.refl _ _).alloc (Nat.le_refl _) _).alloc (by simp) _
  replace hwb : Kp _ := ⟨hwb⟩
  have H : Kp _ := ⟨H⟩
  unfold resA
  by_cases d : en1 = 1 ∧ en2 = 1
  · obtain ⟨rfl, rfl⟩ := d
    go_enter Try.func30, Try.ntmps30
    go_wp2_with fail
    go_loopw [10] (fun lv wr => ∃ l : Nat, (l : Int) ≤ n ∧ lv = .int .i64 l ∧ Kp (ResAt wr w.heap.size 1 st1 y1 v1) ∧ Kp (ResAt wr (w.heap.size + 1) 1 st2 y2 v2) ∧ Kp (Below w.heap.size w wr)) (fun lv _ => n.toNat - (intOf lv).toNat)
    case atStart => exact ⟨0, by omega, rfl, ⟨by rw [← hwb.out]; exact X1⟩, ⟨by rw [← hwb.out]; exact X2⟩, ⟨by rw [← hwb.out]; exact hB0⟩⟩
    case round =>
      clear X1 X2 hB0 hwb
      obtain ⟨l, hl, rfl, Y1, Y2, hB⟩ := hrel
      by_cases hln : (l : Int) < n
      · have hl6 : (l : Int) < 6 := by omega
        have c1 := Y1.out.cl l (by omega)
        have c2 := Y2.out.cl l (by omega)
        have s1 := I.out.l1 l (by omega)
        have s2 := I.out.l2 l (by omega)
        have hU := fun W => kunder_any H.out l o W (by omega) hln ho0 ho1
        have hS := fun W => starts_any (y1 l) (y2 l) W s1 s2
        cases hu : le (fTab s) n l o with
        | false =>
          rw [hu] at hU
          generalize y1 l = a1 at *
          generalize y2 l = a2 at *
          replace hU : Kp _ := ⟨hU⟩
          replace hS : Kp _ := ⟨hS⟩
          generalize startsB a1 a2 = bb at *
          clear hu
          go_wp2_with fail
          refine (hU.out _).mono ?_
          rintro e w1 ⟨rfl, hw1⟩
          subst hw1
          go_wp2_with fail
          go_quiet ((go_at_call 31; exact Calls.quiet_of_same (hS.out _)))
          have Z1 := Y1.out.step (below_drewN (Below.refl _ _) nq)
          have Z2 := Y2.out.step (below_drewN (Below.refl _ _) nq)
          have hB5 := below_drewN hB.out nq
          generalize w1.drewN nq = w5 at Z1 Z2 hB5 ⊢
          replace Z1 : Kp _ := ⟨Z1⟩
          replace Z2 : Kp _ := ⟨Z2⟩
          replace hB5 : Kp _ := ⟨hB5⟩
          clear c1 c2 Y1 Y2 hB hU hS
          go_wp2_with fail
          go_quiet (fail)
          go_wp2_with fail
          go_roundw
          case rel => exact ⟨l + 1, by omega, by go_num, ⟨Z1.out.step (below_drewN (Below.refl _ _) _)⟩, ⟨Z2.out.step (below_drewN (Below.refl _ _) _)⟩, ⟨below_drewN hB5.out _⟩⟩
          case measure => simp [intOf]; omega
        | true =>
          rw [hu] at hU
          obtain ⟨hst, hsm⟩ := I.out.logs l hln hu
          rw [hst] at hS
          have hE : y2 l = y1 l := (hsm rfl rfl).symm
          rw [hE] at c2 hS
          replace hE : Kp _ := ⟨hE⟩
          clear hsm
          obtain ⟨a1, ha1⟩ : ∃ a1, y1 l = a1 := ⟨_, rfl⟩
          rw [ha1] at c1 c2 hS
          replace ha1 : Kp _ := ⟨ha1⟩
          replace hU : Kp _ := ⟨hU⟩
          replace hS : Kp _ := ⟨hS⟩
          clear hu hst
          go_wp2_with fail
          refine (hU.out _).mono ?_
          rintro e w1 ⟨rfl, hw1⟩
          subst hw1
          go_wp2_with fail
          go_quiet ((go_at_call 31; exact Calls.quiet_of_same (hS.out _)))
          have Z1 := Y1.out.step (below_drewN (Below.refl _ _) nq)
          have Z2 := Y2.out.step (below_drewN (Below.refl _ _) nq)
          have hB5 := below_drewN hB.out nq
          generalize w1.drewN nq = w5 at Z1 Z2 hB5 ⊢
          have c3 := Z1.cl l (by omega)
          have c4 := Z2.cl l (by omega)
          rw [hE.out] at c4
          rw [ha1.out] at c3 c4
          have hnn : (a1.toList != a1.toList) = false := by simp
          replace Z1 : Kp _ := ⟨Z1⟩
          replace Z2 : Kp _ := ⟨Z2⟩
          replace hB5 : Kp _ := ⟨hB5⟩
          clear c1 c2 Y1 Y2 hB hU hS
          go_wp2_with fail
          go_quiet (fail)
          go_wp2_with fail
          go_roundw
          case rel => exact ⟨l + 1, by omega, by go_num, ⟨Z1.out.step (below_drewN (Below.refl _ _) _)⟩, ⟨Z2.out.step (below_drewN (Below.refl _ _) _)⟩, ⟨below_drewN hB5.out _⟩⟩
          case measure => simp [intOf]; omega
      · have e : (l : Int) = n := by omega
        have f1 := Y1.out.cv
        have f2 := Y2.out.cv
        have z1 := I.out.vs1
        have z2 := I.out.vs2
        have hzz : v1.size = v2.size := by omega
        have hzn : ((v1.size : Int) != (v2.size : Int)) = false := by simp; omega
        have hwl : Kp (∀ x : Nat, (x : Int) < m → Lv n (bv (fVars s) x)) := ⟨I.out.lv⟩
        have hzm := z1
        clear e z2
        go_wp2_with fail
        obtain ⟨wq, hwq⟩ : ∃ wq, wq = wr := ⟨_, rfl⟩
        rw [← hwq] at Y1 Y2 hB ⊢
        clear hwq f1 f2
        go_loopw [13] (fun xv wr => ∃ x : Nat, x ≤ v1.size ∧ xv = .int .i64 x ∧ Kp (ResAt wr w.heap.size 1 st1 y1 v1) ∧ Kp (ResAt wr (w.heap.size + 1) 1 st2 y2 v2) ∧ Kp (Below w.heap.size w wr)) (fun xv _ => v1.size - (intOf xv).toNat)
        case atStart => exact ⟨0, by omega, rfl, Y1, Y2, hB⟩
        case round =>
          clear Y1 Y2 hB
          obtain ⟨x, hx, rfl, Y1, Y2, hB⟩ := hrel
          have f1 := Y1.out.cv
          have f2 := Y2.out.cv
          by_cases hxn : x < v1.size
          · have hxm : (x : Int) < m := by omega
            have hxi : (x : Int) < v1.size := by omega
            have hx2 : x < v2.size := by omega
            have hxj : (x : Int) < v2.size := by omega
            have hL := hwl.out x hxm
            have hVr := fun W => kvariable_any H.out x W hxm
            have hU := fun W => kunder_any H.out (bv (fVars s) x) o W hL.1 hL.2 ho0 ho1
            have p1 := bv_nat v1 x hxn
            have p2 := bv_nat v2 x hx2
            cases hu : le (fTab s) n (bv (fVars s) x) o with
            | false =>
              rw [hu] at hU
              generalize bv (fVars s) x = lv at *
              replace hU : Kp _ := ⟨hU⟩
              replace hVr : Kp _ := ⟨hVr⟩
              clear hu hL p1 p2
              go_wp2_with fail
              refine (hVr.out _).mono ?_
              rintro e w1 ⟨rfl, hw1⟩
              subst hw1
              go_wp2_with fail
              refine (hU.out _).mono ?_
              rintro e w1 ⟨rfl, hw1⟩
              subst hw1
              go_wp2_with fail
              go_quiet (fail)
              go_wp2_with fail
              go_roundw
              case rel => exact ⟨x + 1, by omega, by go_num, ⟨Y1.out.step (below_drewN (Below.refl _ _) _)⟩, ⟨Y2.out.step (below_drewN (Below.refl _ _) _)⟩, ⟨below_drewN hB.out _⟩⟩
              case measure => simp [intOf]; omega
            | true =>
              rw [hu] at hU
              have hsm := I.out.vars rfl rfl x hxn hu
              rw [← hsm] at p2
              generalize bv (fVars s) x = lv at *
              replace hU : Kp _ := ⟨hU⟩
              replace hVr : Kp _ := ⟨hVr⟩
              obtain ⟨q0, q9⟩ := bv_bd v1 x
              generalize bv v1 x = q at *
              clear hu hL hsm
              go_wp2_with fail
              refine (hVr.out _).mono ?_
              rintro e w1 ⟨rfl, hw1⟩
              subst hw1
              go_wp2_with fail
              refine (hU.out _).mono ?_
              rintro e w1 ⟨rfl, hw1⟩
              subst hw1
              go_wp2_with fail
              go_quiet (fail)
              go_wp2_with fail
              go_roundw
              case rel => exact ⟨x + 1, by omega, by go_num, ⟨Y1.out.step (below_drewN (Below.refl _ _) _)⟩, ⟨Y2.out.step (below_drewN (Below.refl _ _) _)⟩, ⟨below_drewN hB.out _⟩⟩
              case measure => simp [intOf]; omega
          · have e : x = v1.size := by omega
            go_wp2_with fail
            go_ret
            exact ⟨rfl, hB.out⟩
  · by_cases d1 : en1 = 1
    · have d2 : (en2 == 1) = false := beq_eq_false_iff_ne.2 (fun e => d ⟨d1, e⟩)
      subst d1
      clear d
      go_enter Try.func30, Try.ntmps30
      go_wp2_with fail
      go_loopw [10] (fun lv wr => ∃ l : Nat, (l : Int) ≤ n ∧ lv = .int .i64 l ∧ Kp (ResAt wr w.heap.size 1 st1 y1 v1) ∧ Kp (ResAt wr (w.heap.size + 1) en2 st2 y2 v2) ∧ Kp (Below w.heap.size w wr)) (fun lv _ => n.toNat - (intOf lv).toNat)
      case atStart => exact ⟨0, by omega, rfl, ⟨by rw [← hwb.out]; exact X1⟩, ⟨by rw [← hwb.out]; exact X2⟩, ⟨by rw [← hwb.out]; exact hB0⟩⟩
      case round =>
        clear X1 X2 hB0 hwb
        obtain ⟨l, hl, rfl, Y1, Y2, hB⟩ := hrel
        by_cases hln : (l : Int) < n
        · have hl6 : (l : Int) < 6 := by omega
          have c1 := Y1.out.cl l (by omega)
          have c2 := Y2.out.cl l (by omega)
          have s1 := I.out.l1 l (by omega)
          have s2 := I.out.l2 l (by omega)
          have hU := fun W => kunder_any H.out l o W (by omega) hln ho0 ho1
          have hS := fun W => starts_any (y1 l) (y2 l) W s1 s2
          cases hu : le (fTab s) n l o with
          | false =>
            rw [hu] at hU
            generalize y1 l = a1 at *
            generalize y2 l = a2 at *
            replace hU : Kp _ := ⟨hU⟩
            replace hS : Kp _ := ⟨hS⟩
            generalize startsB a1 a2 = bb at *
            clear hu
            go_wp2_with fail
            refine (hU.out _).mono ?_
            rintro e w1 ⟨rfl, hw1⟩
            subst hw1
            go_wp2_with fail
            go_quiet ((go_at_call 31; exact Calls.quiet_of_same (hS.out _)))
            have Z1 := Y1.out.step (below_drewN (Below.refl _ _) nq)
            have Z2 := Y2.out.step (below_drewN (Below.refl _ _) nq)
            have hB5 := below_drewN hB.out nq
            generalize w1.drewN nq = w5 at Z1 Z2 hB5 ⊢
            replace Z1 : Kp _ := ⟨Z1⟩
            replace Z2 : Kp _ := ⟨Z2⟩
            replace hB5 : Kp _ := ⟨hB5⟩
            clear c1 c2 Y1 Y2 hB hU hS
            go_wp2_with fail
            go_quiet (fail)
            go_wp2_with fail
            go_roundw
            case rel => exact ⟨l + 1, by omega, by go_num, ⟨Z1.out.step (below_drewN (Below.refl _ _) _)⟩, ⟨Z2.out.step (below_drewN (Below.refl _ _) _)⟩, ⟨below_drewN hB5.out _⟩⟩
            case measure => simp [intOf]; omega
          | true =>
            rw [hu] at hU
            obtain ⟨hst, hsm⟩ := I.out.logs l hln hu
            rw [hst] at hS
            clear hsm
            generalize y1 l = a1 at *
            generalize y2 l = a2 at *
            replace hU : Kp _ := ⟨hU⟩
            replace hS : Kp _ := ⟨hS⟩
            clear hu hst
            go_wp2_with fail
            refine (hU.out _).mono ?_
            rintro e w1 ⟨rfl, hw1⟩
            subst hw1
            go_wp2_with fail
            go_quiet ((go_at_call 31; exact Calls.quiet_of_same (hS.out _)))
            have Z1 := Y1.out.step (below_drewN (Below.refl _ _) nq)
            have Z2 := Y2.out.step (below_drewN (Below.refl _ _) nq)
            have hB5 := below_drewN hB.out nq
            generalize w1.drewN nq = w5 at Z1 Z2 hB5 ⊢
            skip
            replace Z1 : Kp _ := ⟨Z1⟩
            replace Z2 : Kp _ := ⟨Z2⟩
            replace hB5 : Kp _ := ⟨hB5⟩
            clear c1 c2 Y1 Y2 hB hU hS
            go_wp2_with fail
            go_quiet (fail)
            go_wp2_with fail
            go_roundw
            case rel => exact ⟨l + 1, by omega, by go_num, ⟨Z1.out.step (below_drewN (Below.refl _ _) _)⟩, ⟨Z2.out.step (below_drewN (Below.refl _ _) _)⟩, ⟨below_drewN hB5.out _⟩⟩
            case measure => simp [intOf]; omega
        · have e : (l : Int) = n := by omega
          go_wp2_with fail
          go_ret
          exact ⟨rfl, hB.out⟩
    · have d2 : (en1 == 1) = false := beq_eq_false_iff_ne.2 d1
      clear d
      go_enter Try.func30, Try.ntmps30
      go_wp2_with fail
      go_loopw [10] (fun lv wr => ∃ l : Nat, (l : Int) ≤ n ∧ lv = .int .i64 l ∧ Kp (ResAt wr w.heap.size en1 st1 y1 v1) ∧ Kp (ResAt wr (w.heap.size + 1) en2 st2 y2 v2) ∧ Kp (Below w.heap.size w wr)) (fun lv _ => n.toNat - (intOf lv).toNat)
      case atStart => exact ⟨0, by omega, rfl, ⟨by rw [← hwb.out]; exact X1⟩, ⟨by rw [← hwb.out]; exact X2⟩, ⟨by rw [← hwb.out]; exact hB0⟩⟩
      case round =>
        clear X1 X2 hB0 hwb
        obtain ⟨l, hl, rfl, Y1, Y2, hB⟩ := hrel
        by_cases hln : (l : Int) < n
        · have hl6 : (l : Int) < 6 := by omega
          have c1 := Y1.out.cl l (by omega)
          have c2 := Y2.out.cl l (by omega)
          have s1 := I.out.l1 l (by omega)
          have s2 := I.out.l2 l (by omega)
          have hU := fun W => kunder_any H.out l o W (by omega) hln ho0 ho1
          have hS := fun W => starts_any (y1 l) (y2 l) W s1 s2
          cases hu : le (fTab s) n l o with
          | false =>
            rw [hu] at hU
            generalize y1 l = a1 at *
            generalize y2 l = a2 at *
            replace hU : Kp _ := ⟨hU⟩
            replace hS : Kp _ := ⟨hS⟩
            generalize startsB a1 a2 = bb at *
            clear hu
            go_wp2_with fail
            refine (hU.out _).mono ?_
            rintro e w1 ⟨rfl, hw1⟩
            subst hw1
            go_wp2_with fail
            go_quiet ((go_at_call 31; exact Calls.quiet_of_same (hS.out _)))
            have Z1 := Y1.out.step (below_drewN (Below.refl _ _) nq)
            have Z2 := Y2.out.step (below_drewN (Below.refl _ _) nq)
            have hB5 := below_drewN hB.out nq
            generalize w1.drewN nq = w5 at Z1 Z2 hB5 ⊢
            replace Z1 : Kp _ := ⟨Z1⟩
            replace Z2 : Kp _ := ⟨Z2⟩
            replace hB5 : Kp _ := ⟨hB5⟩
            clear c1 c2 Y1 Y2 hB hU hS
            go_wp2_with fail
            go_quiet (fail)
            go_wp2_with fail
            go_roundw
            case rel => exact ⟨l + 1, by omega, by go_num, ⟨Z1.out.step (below_drewN (Below.refl _ _) _)⟩, ⟨Z2.out.step (below_drewN (Below.refl _ _) _)⟩, ⟨below_drewN hB5.out _⟩⟩
            case measure => simp [intOf]; omega
          | true =>
            rw [hu] at hU
            obtain ⟨hst, hsm⟩ := I.out.logs l hln hu
            rw [hst] at hS
            clear hsm
            generalize y1 l = a1 at *
            generalize y2 l = a2 at *
            replace hU : Kp _ := ⟨hU⟩
            replace hS : Kp _ := ⟨hS⟩
            clear hu hst
            go_wp2_with fail
            refine (hU.out _).mono ?_
            rintro e w1 ⟨rfl, hw1⟩
            subst hw1
            go_wp2_with fail
            go_quiet ((go_at_call 31; exact Calls.quiet_of_same (hS.out _)))
            have Z1 := Y1.out.step (below_drewN (Below.refl _ _) nq)
            have Z2 := Y2.out.step (below_drewN (Below.refl _ _) nq)
            have hB5 := below_drewN hB.out nq
            generalize w1.drewN nq = w5 at Z1 Z2 hB5 ⊢
            skip
            replace Z1 : Kp _ := ⟨Z1⟩
            replace Z2 : Kp _ := ⟨Z2⟩
            replace hB5 : Kp _ := ⟨hB5⟩
            clear c1 c2 Y1 Y2 hB hU hS
            go_wp2_with fail
            go_quiet (fail)
            go_wp2_with fail
            go_roundw
            case rel => exact ⟨l + 1, by omega, by go_num, ⟨Z1.out.step (below_drewN (Below.refl _ _) _)⟩, ⟨Z2.out.step (below_drewN (Below.refl _ _) _)⟩, ⟨below_drewN hB5.out _⟩⟩
            case measure => simp [intOf]; omega
        · have e : (l : Int) = n := by omega
          go_wp2_with fail
          go_ret
          exact ⟨rfl, hB.out⟩
end Go.Proofs.Ytcnbifdlkalimaa

/-
  What two runs of one file tell to one who sees the levels at or below some level; for every file that is let through.
-/
namespace Go.Proofs.Ytcnbifdlkalimaa
open Go.RowKit
set_option linter.unusedVariables false
set_option maxRecDepth 100000

theorem prun_ok (s : ByteArray) (T : Int → ByteArray) (f : Nat) (w : World) (hs : s.size ≤ maxLen) (hC : CheckIs s 0 0) (hf : f ≤ 20000) (hT : ∀ l : Nat, l < 6 → (T l).size ≤ maxLen) :
    Calls Try.prog 29 #[.string s, tapV T, .int .i64 f] w fun e w' => e = .returned (.tuple #[resV (fCode s) (fVars s) T f, .int .i64 0]) ∧ Below w.heap.size w w' := by
  refine (prun_any s T f w hs hT).mono ?_
  rintro e w' ⟨r, x, rfl, hA, hb⟩
  obtain ⟨rfl, rfl⟩ := (run_one hs hA.out).2.2 hC (by omega) (by omega)
  exact ⟨rfl, hb⟩

theorem log_size (c : ByteArray) (T : Int → ByteArray) (f : Nat) (l : Int) (hf : f ≤ 20000) : (logOf c T f l).size ≤ maxLen := by
  unfold logOf maxLen
  rw [bs_size]
  have := run_len c T l f start
  have e : (start.lo l).length = 0 := rfl
  omega

theorem vars_size (c v : ByteArray) (T : Int → ByteArray) (f : Nat) : (varsOf c v T f).size = v.size := by
  unfold varsOf
  rw [bs_size, lst_len]

theorem vars_at {c v t : ByteArray} {n : Int} {h : Nat → Int} (P : Through c v t n h) (T : Int → ByteArray) (f : Nat) {x : Nat} (hx : x < v.size) : bv (varsOf c v T f) x = (runM c T f start).va x := by
  obtain ⟨_, V, _⟩ := run_keeps (T := T) P f start (start_sound P) start_vals
  exact bv_bs (lst_get hx) (V.va x).1 (V.va x).2

theorem runIs_of (c v : ByteArray) (T : Int → ByteArray) (f : Nat) : RunIs c v T f (endOf c T f) (cntOf c T f) (runM c T f start).lo (runM c T f start).va := ⟨rfl, rfl, fun _ => rfl, fun _ _ _ => rfl⟩

theorem blind_of {s : ByteArray} {m k o : Int} {h : Nat → Int} {T U : Int → ByteArray} {f g : Nat} (H : FileAt s (bv s 1) m k) (P : Through (fCode s) (fVars s) (fTab s) (bv s 1) h) (hm : ((fVars s).size : Int) = m) (hv : ∀ x : Int, 0 ≤ x → x < (fVars s).size → Lv (bv s 1) (bv (fVars s) x)) (ho : Lv (bv s 1) o) (hf : f ≤ 20000) (hg : g ≤ 20000) (hT : ∀ l, Lv (bv s 1) l → le (fTab s) (bv s 1) l o = true → T l = U l) :
    BlindIn s (bv s 1) m o (endOf (fCode s) T f) (endOf (fCode s) U g) (fun j => logOf (fCode s) T f j) (fun j => logOf (fCode s) U g j) (varsOf (fCode s) (fVars s) T f) (varsOf (fCode s) (fVars s) U g) := by
  obtain ⟨A, B⟩ := RunIs.secret P ho hT (runIs_of (fCode s) (fVars s) T f) (runIs_of (fCode s) (fVars s) U g)
  refine ⟨fun j _ => log_size _ _ _ _ hf, fun j _ => log_size _ _ _ _ hg, fun l hl hle => ⟨?_, fun e1 e2 => ?_⟩, by rw [vars_size]; exact hm, by rw [vars_size]; exact hm, fun e1 e2 x hx hle => ?_, fun x hx => hv x (by omega) (by omega)⟩
  · unfold logOf
    rcases A l ⟨by omega, hl⟩ hle with ⟨e, he⟩ | ⟨e, he⟩
    · rw [he, bs_append]; exact starts_right _ _
    · rw [he, bs_append]; exact starts_left _ _
  · unfold logOf
    rw [(B e1 e2).1 l ⟨by omega, hl⟩ hle]
  · rw [vars_size] at hx
    rw [vars_at P T f hx, vars_at P U g hx]
    exact (B e1 e2).2 x (by omega) (by omega) hle

/-- the second row of tapes, made the same as the first at the levels below l that are at or below o -/
def mixT (t : ByteArray) (n o : Int) (T U : Int → ByteArray) (l : Int) : Int → ByteArray := fun i => if i < l ∧ le t n i o = true then T i else U i

theorem mix_next {t : ByteArray} {n o : Int} {T U : Int → ByteArray} {l : Nat} (j : Nat) (h : le t n l o = true) : (if j = l then T l else mixT t n o T U l j) = mixT t n o T U ((l + 1 : Nat) : Int) j := by
  unfold mixT
  by_cases e : j = l
  · subst e; rw [if_pos rfl, if_pos ⟨by omega, h⟩]
  · rw [if_neg e]
    by_cases e2 : (j : Int) < l ∧ le t n j o = true
    · rw [if_pos e2, if_pos ⟨by omega, e2.2⟩]
    · rw [if_neg e2, if_neg (fun k => e2 ⟨by omega, k.2⟩)]

theorem mix_skip {t : ByteArray} {n o : Int} {T U : Int → ByteArray} {l : Nat} (j : Nat) (h : le t n l o = false) : mixT t n o T U l j = mixT t n o T U ((l + 1 : Nat) : Int) j := by
  unfold mixT
  by_cases e2 : (j : Int) < l ∧ le t n j o = true
  · rw [if_pos e2, if_pos ⟨by omega, e2.2⟩]
  · rw [if_neg e2, if_neg (fun k => by
      by_cases e : j = l
      · subst e; rw [h] at k; exact absurd k.2 (by simp)
      · exact e2 ⟨by omega, k.2⟩)]

theorem Own.away {wr : World} {b g k : Nat} {vs : List Value} (h : Own wr b vs) (v : Value) (hne : g ≠ b) : Own (wr.setCell ⟨g, k, none⟩ v) b vs :=
  ⟨by simpa using h.lt, fun i u hu => by rw [World.cell?_setCell_far _ _ _ _ hne]; exact h.c i u hu, fun i u hu => by rw [World.frozen?_setCell]; exact h.f i u hu⟩

theorem TapAt.same {w : World} {g : Nat} {f f' : Nat → ByteArray} (H : TapAt w g f) (h : ∀ j, j < 6 → f j = f' j) : TapAt w g f' :=
  ⟨H.lt, fun j hj => by rw [← h j hj]; exact H.c j hj, H.f⟩

theorem ResAt.setSt {w : World} {g : Nat} {en st : Int} {lg : Nat → ByteArray} {vs : ByteArray} (H : ResAt w g en st lg vs) (x : Int) : ResAt (w.setCell ⟨g, 1, none⟩ (.int .i64 x)) g en x lg vs := by
  have key : ∀ k : Nat, k ≠ 1 → (w.setCell ⟨g, 1, none⟩ (.int .i64 x)).cell? ⟨g, k, none⟩ = w.cell? ⟨g, k, none⟩ := fun k hk => cell_off _ _ _ _ _ (by omega)
  exact ⟨by simpa using H.lt, (key _ (by omega)).trans H.c0, World.cell?_setCell_same _ _ _ H.c1, fun j hj => (key _ (by omega)).trans (H.cl j hj), (key _ (by omega)).trans H.cv, fun j hj => by rw [World.frozen?_setCell]; exact H.f j hj⟩

/-- a result set cell by cell -/
def resFill (w : World) (g : Nat) (en st : Int) (y : Nat → ByteArray) (v : ByteArray) : World := (resW ((w.setCell ⟨g, 0, none⟩ (.int .i64 en)).setCell ⟨g, 1, none⟩ (.int .i64 st)) g y).setCell ⟨g, 8, none⟩ (.string v)

theorem ResAt.fill {w : World} {g : Nat} {en st : Int} {lg : Nat → ByteArray} {vs : ByteArray} (H : ResAt w g en st lg vs) (en' st' : Int) (y : Nat → ByteArray) (v : ByteArray) : ResAt (resFill w g en' st' y v) g en' st' y v := (((H.setEnd en').setSt st').setLogs y).setVars v

theorem below_fill {B : Nat} {x w : World} (h : Below B x w) (g : Nat) (hg : B ≤ g) (en st : Int) (y : Nat → ByteArray) (v : ByteArray) : Below B x (resFill w g en st y v) :=
  (below_resW ((h.setCell (p := ⟨g, 0, none⟩) hg _).setCell (p := ⟨g, 1, none⟩) hg _) g hg y).setCell hg _
end Go.Proofs.Ytcnbifdlkalimaa
