import Derived.Test.YtcnbifdlkalimaaKs5
import Derived.Deep.QuietTactic
import Derived.BigQuiet

/-
  The plain mathematics of a file whose variables are numbered otherwise: its parts; for every scanned file.
-/
namespace Go.Proofs.Ytcnbifdlkalimaa
open Go.RowKit
set_option linter.unusedVariables false
set_option maxRecDepth 100000

theorem ba_ext {a b : ByteArray} (hs : a.size = b.size) (h : ∀ k : Nat, k < a.size → bv a k = bv b k) : a = b := by
  apply ByteArray.ext
  apply Array.ext
  · exact hs
  · intro i h1 h2
    have e := byt_bv (h i h1)
    have ea := byt_get a i (by simpa using h1)
    have eb := byt_get b i (by simpa using h2)
    rw [← ea, ← eb] at e
    exact e

theorem size_app (a b : ByteArray) : (a ++ b).size = a.size + b.size := by simp
theorem bv_app_l {a b : ByteArray} {k : Nat} (h : k < a.size) : bv (a ++ b) k = bv a k := by
  unfold bv
  rw [byt_left _ _ _ (by simpa using h)]
theorem bv_app_r {a b : ByteArray} {k : Nat} : bv (a ++ b) ((a.size + k : Nat) : Int) = bv b k := by
  unfold bv
  rw [byt_right _ _ _ (by simp; omega), show (((a.size + k : Nat)) : Int) - a.size = (k : Int) from by omega]
theorem ex_size (a : ByteArray) {i j : Nat} (h : j ≤ a.size) : (a.extract i j).size = j - i := by
  rw [ByteArray.size_extract]; omega
theorem bv_ex {a : ByteArray} {i j k : Nat} (hj : j ≤ a.size) (h : i + k < j) : bv (a.extract i j) k = bv a ((i + k : Nat) : Int) := by
  unfold bv
  rw [byt_cut a i j k hj h]

/-- a text whose byte v stands at v + x, modulo its length -/
def rollB (s : ByteArray) (x : Nat) : ByteArray := s.extract (s.size - x) s.size ++ s.extract 0 (s.size - x)
theorem rollB_size {s : ByteArray} {x : Nat} (h : x ≤ s.size) : (rollB s x).size = s.size := by
  unfold rollB
  rw [size_app, ex_size _ (Nat.le_refl _), ex_size _ (by omega)]
  omega
theorem rollB_bv {s : ByteArray} {x v : Nat} (h : x < s.size) (hv : v < s.size) : bv (rollB s x) (((v + x) % s.size : Nat) : Int) = bv s v := by
  have z1 : (s.extract (s.size - x) s.size).size = x := by rw [ex_size _ (Nat.le_refl _)]; omega
  unfold rollB
  by_cases e : v + x < s.size
  · rw [Nat.mod_eq_of_lt e]
    have := bv_app_r (a := s.extract (s.size - x) s.size) (b := s.extract 0 (s.size - x)) (k := v)
    rw [z1, show x + v = v + x from by omega] at this
    rw [this, bv_ex (by omega) (by omega), Nat.zero_add]
  · have e2 : (v + x) % s.size = v + x - s.size := by
      rw [Nat.mod_eq_sub_mod (by omega), Nat.mod_eq_of_lt (by omega)]
    rw [e2, bv_app_l (by omega), bv_ex (Nat.le_refl _) (by omega)]
    congr 1
    omega

/-- an operand, numbered otherwise -/
def arS (c : ByteArray) (n x : Int) (i : Int) : Int := if (bv c (2 * i) = 1 ∨ bv c (2 * i) = 2) ∧ 0 < n then (bv c (2 * i + 1) + x) % n else bv c (2 * i + 1)
def shL (c : ByteArray) (n x : Int) : Nat → List Int
  | 0 => []
  | k + 1 => shL c n x k ++ [bv c (2 * (k : Int)), arS c n x k]
theorem shL_len (c : ByteArray) (n x : Int) : ∀ k, (shL c n x k).length = 2 * k
  | 0 => rfl
  | k + 1 => by unfold shL; rw [List.length_append, shL_len c n x k]; simp; omega
theorem shL_get (c : ByteArray) (n x : Int) : ∀ (k i : Nat), i < k → (shL c n x k)[2 * i]? = some (bv c (2 * (i : Int))) ∧ (shL c n x k)[2 * i + 1]? = some (arS c n x i)
  | 0, i, h => absurd h (by omega)
  | k + 1, i, h => by
    have hl := shL_len c n x k
    unfold shL
    by_cases e : i < k
    · obtain ⟨a, b⟩ := shL_get c n x k i e
      rw [List.getElem?_append_left (by omega), List.getElem?_append_left (by omega)]
      exact ⟨a, b⟩
    · have ei : i = k := by omega
      subst ei
      rw [List.getElem?_append_right (by omega), List.getElem?_append_right (by omega), hl]
      simp
theorem arS_bd {c : ByteArray} {n x i : Int} (h0 : 0 ≤ n) (h8 : n ≤ 8) : 0 ≤ arS c n x i ∧ arS c n x i ≤ 255 := by
  unfold arS
  split
  · rename_i h
    have a := Int.emod_nonneg (bv c (2 * i + 1) + x) (b := n) (by omega)
    have b := Int.emod_lt_of_pos (bv c (2 * i + 1) + x) (b := n) (by omega)
    omega
  · have := bv_bd c (2 * i + 1); omega

/-- the code with the variables numbered otherwise -/
def shB (c : ByteArray) (n x : Int) : ByteArray := bs (shL c n x (half c).toNat)
theorem shB_size (c : ByteArray) (n x : Int) : (shB c n x).size = 2 * (half c).toNat := by unfold shB; rw [bs_size, shL_len]
theorem shB_half (c : ByteArray) (n x : Int) : half (shB c n x) = half c := by
  have := (half_bd c).1
  unfold half at *
  rw [show ((shB c n x).size : Int) = 2 * half c from by rw [shB_size]; have := (half_bd c).1; omega]
  unfold half
  omega
theorem shB_op {c : ByteArray} {n x i : Int} (h0 : 0 ≤ i) (h1 : i < half c) : bv (shB c n x) (2 * i) = bv c (2 * i) := by
  have e : (i.toNat : Int) = i := Int.toNat_of_nonneg h0
  obtain ⟨a, _⟩ := shL_get c n x (half c).toNat i.toNat (by omega)
  have b := bv_bd c (2 * i)
  have := bv_bs (k := 2 * i.toNat) a (by rw [e]; exact b.1) (by rw [e]; exact b.2)
  rw [show ((2 * i.toNat : Nat) : Int) = 2 * i from by omega, e] at this
  exact this
theorem shB_ar {c : ByteArray} {n x i : Int} (hn0 : 0 ≤ n) (hn8 : n ≤ 8) (h0 : 0 ≤ i) (h1 : i < half c) : bv (shB c n x) (2 * i + 1) = arS c n x i := by
  have e : (i.toNat : Int) = i := Int.toNat_of_nonneg h0
  obtain ⟨_, a⟩ := shL_get c n x (half c).toNat i.toNat (by omega)
  have b := arS_bd (c := c) (x := x) (i := i) hn0 hn8
  have := bv_bs (k := 2 * i.toNat + 1) a (by rw [e]; exact b.1) (by rw [e]; exact b.2)
  rw [show ((2 * i.toNat + 1 : Nat) : Int) = 2 * i + 1 from by omega, e] at this
  exact this

/-- how the variables are numbered otherwise -/
def rotF (n x : Int) (i : Int) : Int := (i + x) % n

theorem renF_of {c v : ByteArray} {x : Nat} (hv : v.size ≤ 8) (hx : x < v.size ∨ v.size = 0 ∧ x = 0) (hvr : ∀ i : Int, 0 ≤ i → i < half c → bv c (2 * i) = 1 ∨ bv c (2 * i) = 2 → bv c (2 * i + 1) < v.size) : RenF c (shB c v.size x) v (rollB v x) (rotF v.size x) := by
  have key : ∀ i : Int, 0 ≤ i → i < half c → bv c (2 * i) = 1 ∨ bv c (2 * i) = 2 → bv (shB c v.size x) (2 * i + 1) = rotF v.size x (bv c (2 * i + 1)) := fun i h0 h1 k => by
    have a := hvr i h0 h1 k
    have b := (bv_bd c (2 * i + 1)).1
    rw [shB_ar (by omega) (by omega) h0 h1]
    unfold arS rotF
    rw [if_pos ⟨k, by omega⟩]
  refine ⟨⟨shB_half _ _ _, fun i h0 h1 => shB_op h0 h1, fun i h0 h1 k => ?_, fun i h0 h1 k => ?_⟩, key, hvr, fun a b a0 a1 b0 b1 h => ?_⟩
  · rw [shB_ar (by omega) (by omega) h0 h1]
    unfold arS
    rw [if_neg (fun q => k q.1)]
  · rw [key i h0 h1 k]
    have a := hvr i h0 h1 k
    have b := (bv_bd c (2 * i + 1)).1
    obtain ⟨q, hq⟩ : ∃ q : Nat, bv c (2 * i + 1) = q := ⟨(bv c (2 * i + 1)).toNat, by omega⟩
    rw [hq] at a ⊢
    have hx2 : x < v.size := by omega
    have := rollB_bv (s := v) (x := x) (v := q) hx2 (by omega)
    unfold rotF
    rw [← this]
    congr 1
  · unfold rotF at h
    have hx2 : (x : Int) < v.size := by omega
    have e1 : (a + x) % (v.size : Int) = if a + x < v.size then a + x else a + x - v.size := by
      split
      · exact Int.emod_eq_of_lt (by omega) (by omega)
      · rw [← Int.sub_emod_right, Int.emod_eq_of_lt (by omega) (by omega)]
    have e2 : (b + x) % (v.size : Int) = if b + x < v.size then b + x else b + x - v.size := by
      split
      · exact Int.emod_eq_of_lt (by omega) (by omega)
      · rw [← Int.sub_emod_right, Int.emod_eq_of_lt (by omega) (by omega)]
    rw [e1, e2] at h
    split at h <;> split at h <;> omega
end Go.Proofs.Ytcnbifdlkalimaa

/-
  The plain mathematics of a file whose variables are numbered otherwise: it is scanned, gets the same answer and runs alike; for every scanned file.
-/
namespace Go.Proofs.Ytcnbifdlkalimaa
open Go.RowKit
set_option linter.unusedVariables false
set_option maxRecDepth 100000

theorem hd_tl {s : ByteArray} {a n : Int} (ha : 0 ≤ a) (hn : 0 ≤ n) (h : a + n ≤ s.size) : hd (tl s a) n = s.extract a.toNat (a + n).toNat := by
  unfold hd tl
  rw [ByteArray.extract_extract]
  congr 1
  omega

/-- a text that has the form of a file is scanned -/
theorem scan_mk {s : ByteArray} {n m k : Int} (n0 : 1 ≤ n) (n6 : n ≤ 6) (c0 : bv s 0 = 83) (hn : bv s 1 = n) (hm : bv s (2 + n * n) = m) (m8 : m ≤ 8) (hk : bv s (3 + n * n + m) = k) (k9 : k ≤ 200) (sz : (s.size : Int) = 4 + n * n + m + 2 * k) :
    fTab s = hd (tl s 2) (n * n) ∧ fVars s = hd (tl s (3 + n * n)) m ∧ fCode s = hd (tl s (4 + n * n + m)) (2 * k) ∧ (bits (fTab s) = true → varsOk (fVars s) n = true → levE (fTab s) = 0 → codeOk (fCode s) (fVars s) n = true → scanE s = 0) := by
  have m0 : 0 ≤ m := by rw [← hm]; exact (bv_bd _ _).1
  have k0 : 0 ≤ k := by rw [← hk]; exact (bv_bd _ _).1
  have h36 := sq_le n n0 n6
  have hnn : 0 ≤ n * n := Int.mul_nonneg (by omega) (by omega)
  obtain ⟨N, hN⟩ : ∃ N, n * n = N := ⟨_, rfl⟩
  rw [hN] at hm hk sz hnn h36
  have e2 := tl_size (s := s) (n := 2) (by omega) (by omega)
  have r1 : fR1 s = tl s (2 + N) := by unfold fR1; rw [hn, hN]; exact tl_add (by omega) hnn (by omega)
  have e3 := tl_size (s := s) (n := 2 + N) (by omega) (by omega)
  have b0 : bv (tl s (2 + N)) 0 = m := by
    have := bv_tlk (s := s) (a := 2 + N) (k := 0) (by omega) (by omega)
    rw [← hm]
    simpa using this
  have e4 : tl (tl s (2 + N)) 1 = tl s (3 + N) := by rw [tl_add (by omega) (by omega) (by omega), show 2 + N + 1 = 3 + N from by omega]
  have e5 := tl_size (s := s) (n := 3 + N) (by omega) (by omega)
  have eV : fVars s = hd (tl s (3 + N)) m := by
    show hd (tl (fR1 s) 1) (1 * bv (fR1 s) 0) = _
    rw [r1, b0, Int.one_mul, e4]
  have r2 : fR2 s = tl s (3 + N + m) := by
    show tl (tl (fR1 s) 1) (1 * bv (fR1 s) 0) = _
    rw [r1, b0, Int.one_mul, e4, tl_add (by omega) m0 (by omega)]
  have e6 := tl_size (s := s) (n := 3 + N + m) (by omega) (by omega)
  have b1 : bv (tl s (3 + N + m)) 0 = k := by
    have := bv_tlk (s := s) (a := 3 + N + m) (k := 0) (by omega) (by omega)
    rw [← hk]
    simpa using this
  have e7 : tl (tl s (3 + N + m)) 1 = tl s (4 + N + m) := by rw [tl_add (by omega) (by omega) (by omega), show 3 + N + m + 1 = 4 + N + m from by omega]
  have e8 := tl_size (s := s) (n := 4 + N + m) (by omega) (by omega)
  have eC : fCode s = hd (tl s (4 + N + m)) (2 * k) := by
    show hd (tl (fR2 s) 1) (2 * bv (fR2 s) 0) = _
    rw [r2, b1, e7]
  have r3 : fR3 s = tl (tl s (4 + N + m)) (2 * k) := by
    show tl (tl (fR2 s) 1) (2 * bv (fR2 s) 0) = _
    rw [r2, b1, e7]
  have e9 := tl_size (s := tl s (4 + N + m)) (n := 2 * k) (by omega) (by rw [e8]; omega)
  rw [hN]
  refine ⟨by unfold fTab; rw [hn, hN], eV, eC, fun hb hv hl hc => ?_⟩
  have f1 : fHead s = true := decide_eq_true ⟨by omega, c0, by omega, by omega⟩
  have f2 : fTabOk s = true := by
    unfold fTabOk
    rw [Bool.and_eq_true, Bool.and_eq_true]
    exact ⟨f1, decide_eq_true (by rw [hn, hN, e2]; omega), hb⟩
  have f3 : vOk (fR1 s) (bv s 1) = true := by
    unfold vOk
    have h1 : cOk (fR1 s) 1 8 = true := decide_eq_true ⟨by rw [r1]; omega, by rw [r1, b0]; omega, by rw [r1, b0, e4, e5]; omega⟩
    rw [Bool.and_eq_true]
    exact ⟨h1, by rw [hn]; exact hv⟩
  have f4 : cOk (fR2 s) 2 200 = true := decide_eq_true ⟨by rw [r2]; omega, by rw [r2, b1]; omega, by rw [r2, b1, e7, e8]; omega⟩
  have f5 : decide ((fR3 s).size = 0) = true := decide_eq_true (by rw [r3]; omega)
  have fo : fOk s = true := by
    unfold fOk
    rw [Bool.and_eq_true, Bool.and_eq_true, Bool.and_eq_true]
    exact ⟨f2, f3, f4, f5⟩
  unfold scanE
  rw [if_neg (by omega), if_pos fo, if_pos hl, hn, if_pos hc]

theorem scan_rest {s : ByteArray} (h : scanE s = 0) : bits (fTab s) = true ∧ varsOk (fVars s) (bv s 1) = true ∧ levE (fTab s) = 0 ∧ codeOk (fCode s) (fVars s) (bv s 1) = true := by
  rcases scan_cases s with ⟨_, k⟩ | ⟨_, _, k⟩ | ⟨_, _, k3, k⟩ | ⟨_, _, _, _, k⟩ | ⟨k1, k2, k3, k4, k5⟩
  · omega
  · omega
  · omega
  · omega
  · unfold fOk fTabOk vOk at k2
    simp only [Bool.and_eq_true] at k2
    obtain ⟨⟨_, _, f2⟩, ⟨_, f3⟩, _, _⟩ := k2
    exact ⟨f2, f3, k3, k4⟩

theorem rollB_from {s : ByteArray} {x i : Nat} (h : x < s.size ∨ s.size = 0 ∧ x = 0) (hi : i < s.size) : ∃ q : Nat, q < s.size ∧ (q + x) % s.size = i ∧ bv (rollB s x) i = bv s q := by
  have hx : x < s.size := by omega
  by_cases e : x ≤ i
  · have h1 : (i - x + x) % s.size = i := by rw [Nat.sub_add_cancel e]; exact Nat.mod_eq_of_lt hi
    refine ⟨i - x, by omega, h1, ?_⟩
    have := rollB_bv (s := s) (x := x) (v := i - x) hx (by omega)
    rw [h1] at this
    exact this
  · have h1 : (i + s.size - x + x) % s.size = i := by
      rw [show i + s.size - x + x = i + s.size from by omega, Nat.add_mod_right]
      exact Nat.mod_eq_of_lt hi
    refine ⟨i + s.size - x, by omega, h1, ?_⟩
    have := rollB_bv (s := s) (x := x) (v := i + s.size - x) hx (by omega)
    rw [h1] at this
    exact this

theorem varsOk_roll {v : ByteArray} {x : Nat} {n : Int} (hx : x < v.size ∨ v.size = 0 ∧ x = 0) (h : varsOk v n = true) : varsOk (rollB v x) n = true := by
  unfold varsOk at h ⊢
  rw [rollB_size (by omega)]
  apply allTo_true.2
  intro i hi
  obtain ⟨q, hq, _, e⟩ := rollB_from hx hi
  rw [e]
  exact allTo_true.1 h q hq

theorem codeOk_shift {c v : ByteArray} {x : Nat} {n : Int} (hv8 : v.size ≤ 8) (hx : x < v.size ∨ v.size = 0 ∧ x = 0) (h : codeOk c v n = true) : codeOk (shB c v.size x) (rollB v x) n = true := by
  unfold codeOk at h ⊢
  rw [shB_half]
  apply allTo_true.2
  intro i hi
  have g := allTo_true.1 h i hi
  have hh := (half_bd c).1
  have hi2 : (i : Int) < half c := by omega
  unfold insOk at g ⊢
  rw [shB_half, shB_op (by omega) hi2, shB_ar (by omega) (by omega) (by omega) hi2, rollB_size (by omega)]
  unfold okIns at g ⊢
  have g := of_decide_eq_true g
  apply decide_eq_true
  unfold arS
  have b0 := (bv_bd c (2 * (i : Int) + 1)).1
  by_cases e : (bv c (2 * (i : Int)) = 1 ∨ bv c (2 * (i : Int)) = 2) ∧ 0 < (v.size : Int)
  · rw [if_pos e]
    have z := Int.emod_lt_of_pos (bv c (2 * (i : Int) + 1) + x) (b := (v.size : Int)) e.2
    exact .inr (.inl ⟨e.1, z⟩)
  · rw [if_neg e]
    exact g
end Go.Proofs.Ytcnbifdlkalimaa

/-
  The file whose variables are numbered otherwise, whole: its parts, its answer, its runs; for every scanned file.
-/
namespace Go.Proofs.Ytcnbifdlkalimaa
open Go.RowKit
set_option linter.unusedVariables false
set_option maxRecDepth 100000

/-- the file with the variables numbered otherwise -/
def otherB (s : ByteArray) (fr m x : Nat) : ByteArray := ((s.extract 0 fr ++ rollB (s.extract fr (fr + m)) x) ++ s.extract (fr + m) (fr + m + 1)) ++ shB (s.extract (fr + m + 1) s.size) m x

/-- what of it is known -/
structure OtherF (s : ByteArray) (fr m x : Nat) : Prop where
  vars : s.extract fr (fr + m) = fVars s
  code : s.extract (fr + m + 1) s.size = fCode s
  scan : scanE (otherB s fr m x) = 0
  tab : fTab (otherB s fr m x) = fTab s
  ovars : fVars (otherB s fr m x) = rollB (fVars s) x
  ocode : fCode (otherB s fr m x) = shB (fCode s) m x
  lv : bv (otherB s fr m x) 1 = bv s 1
  size : (otherB s fr m x).size = s.size
  vsz : (fVars s).size = m

set_option maxHeartbeats 1600000 in
theorem other_ok {s : ByteArray} {fr m x : Nat} (h : scanE s = 0) (hfr : (fr : Int) = 3 + bv s 1 * bv s 1) (hm : (m : Int) = bv s (2 + bv s 1 * bv s 1)) (hx : x < m ∨ m = 0 ∧ x = 0) : OtherF s fr m x := by
  have FA := file_at h
  obtain ⟨sb, sv, sl, sc⟩ := scan_rest h
  obtain ⟨n, hn⟩ : ∃ n, bv s 1 = n := ⟨_, rfl⟩
  obtain ⟨k, hk⟩ : ∃ k : Nat, half (fCode s) = k := ⟨(half (fCode s)).toNat, by have := FA.k0; omega⟩
  rw [hn] at hfr hm sv sc
  rw [hn, ← hm, hk] at FA
  have hnn := FA.bds
  have n0 := FA.n0
  have n6 := FA.n6
  have m8 := FA.m8
  have k9 := FA.k9
  have hsz := FA.sz
  have c83 := FA.c0
  have hkb := FA.hk
  obtain ⟨N, hN⟩ : ∃ N, n * n = N := ⟨_, rfl⟩
  rw [hN] at hfr hnn hsz hkb
  have hsn : s.size = fr + m + 1 + 2 * k := by omega
  have eV : s.extract fr (fr + m) = fVars s := by
    rw [FA.vars, hN, hd_tl (by omega) (by omega) (by omega), show (3 + N).toNat = fr from by omega, show (3 + N + (m : Int)).toNat = fr + m from by omega]
  have eC : s.extract (fr + m + 1) s.size = fCode s := by
    rw [FA.code, hN, hd_tl (by omega) (by omega) (by omega), show (4 + N + (m : Int)).toNat = fr + m + 1 from by omega, show (4 + N + (m : Int) + 2 * (k : Int)).toNat = s.size from by omega]
  have eT : fTab s = s.extract 2 (2 + N.toNat) := by
    rw [FA.tab, hN, hd_tl (by omega) (by omega) (by omega), show (2 : Int).toNat = 2 from rfl, show (2 + N).toNat = 2 + N.toNat from by omega]
  have zV : (fVars s).size = m := by rw [← eV, ex_size _ (by omega)]; omega
  have hO : otherB s fr m x = ((s.extract 0 fr ++ rollB (fVars s) x) ++ s.extract (fr + m) (fr + m + 1)) ++ shB (fCode s) m x := by unfold otherB; rw [eV, eC]
  obtain ⟨O, hOe⟩ : ∃ O, otherB s fr m x = O := ⟨_, rfl⟩
  have zA : (s.extract 0 fr).size = fr := by rw [ex_size _ (by omega)]; omega
  have zR : (rollB (fVars s) x).size = m := by rw [rollB_size (by omega)]; exact zV
  have zK : (s.extract (fr + m) (fr + m + 1)).size = 1 := by rw [ex_size _ (by omega)]; omega
  have zC : (shB (fCode s) m x).size = 2 * k := by rw [shB_size, hk]; omega
  rw [hOe] at hO
  have zO : O.size = s.size := by rw [hO, size_app, size_app, size_app, zA, zR, zK, zC]; omega
  have z1 : (s.extract 0 fr ++ rollB (fVars s) x).size = fr + m := by rw [size_app, zA, zR]
  have z2 : ((s.extract 0 fr ++ rollB (fVars s) x) ++ s.extract (fr + m) (fr + m + 1)).size = fr + m + 1 := by rw [size_app, z1, zK]
  have q1 : ∀ i : Nat, i < fr → bv O i = bv s i := fun i hi => by
    rw [hO, bv_app_l (by omega), bv_app_l (by omega), bv_app_l (by omega), bv_ex (by omega) (by omega), Nat.zero_add]
  have q2 : ∀ i : Nat, i < m → bv O ((fr + i : Nat) : Int) = bv (rollB (fVars s) x) i := fun i hi => by
    rw [hO, bv_app_l (by omega), bv_app_l (by omega)]
    have := bv_app_r (a := s.extract 0 fr) (b := rollB (fVars s) x) (k := i)
    rw [zA] at this
    exact this
  have q3 : bv O ((fr + m : Nat) : Int) = bv s ((fr + m : Nat) : Int) := by
    rw [hO, bv_app_l (by omega)]
    have := bv_app_r (a := s.extract 0 fr ++ rollB (fVars s) x) (b := s.extract (fr + m) (fr + m + 1)) (k := 0)
    rw [z1] at this
    simp only [Nat.add_zero] at this
    rw [this]
    have e := bv_ex (a := s) (i := fr + m) (j := fr + m + 1) (k := 0) (by omega) (by omega)
    simp only [Nat.add_zero] at e
    exact e
  have q4 : ∀ i : Nat, i < 2 * k → bv O ((fr + m + 1 + i : Nat) : Int) = bv (shB (fCode s) m x) i := fun i hi => by
    rw [hO]
    have := bv_app_r (a := (s.extract 0 fr ++ rollB (fVars s) x) ++ s.extract (fr + m) (fr + m + 1)) (b := shB (fCode s) m x) (k := i)
    rw [z2] at this
    exact this
  replace zV : Kp _ := ⟨zV⟩
  replace zR : Kp _ := ⟨zR⟩
  replace zC : Kp _ := ⟨zC⟩
  clear zA zK z1 z2 hO
  have hN1 : 1 ≤ N := by omega
  have w0 : bv O 0 = 83 := by have := q1 0 (by omega); rw [show ((0 : Nat) : Int) = 0 from rfl] at this; rw [this]; exact c83
  have w1 : bv O 1 = n := by have := q1 1 (by omega); rw [show ((1 : Nat) : Int) = 1 from rfl] at this; rw [this]; exact hn
  have w2 : bv O (2 + N) = m := by
    have := q1 (fr - 1) (by omega)
    rw [show ((fr - 1 : Nat) : Int) = 2 + N from by omega] at this
    rw [this, hm, hN]
  have w3 : bv O (3 + N + m) = k := by
    rw [show 3 + N + (m : Int) = ((fr + m : Nat) : Int) from by omega, q3, show ((fr + m : Nat) : Int) = 3 + N + m from by omega]
    exact hkb
  obtain ⟨t1, t2, t3, t4⟩ := scan_mk (s := O) (n := n) (m := m) (k := k) n0 n6 w0 w1 (by rw [hN]; exact w2) (by omega) (by rw [hN]; exact w3) (by omega) (by rw [hN, zO]; omega)
  rw [hN] at t1 t2 t3
  have hN2 : 2 + N.toNat ≤ O.size := by omega
  have hN3 : 2 + N.toNat ≤ s.size := by omega
  have eT2 : fTab O = fTab s := by
    rw [t1, hd_tl (by omega) (by omega) (by omega), eT, show (2 : Int).toNat = 2 from rfl, show (2 + N).toNat = 2 + N.toNat from by omega]
    apply ba_ext
    · rw [ex_size _ hN2, ex_size _ hN3]
    · intro i hi
      rw [ex_size _ hN2] at hi
      have hi2 : 2 + i < 2 + N.toNat := by clear t1 t2 t3 t4; omega
      rw [bv_ex hN2 hi2, bv_ex hN3 hi2, q1 _ (by clear t1 t2 t3 t4; omega)]
  have eV2 : fVars O = rollB (fVars s) x := by
    rw [t2, hd_tl (by omega) (by omega) (by omega), show (3 + N).toNat = fr from by omega, show (3 + N + (m : Int)).toNat = fr + m from by omega]
    apply ba_ext
    · rw [ex_size _ (by omega), zR.out]; omega
    · intro i hi
      rw [ex_size _ (by omega)] at hi
      rw [bv_ex (by omega) (by omega), q2 _ (by omega)]
  have eC2 : fCode O = shB (fCode s) m x := by
    rw [t3, hd_tl (by omega) (by omega) (by omega), show (4 + N + (m : Int)).toNat = fr + m + 1 from by omega, show (4 + N + (m : Int) + 2 * (k : Int)).toNat = fr + m + 1 + 2 * k from by omega]
    apply ba_ext
    · rw [ex_size _ (by omega), zC.out]; omega
    · intro i hi
      rw [ex_size _ (by omega)] at hi
      rw [bv_ex (by omega) (by omega), q4 _ (by omega)]
  have hxv : x < (fVars s).size ∨ (fVars s).size = 0 ∧ x = 0 := by rw [zV.out]; exact hx
  have ok : scanE O = 0 := t4 (by rw [eT2]; exact sb) (by rw [eV2]; exact varsOk_roll hxv sv) (by rw [eT2]; exact sl) (by
    rw [eC2, eV2]
    have := codeOk_shift (x := x) (by rw [zV.out]; omega) hxv sc
    rw [zV.out] at this
    exact this)
  refine ⟨eV, eC, ?_, ?_, ?_, ?_, ?_, ?_, zV.out⟩
  · rw [hOe]; exact ok
  · rw [hOe]; exact eT2
  · rw [hOe]; exact eV2
  · rw [hOe]; exact eC2
  · rw [hOe, hn]; exact w1
  · rw [hOe]; exact zO

set_option maxHeartbeats 1600000 in
/-- the same answer -/
theorem other_check {s : ByteArray} {fr m x : Nat} {p e : Int} (hs : s.size ≤ maxLen) (F : OtherF s fr m x) (hx : x < m ∨ m = 0 ∧ x = 0) (h0 : scanE s = 0) (h : CheckIs s p e) : CheckIs (otherB s fr m x) p e := by
  rcases h with ⟨a, _⟩ | ⟨_, h⟩
  · exact absurd h0 a
  · refine .inr ⟨F.scan, ?_⟩
    rw [F.ocode, F.ovars, F.tab, F.lv]
    have v8 := (scan_parts hs h0).1
    have hF := file_ok hs h0
    have hvr : ∀ i : Int, 0 ≤ i → i < half (fCode s) → bv (fCode s) (2 * i) = 1 ∨ bv (fCode s) (2 * i) = 2 → bv (fCode s) (2 * i + 1) < (fVars s).size := fun i a b k => by
      have g := allTo_true.1 hF.ok i.toNat (by omega)
      rw [Int.toNat_of_nonneg a] at g
      unfold insOk okIns at g
      have g := of_decide_eq_true g
      omega
    have R := renF_of (c := fCode s) (v := fVars s) (x := x) v8 (by rw [F.vsz]; exact hx) hvr
    rw [F.vsz] at R
    exact R.r.code h

theorem roll_eq {V U : ByteArray} {m x : Nat} {va vb : Int → Int} (hx : x < m ∨ m = 0 ∧ x = 0) (zs : V.size = m) (zu : U.size = m) (k1 : ∀ q : Nat, q < m → bv V q = va q) (k2 : ∀ q : Nat, q < m → bv U q = vb q) (k3 : ∀ q : Nat, q < m → vb (rotF m x q) = va q) : rollB V x = U := by
  apply ba_ext
  · rw [rollB_size (by omega), zs, zu]
  · intro i hi
    rw [rollB_size (by omega), zs] at hi
    obtain ⟨q, hq, e1, e2⟩ := rollB_from (s := V) (x := x) (i := i) (by omega) (by omega)
    rw [zs] at hq e1
    rw [e2, k1 q hq, k2 i hi, ← k3 q hq]
    congr 1
    unfold rotF
    rw [← e1]
    simp

set_option maxHeartbeats 1600000 in
/-- it runs alike -/
theorem other_run {s : ByteArray} {fr m x : Nat} {h : Nat → Int} {T : Int → ByteArray} (hs : s.size ≤ maxLen) (F : OtherF s fr m x) (hx : x < m ∨ m = 0 ∧ x = 0) (h0 : scanE s = 0) (P : Through (fCode s) (fVars s) (fTab s) (bv s 1) h) (hP : ∃ h', Through (shB (fCode s) m x) (rollB (fVars s) x) (fTab s) (bv s 1) h') (f : Nat) :
    endOf (shB (fCode s) m x) T f = endOf (fCode s) T f ∧ cntOf (shB (fCode s) m x) T f = cntOf (fCode s) T f ∧ (∀ l, logOf (shB (fCode s) m x) T f l = logOf (fCode s) T f l) ∧ rollB (varsOf (fCode s) (fVars s) T f) x = varsOf (shB (fCode s) m x) (rollB (fVars s) x) T f := by
  have v8 := (scan_parts hs h0).1
  have R := renF_of (c := fCode s) (v := fVars s) (x := x) v8 (by rw [F.vsz]; exact hx) (fun i a b k => (P.vr i a b k).1)
  rw [F.vsz] at R
  obtain ⟨W, hn⟩ := run_twin (T := T) P R f start start (start_sound P) ⟨rfl, rfl, rfl, rfl, rfl, fun _ _ _ => rfl⟩
  obtain ⟨h', P'⟩ := hP
  refine ⟨?_, ?_, fun l => ?_, ?_⟩
  · unfold endOf; rw [← W.pl, R.r.hf]
  · unfold cntOf; rw [hn]
  · unfold logOf; rw [W.lo]
  · have zs : (varsOf (fCode s) (fVars s) T f).size = m := by rw [vars_size, F.vsz]
    have zr : (rollB (fVars s) x).size = m := by
      have hxm : x ≤ (fVars s).size := by rw [F.vsz]; rcases hx with a | ⟨a, b⟩ <;> omega
      rw [rollB_size hxm, F.vsz]
    have zu : (varsOf (shB (fCode s) m x) (rollB (fVars s) x) T f).size = m := by rw [vars_size]; exact zr
    have k1 : ∀ q : Nat, q < m → bv (varsOf (fCode s) (fVars s) T f) q = (runM (fCode s) T f start).va q := fun q hq => vars_at P T f (by rw [F.vsz]; exact hq)
    have k2 : ∀ q : Nat, q < m → bv (varsOf (shB (fCode s) m x) (rollB (fVars s) x) T f) q = (runM (shB (fCode s) m x) T f start).va q := fun q hq => vars_at P' T f (by rw [zr]; exact hq)
    have k3 : ∀ q : Nat, q < m → (runM (shB (fCode s) m x) T f start).va (rotF m x q) = (runM (fCode s) T f start).va q := fun q hq => W.va q (Int.natCast_nonneg q) (by rw [F.vsz]; exact Int.ofNat_lt.2 hq)
    generalize varsOf (fCode s) (fVars s) T f = V at zs k1 ⊢
    generalize varsOf (shB (fCode s) m x) (rollB (fVars s) x) T f = U at zu k2 ⊢
    generalize (runM (fCode s) T f start).va = va at k1 k3
    generalize (runM (shB (fCode s) m x) T f start).va = vb at k2 k3
    clear W R P P' zr v8 hs h0 F hn
    exact roll_eq hx zs zu k1 k2 k3
end Go.Proofs.Ytcnbifdlkalimaa

/-
  The walks of rolled and shifted; for every text of a file's parts.
-/
namespace Go.Proofs.Ytcnbifdlkalimaa
open Go.RowKit
set_option linter.unusedVariables false
set_option maxRecDepth 100000

set_option maxHeartbeats 800000 in
theorem rolled_any (s : ByteArray) (x : Nat) (w : World) (hs : s.size ≤ 8) (hx : x < s.size ∨ s.size = 0 ∧ x = 0) :
    Calls Try.prog 32 #[.string s, .int .i64 x] w fun e w' => e = .returned (.string (rollB s x)) ∧ ∃ q, w' = w.drewN q := by
  by_cases h0 : s.size = 0
  · have hs0 : s = { data := #[] } := by
      apply ByteArray.ext
      exact Array.eq_empty_of_size_eq_zero h0
    subst hs0
    have ex : x = 0 := by omega
    subst ex
    go_enter Try.func32, Try.ntmps32
    go_wp2_with fail
    go_ret
    exact ⟨rfl, 0, rfl⟩
  · have hxs : x < s.size := by omega
    have hxi : (x : Int) < s.size := by omega
    have hne : (s.toList == []) = false := by
      rw [ByteArray.toList_eq]
      apply beq_eq_false_iff_ne.2
      intro e
      have : s.data.toList.length = 0 := by rw [e]; rfl
      have h2 : s.data.toList.length = s.size := by simp
      omega
    have hn0 : ((s.size : Int) == 0) = false := beq_eq_false_iff_ne.2 (by omega)
    have hmod : (x : Int) % (s.size : Int) = x := Int.emod_eq_of_lt (by omega) hxi
    obtain ⟨k, hk⟩ : ∃ k : Nat, s.size - x = k := ⟨_, rfl⟩
    have hki : (s.size : Int) - x = k := by omega
    have hks : (k : Int) ≤ s.size := by omega
    have hksn : k ≤ s.size := by omega
    have hw1 : wrap64 ((s.size : Int) - x) = k := by unfold wrap64; omega
    have hw2 : IntKind.i64.wrap ((s.size : Int) - x) = k := by rw [IntKind.wrap_i64]; omega
    have z1 : (s.extract k s.size).size = x := by rw [ex_size _ (Nat.le_refl _)]; omega
    have z2 : (s.extract 0 k).size = k := by rw [ex_size _ hksn]; omega
    have s1 : ¬ (9223372036854775807 : Int) < ((s.extract k s.size).size : Int) + (s.extract 0 k).size := by omega
    have s2 : ¬ (9223372036854775807 : Int) < (((s.extract k s.size).size + (s.extract 0 k).size : Nat) : Int) := by omega
    have hr : Kp (rollB s x = s.extract k s.size ++ s.extract 0 k) := ⟨by unfold rollB; rw [hk]⟩
    clear hk
    go_enter Try.func32, Try.ntmps32
    go_wp2_with fail
    go_quiet (fail)
    go_wp2_with fail
    go_ret
    exact ⟨by rw [hr.out]; rfl, nq, rfl⟩

theorem conv_two (W : World) (g : Nat) (o a : Int) (h0 : 0 ≤ o) (h1 : o ≤ 255) (h2 : 0 ≤ a) (h3 : a ≤ 255) (c0 : W.cell? ⟨g, 0, none⟩ = some (.int .u8 o)) (c1 : W.cell? ⟨g, 1, none⟩ = some (.int .u8 a)) : (convert 58 9 (.slice (some ⟨g, 0, none⟩) 2 2)).run Try.prog W = .ok (.string (bs [o, a])) W := by
  have h := run_convert_bytes_back (P := Try.prog) W 58 9 5 ⟨g, 0, none⟩ 2 [UInt8.ofNat o.toNat, UInt8.ofNat a.toNat] Try.underlying58 Try.underlying5 Try.underlying9 (fun j hj => by
    have hadd : (⟨g, 0, none⟩ : Addr).add j = ⟨g, j, none⟩ := by unfold Addr.add; split <;> simp_all
    rw [hadd]
    match j, hj with
    | 0, _ => rw [c0]; simp; omega
    | 1, _ => rw [c1]; simp; omega)
  exact h

set_option maxHeartbeats 1600000 in
theorem shifted_any (c : ByteArray) (n x : Int) (K : Nat) (w : World) (hc : c.size = 2 * K) (hK : K ≤ 200) (hn0 : 0 ≤ n) (hn8 : n ≤ 8) (hx0 : 0 ≤ x) (hx8 : x ≤ 8) :
    Calls Try.prog 33 #[.string c, .int .i64 n, .int .i64 x] w fun e w' => e = .returned (.string (shB c n x)) ∧ Below w.heap.size w w' := by
  have hci : (c.size : Int) = 2 * (K : Int) := by omega
  have hfin : Kp (shB c n x = bs (shL c n x K)) := ⟨by unfold shB half; rw [show ((c.size : Int) / 2).toNat = K from by omega]⟩
  have hB0 : Kp (Below w.heap.size w w) := ⟨Below.refl _ _⟩
  replace hc : Kp _ := ⟨hc⟩
  replace hci : Kp _ := ⟨hci⟩
  go_enter Try.func33, Try.ntmps33
  go_wp2_with fail
  go_loopw [7, 8] (fun sv iv wr => ∃ k ii : Nat, k ≤ K ∧ ii = 2 * k ∧ sv = .string (bs (shL c n x k)) ∧ iv = .int .i64 ii ∧ Kp (Below w.heap.size w wr)) (fun _ iv _ => 2 * K + 2 - (intOf iv).toNat)
  case atStart => exact ⟨0, 0, by omega, rfl, rfl, rfl, hB0⟩
  case round =>
    clear hB0
    obtain ⟨k, ii, hk, hii, rfl, rfl, hB⟩ := hrel
    have hcc := hc.out
    have hcd := hci.out
    have hle : ii ≤ 2 * K := by omega
    by_cases hkK : k < K
    · have hi1 : ii < c.size := by omega
      have hi2 : ii + 1 < c.size := by omega
      have hi3 : (ii : Int) + 1 < c.size := by omega
      have hi4 : (ii : Int) < c.size := by omega
      have hi5 : (ii : Int) ≤ 400 := by omega
      have po := bv_nat c ii hi1
      have pa := bv_nat c (ii + 1) hi2
      obtain ⟨o0, o9⟩ := bv_bd c (ii : Nat)
      obtain ⟨a0, a9⟩ := bv_bd c ((ii + 1 : Nat) : Int)
      obtain ⟨o, hoe⟩ : ∃ o, bv c ((ii : Nat) : Int) = o := ⟨_, rfl⟩
      obtain ⟨a, hae⟩ : ∃ a, bv c ((ii + 1 : Nat) : Int) = a := ⟨_, rfl⟩
      rw [hoe] at po o0 o9
      rw [hae] at pa a0 a9
      have hS : shL c n x (k + 1) = shL c n x k ++ [o, arS c n x k] := by
        rw [← hoe, hii]
        show shL c n x k ++ [bv c (2 * (k : Int)), arS c n x k] = _
        rw [show ((2 * k : Nat) : Int) = 2 * (k : Int) from by omega]
      have hA : arS c n x k = if (o = 1 ∨ o = 2) ∧ 0 < n then (a + x) % n else a := by
        unfold arS
        rw [show 2 * (k : Int) = ((ii : Nat) : Int) from by omega, show ((ii : Nat) : Int) + 1 = ((ii + 1 : Nat) : Int) from by omega, hoe, hae]
      have hbd := arS_bd (c := c) (n := n) (x := x) (i := k) hn0 hn8
      have hsl := bs_size (shL c n x k)
      rw [shL_len] at hsl
      obtain ⟨r, hr⟩ : ∃ r, arS c n x k = r := ⟨_, rfl⟩
      rw [hr] at hS hA hbd
      obtain ⟨r0, r9⟩ := hbd
      have hcv := fun W : World => conv_two (W.alloc (.cells #[.int .u8 o, .int .u8 r] 5)) W.heap.size o r o0 o9 r0 r9 (by simp [go_sem]) (by simp [go_sem])
      have h2s := bs_size [o, r]
      obtain ⟨sg, hsg⟩ : ∃ sg, bs (shL c n x k) = sg := ⟨_, rfl⟩
      obtain ⟨pg, hpg⟩ : ∃ pg, bs [o, r] = pg := ⟨_, rfl⟩
      rw [hpg] at hcv h2s
      rw [hsg] at hsl ⊢
      have h2l : pg.size = 2 := h2s
      have s1 : ¬ (9223372036854775807 : Int) < (sg.size : Int) + pg.size := by omega
      have s2 : ¬ (9223372036854775807 : Int) < ((sg.size + pg.size : Nat) : Int) := by omega
      have hnx : Kp (sg ++ pg = bs (shL c n x (k + 1))) := ⟨by rw [← hsg, ← hpg, hS, bs_append]⟩
      have hwr : IntKind.u8.wrap r = r := wrap_byte r0 r9
      have hBn := hB.out.alloc hB.out.size (.cells #[.int .u8 o, .int .u8 r] 5)
      replace hBn : Kp _ := ⟨hBn⟩
      replace hoe : Kp _ := ⟨hoe⟩
      replace hae : Kp _ := ⟨hae⟩
      replace hii : Kp _ := ⟨hii⟩
      clear hS hr h2s hsg hpg hsl hcc hcd
      by_cases hld : (o = 1 ∨ o = 2) ∧ 0 < n
      · rw [if_pos hld] at hA
        obtain ⟨hor, hnp⟩ := hld
        have hn00 : (n == 0) = false := beq_eq_false_iff_ne.2 (by omega)
        have hmod : (a + x) % n = r := hA.symm
        clear hA
        rcases hor with rfl | rfl
        all_goals
          go_wp2_with fail
          rw [hnx.out]
          go_roundw
          case rel => exact ⟨k + 1, ii + 2, by omega, by have := hii.out; omega, rfl, by go_num, hBn⟩
          case measure => simp [intOf]; omega
      · rw [if_neg hld] at hA
        subst hA
        by_cases hor : o = 1 ∨ o = 2
        · have hnp : ¬ 0 < n := fun q => hld ⟨hor, q⟩
          rcases hor with rfl | rfl
          all_goals
            go_wp2_with fail
            rw [hnx.out]
            go_roundw
            case rel => exact ⟨k + 1, ii + 2, by omega, by have := hii.out; omega, rfl, by go_num, hBn⟩
            case measure => simp [intOf]; omega
        · have n1 : (o == 1) = false := beq_eq_false_iff_ne.2 (fun e => hor (.inl e))
          have n2 : (o == 2) = false := beq_eq_false_iff_ne.2 (fun e => hor (.inr e))
          clear hld hor
          go_wp2_with fail
          rw [hnx.out]
          go_roundw
          case rel => exact ⟨k + 1, ii + 2, by omega, by have := hii.out; omega, rfl, by go_num, hBn⟩
          case measure => simp [intOf]; omega
    · have e : k = K := by omega
      subst e
      have hi3 : ¬ (ii : Int) + 1 < c.size := by omega
      have hi5 : (ii : Int) ≤ 400 := by omega
      obtain ⟨sg, hsg⟩ : ∃ sg, bs (shL c n x k) = sg := ⟨_, rfl⟩
      rw [hsg]
      replace hsg : Kp _ := ⟨hsg⟩
      clear hii hcc hcd
      go_wp2_with fail
      go_ret
      exact ⟨by rw [hfin.out, hsg.out]; rfl, hB.out⟩
end Go.Proofs.Ytcnbifdlkalimaa
