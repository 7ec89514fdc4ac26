import Derived.Test.YtcnbifdlkalimaaGreatRdrB
import Derived.Test.YtcnbifdlkalimaaGreatRdr6
import Derived.Test.YtcnbifdlkalimaaGreatTrnE
import Derived.Deep.RegionHeld

/-
  The walks of the document's reading: a byte; the number of levels and the pairs; for every text of at most 300 bytes.
-/
namespace Go.Proofs.YtcnbifdlkalimaaGreat
open Go.RowKit
set_option linter.unusedVariables false
set_option maxRecDepth 100000

theorem conv_byte1 (W : World) (g : Nat) (x : Int) (h0 : 0 ≤ x) (h1 : x ≤ 255) (hc : W.cell? ⟨g, 0, none⟩ = some (.int .u8 x)) : (convert 81 9 (.slice (some ⟨g, 0, none⟩) 1 1)).run Tryz.prog W = .ok (.string (bs [x])) W := by
  have h := run_convert_bytes_back (P := Tryz.prog) W 81 9 5 ⟨g, 0, none⟩ 1 [UInt8.ofNat x.toNat] Tryz.underlying81 Tryz.underlying5 Tryz.underlying9 (fun j hj => by
    have e : j = 0 := by simp at hj; omega
    subst e
    have hadd : (⟨g, 0, none⟩ : Addr).add 0 = ⟨g, 0, none⟩ := by unfold Addr.add; split <;> simp_all
    rw [hadd, hc]
    simp
    omega)
  exact h

set_option maxHeartbeats 400000 in
theorem byteOfP_any (x : Int) (w : World) : Calls Tryz.prog 62 #[.int .i64 x] w fun e w' => e = .returned (.string (bs [x % 256])) ∧ Below w.heap.size w w' := by
  have hw8 : IntKind.u8.wrap x = x % 256 := wrap8 x
  have h0 : 0 ≤ x % 256 := by omega
  have h1 : x % 256 ≤ 255 := by omega
  generalize x % 256 = y at *
  go_enter Tryz.func62, Tryz.ntmps62
  go_wp2_with fail
  rw [conv_byte1 _ _ y h0 h1 (by simp [go_sem])]
  go_wp2_with fail
  go_ret
  exact ⟨rfl, (Below.refl _ _).alloc (Nat.le_refl _) _⟩

/-- the digit of the number of levels -/
theorem one_bl : bl ⟨#[49, 50, 51, 52, 53, 54]⟩ = [49, 50, 51, 52, 53, 54] := by decide
theorem oneZ6 : NoZ ⟨#[49, 50, 51, 52, 53, 54]⟩ := fun x hx => by rw [one_bl] at hx; simp at hx; omega
theorem see_six (s : ByteArray) (r : Rd) : seeB s ⟨#[49, 50, 51, 52, 53, 54]⟩ r = isD s r 1 6 ∧ (1 : Int) + (fnI (tok s r) (bl ⟨#[49, 50, 51, 52, 53, 54]⟩) : Nat) = (if isD s r 1 6 = true then dig s r 1 6 else 1) := by
  unfold seeB dig isD
  rw [one_bl]
  generalize tok s r = t
  by_cases h : 49 ≤ t ∧ t ≤ 54
  · have hc : t = 49 ∨ t = 50 ∨ t = 51 ∨ t = 52 ∨ t = 53 ∨ t = 54 := by omega
    rcases hc with rfl | rfl | rfl | rfl | rfl | rfl <;> decide
  · have hn := fn_no (c := t) (l := [49, 50, 51, 52, 53, 54]) (fnd_none fun j hj e => by
      have := List.mem_of_getElem? e
      simp at this
      omega)
    have hd : decide (1 ≤ t - 48 ∧ t - 48 ≤ 6) = false := decide_eq_false (by omega)
    rw [hn.1, hn.2, hd]
    exact ⟨rfl, rfl⟩
theorem nP_bd (s : ByteArray) : 1 ≤ nP s ∧ nP s ≤ 6 := by
  unfold nP dig
  split
  · rename_i h
    have := of_decide_eq_true h
    omega
  · omega

/-- the pairs are levels -/
theorem prs_in (s : ByteArray) (n : Int) (h1 : 1 ≤ n) (h6 : n ≤ 6) : ∀ (k : Nat) (r : Rd) (l : List Int), (∀ x ∈ l, 0 ≤ x ∧ x ≤ 5) → ∀ x ∈ (prsP s n k r l).2, 0 ≤ x ∧ x ≤ 5
  | 0, r, l, hl => hl
  | k + 1, r, l, hl => by
    simp only [prsP]
    split
    · refine prs_in s n h1 h6 k _ _ fun x hx => ?_
      rcases List.mem_append.1 hx with c | c
      · exact hl x c
      · have d1 := dig_in (s := s) (r := adv s r) h1
        have d2 := dig_in (s := s) (r := digR s (adv s r) 0 (n - 1)) h1
        simp at c
        rcases c with rfl | rfl <;> omega
    · exact hl
theorem muP_digR {s : ByteArray} {r : Rd} {n : Int} (he : r.er = 0) : muR s (digR s r 0 (n - 1)) < muR s r := by
  have hm : muR s r = rem s r + 1 := by unfold muR; rw [if_pos he]
  by_cases h : isD s r 0 (n - 1) = true
  · have h1 := rem_tkIf_lt (s := s) (r := r) (e := 11) h (isD_pos (by omega) h)
    have h2 : rem s (digR s r 0 (n - 1)) < rem s r := h1
    unfold muR at hm ⊢
    rw [if_pos he]
    split <;> omega
  · have h1 : digR s r 0 (n - 1) = rfs (adv s r) 11 := by unfold digR tkIf; rw [if_neg h]
    have h2 : (digR s r 0 (n - 1)).er ≠ 0 := by rw [h1]; exact rfs_er (by omega)
    unfold muR at hm ⊢
    rw [rem_bad h2, if_neg h2]
    omega
theorem mu_le {s : ByteArray} {r r' : Rd} (h : rem s r' ≤ rem s r) (he : r'.er = 0 → r.er = 0) : muR s r' ≤ muR s r := by
  unfold muR
  by_cases h1 : r'.er = 0
  · rw [if_pos h1, if_pos (he h1)]; omega
  · rw [if_neg h1]; split <;> omega
theorem mu_digR_le (s : ByteArray) (r : Rd) (a b : Int) : muR s (digR s r a b) ≤ muR s r := mu_le (rem_digR s r a b) digR_er
theorem muP_adv (s : ByteArray) (r : Rd) : muR s (adv s r) ≤ muR s r := mu_le (rem_adv s r) (fun h => by rw [adv_er] at h; exact h)
end Go.Proofs.YtcnbifdlkalimaaGreat

/-
  The walks of the document's reading: the head of a source; for every text of at most 300 bytes.
-/
namespace Go.Proofs.YtcnbifdlkalimaaGreat
open Go.RowKit
set_option linter.unusedVariables false
set_option maxRecDepth 100000

theorem PsAt.setN {w : World} {rb sb B : Nat} {s : ByteArray} {p : Rs} {tb : ByteArray} {tp : Value} {S : Nat → Value} {sv : List (Value × Value)} (H : PsAt w rb sb B s p tb tp S sv) (n : Int) : PsAt (w.setCell ⟨sb, 0, none⟩ (.int .i64 n)) rb sb B s { p with n := n } tb tp S sv ∧ PsTo rb sb S S w (w.setCell ⟨sb, 0, none⟩ (.int .i64 n)) :=
  H.setC (p' := { p with n := n }) (by omega) rfl rfl rfl (World.cell?_setCell_same _ _ _ H.cn) ((coff _ _ _ _ _ (by omega)).trans H.ct) ((coff _ _ _ _ _ (by omega)).trans H.cl) ((coff _ _ _ _ _ (by omega)).trans H.cv) ((coff _ _ _ _ _ (by omega)).trans H.cp)
theorem PsAt.setT {w : World} {rb sb B : Nat} {s : ByteArray} {p : Rs} {tb : ByteArray} {tp : Value} {S : Nat → Value} {sv : List (Value × Value)} (H : PsAt w rb sb B s p tb tp S sv) (t : ByteArray) : PsAt (w.setCell ⟨sb, 1, none⟩ (.string t)) rb sb B s p t tp S sv ∧ PsTo rb sb S S w (w.setCell ⟨sb, 1, none⟩ (.string t)) :=
  H.setC (p' := p) (by omega) rfl rfl rfl ((coff _ _ _ _ _ (by omega)).trans H.cn) (World.cell?_setCell_same _ _ _ H.ct) ((coff _ _ _ _ _ (by omega)).trans H.cl) ((coff _ _ _ _ _ (by omega)).trans H.cv) ((coff _ _ _ _ _ (by omega)).trans H.cp)
theorem PsAt.setL {w : World} {rb sb B : Nat} {s : ByteArray} {p : Rs} {tb : ByteArray} {tp : Value} {S : Nat → Value} {sv : List (Value × Value)} (H : PsAt w rb sb B s p tb tp S sv) (l : List Int) : PsAt (w.setCell ⟨sb, 2, none⟩ (.string (bs l))) rb sb B s { p with ls := l } tb tp S sv ∧ PsTo rb sb S S w (w.setCell ⟨sb, 2, none⟩ (.string (bs l))) :=
  H.setC (p' := { p with ls := l }) (by omega) rfl rfl rfl ((coff _ _ _ _ _ (by omega)).trans H.cn) ((coff _ _ _ _ _ (by omega)).trans H.ct) (World.cell?_setCell_same _ _ _ H.cl) ((coff _ _ _ _ _ (by omega)).trans H.cv) ((coff _ _ _ _ _ (by omega)).trans H.cp)
theorem PsAt.setV {w : World} {rb sb B : Nat} {s : ByteArray} {p : Rs} {tb : ByteArray} {tp : Value} {S : Nat → Value} {sv : List (Value × Value)} (H : PsAt w rb sb B s p tb tp S sv) (l : List Int) : PsAt (w.setCell ⟨sb, 3, none⟩ (.string (bs l))) rb sb B s { p with vs := l } tb tp S sv ∧ PsTo rb sb S S w (w.setCell ⟨sb, 3, none⟩ (.string (bs l))) :=
  H.setC (p' := { p with vs := l }) (by omega) rfl rfl rfl ((coff _ _ _ _ _ (by omega)).trans H.cn) ((coff _ _ _ _ _ (by omega)).trans H.ct) ((coff _ _ _ _ _ (by omega)).trans H.cl) (World.cell?_setCell_same _ _ _ H.cv) ((coff _ _ _ _ _ (by omega)).trans H.cp)
theorem PsAt.setP {w : World} {rb sb B : Nat} {s : ByteArray} {p : Rs} {tb : ByteArray} {tp : Value} {S : Nat → Value} {sv : List (Value × Value)} (H : PsAt w rb sb B s p tb tp S sv) (t : Value) : PsAt (w.setCell ⟨sb, 6, none⟩ t) rb sb B s p tb t S sv ∧ PsTo rb sb S S w (w.setCell ⟨sb, 6, none⟩ t) :=
  H.setC (p' := p) (by omega) rfl rfl rfl ((coff _ _ _ _ _ (by omega)).trans H.cn) ((coff _ _ _ _ _ (by omega)).trans H.ct) ((coff _ _ _ _ _ (by omega)).trans H.cl) ((coff _ _ _ _ _ (by omega)).trans H.cv) (World.cell?_setCell_same _ _ _ H.cp)

/-- is it a digit? -/
def dgB (t : Int) : Bool := decide (48 ≤ t ∧ t ≤ 57)
/-- letters: how many there are at most -/
def hasL (ls : List Int) (c : Int) : Nat := if c ∈ ls then 1 else 0
def cntL (ls : List Int) : Nat := hasL ls 97 + hasL ls 98 + hasL ls 99 + hasL ls 100 + hasL ls 101 + hasL ls 102 + hasL ls 103 + hasL ls 104
theorem hasL_le (ls : List Int) (c : Int) : hasL ls c ≤ 1 := by unfold hasL; split <;> omega
theorem cntL_le (ls : List Int) : cntL ls ≤ 8 := by
  unfold cntL
  have := hasL_le ls 97
  have := hasL_le ls 98
  have := hasL_le ls 99
  have := hasL_le ls 100
  have := hasL_le ls 101
  have := hasL_le ls 102
  have := hasL_le ls 103
  have := hasL_le ls 104
  omega
theorem hasL_add {ls : List Int} {t : Int} (h : ¬ t ∈ ls) (c : Int) : hasL (ls ++ [t]) c = hasL ls c + (if c = t then 1 else 0) := by
  unfold hasL
  by_cases e : c = t
  · subst e
    rw [if_pos (by simp), if_neg h, if_pos rfl]
  · rw [if_neg e]
    by_cases m : c ∈ ls
    · rw [if_pos (by simp [m]), if_pos m]
    · rw [if_neg (by simp [m, e]), if_neg m]
theorem cntL_add {ls : List Int} {t : Int} (h : ¬ t ∈ ls) (h0 : 97 ≤ t) (h1 : t ≤ 104) : cntL (ls ++ [t]) = cntL ls + 1 := by
  unfold cntL
  rw [hasL_add h, hasL_add h, hasL_add h, hasL_add h, hasL_add h, hasL_add h, hasL_add h, hasL_add h]
  have hc : t = 97 ∨ t = 98 ∨ t = 99 ∨ t = 100 ∨ t = 101 ∨ t = 102 ∨ t = 103 ∨ t = 104 := by omega
  rcases hc with rfl | rfl | rfl | rfl | rfl | rfl | rfl | rfl <;> simp <;> omega
/-- letters, each once -/
def Let1 (ls : List Int) : Prop := ls.length = cntL ls ∧ ∀ x ∈ ls, 97 ≤ x ∧ x ≤ 104
theorem Let1.nil : Let1 [] := ⟨rfl, fun x hx => by cases hx⟩
theorem Let1.lets {ls : List Int} (h : Let1 ls) : Lets ls := ⟨by rw [h.1]; exact cntL_le ls, h.2⟩
theorem Let1.add {ls : List Int} {t : Int} (h : Let1 ls) (ht : ¬ fnd t ls < ls.length) (h0 : 97 ≤ t) (h1 : t ≤ 104) : Let1 (ls ++ [t]) := by
  have hm : ¬ t ∈ ls := fun hm => by
    obtain ⟨i, hi, e⟩ := List.mem_iff_getElem.1 hm
    have hle := fnd_le t ls
    exact fnd_before (c := t) (l := ls) (j := i) (by omega) (by rw [List.getElem?_eq_getElem hi, e])
  refine ⟨by rw [List.length_append, cntL_add hm h0 h1, h.1]; rfl, fun x hx => ?_⟩
  rcases List.mem_append.1 hx with c | c
  · exact h.2 x c
  · rw [List.mem_singleton.1 c]; exact ⟨h0, h1⟩
theorem let_ext {v : Nat} (h : v < 8) : (ByteArray.mk #[97, 98, 99, 100, 101, 102, 103, 104]).extract v (v + 1) = bs [((97 + v : Nat) : Int)] := by
  match v, h with
  | 0, _ => decide
  | 1, _ => decide
  | 2, _ => decide
  | 3, _ => decide
  | 4, _ => decide
  | 5, _ => decide
  | 6, _ => decide
  | 7, _ => decide
theorem let_idx {t : Int} (h0 : 97 ≤ t) (h1 : t ≤ 104) : fnI t (bl ⟨#[97, 98, 99, 100, 101, 102, 103, 104]⟩) = (t - 97).toNat := by
  rw [lets_all]
  have hc : t = 97 ∨ t = 98 ∨ t = 99 ∨ t = 100 ∨ t = 101 ∨ t = 102 ∨ t = 103 ∨ t = 104 := by omega
  rcases hc with rfl | rfl | rfl | rfl | rfl | rfl | rfl | rfl <;> decide
end Go.Proofs.YtcnbifdlkalimaaGreat
