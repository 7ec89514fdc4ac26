/-
  The plain mathematics of sources, first part: a text that is read token by token, up to the first byte that cannot stand there; no condition but those that stand in each lemma.
-/
import Derived.Test.YtcnbifdlkalimabGreatBts
namespace Go.Proofs.YtcnbifdlkalimabGreat
open Go.RowKit

/-- how far one has read, and the error (0: none so far) -/
structure Rd where
  a : Nat
  er : Int

/-- a space, or a newline -/
def blk (x : Int) : Bool := x == 32 || x == 10

def skpF (s : ByteArray) : Nat → Nat → Nat
  | 0, a => a
  | k + 1, a => if a < s.size ∧ blk (bv s a) = true then skpF s k (a + 1) else a
/-- the next byte that is no blank -/
def skp (s : ByteArray) (a : Nat) : Nat := skpF s (s.size - a) a

theorem skp_go {s : ByteArray} {a : Nat} (h : a < s.size) (hb : blk (bv s a) = true) : skp s a = skp s (a + 1) := by
  unfold skp
  rw [show s.size - a = (s.size - (a + 1)) + 1 from by omega]
  simp only [skpF]
  rw [if_pos ⟨h, hb⟩]
theorem skp_no {s : ByteArray} {a : Nat} (h : ¬ (a < s.size ∧ blk (bv s a) = true)) : skp s a = a := by
  unfold skp
  cases s.size - a with
  | zero => rfl
  | succ k => simp only [skpF]; rw [if_neg h]

theorem skp_ind (s : ByteArray) (P : Nat → Nat → Prop) (h0 : ∀ a, ¬ (a < s.size ∧ blk (bv s a) = true) → P a a) (h1 : ∀ a, a < s.size → blk (bv s a) = true → P (a + 1) (skp s (a + 1)) → P a (skp s (a + 1))) : ∀ a, P a (skp s a) := by
  have key : ∀ k a, s.size - a ≤ k → P a (skp s a) := by
    intro k
    induction k with
    | zero =>
      intro a ha
      have hn : ¬ (a < s.size ∧ blk (bv s a) = true) := fun h => by omega
      rw [skp_no hn]
      exact h0 a hn
    | succ k ih =>
      intro a ha
      by_cases h : a < s.size ∧ blk (bv s a) = true
      · rw [skp_go h.1 h.2]
        exact h1 a h.1 h.2 (ih (a + 1) (by omega))
      · rw [skp_no h]
        exact h0 a h
  exact fun a => key _ a (Nat.le_refl _)

theorem skp_ge (s : ByteArray) (a : Nat) : a ≤ skp s a :=
  skp_ind s (fun a b => a ≤ b) (fun _ _ => Nat.le_refl _) (fun a _ _ h => by omega) a
theorem skp_le {s : ByteArray} {a : Nat} (h : a ≤ s.size) : skp s a ≤ s.size :=
  skp_ind s (fun a b => a ≤ s.size → b ≤ s.size) (fun _ _ h => h) (fun a h1 _ h2 _ => h2 (by omega)) a h
theorem skp_at (s : ByteArray) (a : Nat) : ¬ (skp s a < s.size ∧ blk (bv s (skp s a)) = true) :=
  skp_ind s (fun _ b => ¬ (b < s.size ∧ blk (bv s b) = true)) (fun _ h => h) (fun _ _ _ h => h) a
theorem skp_skp (s : ByteArray) (a : Nat) : skp s (skp s a) = skp s a := skp_no (skp_at s a)

/-- the byte that stands there; 0: there is none -/
def here (s : ByteArray) (r : Rd) : Int := if r.er = 0 ∧ r.a < s.size then bv s r.a else 0
/-- up to the next token -/
def adv (s : ByteArray) (r : Rd) : Rd := if r.er = 0 then ⟨skp s r.a, 0⟩ else r
/-- its first byte -/
def tok (s : ByteArray) (r : Rd) : Int := here s (adv s r)
/-- refused -/
def rfs (r : Rd) (e : Int) : Rd := if r.er = 0 then ⟨r.a, e⟩ else r
/-- one byte on -/
def nx (r : Rd) : Rd := if r.er = 0 then ⟨r.a + 1, 0⟩ else r
/-- a token that is taken if it may stand there -/
def tkIf (s : ByteArray) (r : Rd) (ok : Bool) (e : Int) : Rd := if ok = true then nx (adv s r) else rfs (adv s r) e
/-- the one token that may stand there -/
def tk (s : ByteArray) (r : Rd) (c : Int) : Rd := tkIf s r (tok s r == c) 11

/-- bytes that are left to read -/
def rem (s : ByteArray) (r : Rd) : Nat := if r.er = 0 then s.size - r.a else 0

theorem adv_er (s : ByteArray) (r : Rd) : (adv s r).er = r.er := by unfold adv; split <;> simp_all
theorem adv_bad {s : ByteArray} {r : Rd} (h : r.er ≠ 0) : adv s r = r := if_neg h
theorem adv_ok {s : ByteArray} {r : Rd} (h : r.er = 0) : adv s r = ⟨skp s r.a, 0⟩ := if_pos h
theorem adv_adv (s : ByteArray) (r : Rd) : adv s (adv s r) = adv s r := by
  by_cases h : r.er = 0
  · rw [adv_ok h, adv_ok rfl]
    show (⟨skp s (skp s r.a), 0⟩ : Rd) = _
    rw [skp_skp]
  · rw [adv_bad h, adv_bad h]
theorem adv_le {s : ByteArray} {r : Rd} (h : r.a ≤ s.size) : (adv s r).a ≤ s.size := by
  unfold adv
  split
  · exact skp_le h
  · exact h
theorem adv_ge (s : ByteArray) (r : Rd) : r.a ≤ (adv s r).a := by
  unfold adv
  split
  · exact skp_ge _ _
  · exact Nat.le_refl _
theorem tok_adv (s : ByteArray) (r : Rd) : tok s (adv s r) = tok s r := by unfold tok; rw [adv_adv]
theorem here_bd (s : ByteArray) (r : Rd) : 0 ≤ here s r ∧ here s r ≤ 255 := by
  unfold here
  split
  · exact bv_bd _ _
  · omega
theorem here_bad {s : ByteArray} {r : Rd} (h : r.er ≠ 0) : here s r = 0 := if_neg fun k => h k.1
theorem here_pos {s : ByteArray} {r : Rd} (h : here s r ≠ 0) : r.er = 0 ∧ r.a < s.size := by
  unfold here at h
  split at h
  · assumption
  · exact absurd rfl h
theorem tok_bd (s : ByteArray) (r : Rd) : 0 ≤ tok s r ∧ tok s r ≤ 255 := here_bd _ _
theorem tok_bad {s : ByteArray} {r : Rd} (h : r.er ≠ 0) : tok s r = 0 := by unfold tok; rw [adv_bad h, here_bad h]
theorem tok_pos {s : ByteArray} {r : Rd} (h : tok s r ≠ 0) : r.er = 0 ∧ (adv s r).a < s.size := by
  have := here_pos h
  rw [adv_er] at this
  exact this
theorem nx_er (r : Rd) : (nx r).er = r.er := by unfold nx; split <;> simp_all
theorem rfs_a (r : Rd) (e : Int) : (rfs r e).a = r.a := by unfold rfs; split <;> rfl
theorem rfs_er {r : Rd} {e : Int} (he : e ≠ 0) : (rfs r e).er ≠ 0 := by
  unfold rfs
  split
  · exact he
  · assumption
theorem rfs_bad {r : Rd} {e : Int} (h : r.er ≠ 0) : rfs r e = r := if_neg h
theorem nx_bad {r : Rd} (h : r.er ≠ 0) : nx r = r := if_neg h
theorem nx_le {s : ByteArray} {r : Rd} (h : here s r ≠ 0) : (nx r).a ≤ s.size := by
  have := here_pos h
  unfold nx
  rw [if_pos this.1]
  exact this.2
theorem tkIf_le {s : ByteArray} {r : Rd} {ok : Bool} {e : Int} (h : r.a ≤ s.size) (hk : ok = true → tok s r ≠ 0) : (tkIf s r ok e).a ≤ s.size := by
  unfold tkIf
  split
  · exact nx_le (hk (by assumption))
  · rw [rfs_a]; exact adv_le h
theorem tk_le {s : ByteArray} {r : Rd} {c : Int} (h : r.a ≤ s.size) (hc : c ≠ 0) : (tk s r c).a ≤ s.size :=
  tkIf_le h (fun k => by have := eq_of_beq k; omega)

theorem rem_bad {s : ByteArray} {r : Rd} (h : r.er ≠ 0) : rem s r = 0 := if_neg h
theorem rem_adv (s : ByteArray) (r : Rd) : rem s (adv s r) ≤ rem s r := by
  by_cases h : r.er = 0
  · rw [adv_ok h]
    unfold rem
    rw [if_pos rfl, if_pos h]
    have := skp_ge s r.a
    show s.size - skp s r.a ≤ _
    omega
  · rw [adv_bad h]; exact Nat.le_refl _
theorem rem_rfs {s : ByteArray} {r : Rd} {e : Int} (he : e ≠ 0) : rem s (rfs r e) = 0 := rem_bad (rfs_er he)
theorem rem_nx_lt {s : ByteArray} {r : Rd} (h : here s r ≠ 0) : rem s (nx r) < rem s r := by
  have k := here_pos h
  unfold rem
  rw [nx_er, if_pos k.1, if_pos k.1]
  unfold nx
  rw [if_pos k.1]
  show s.size - (r.a + 1) < _
  omega
theorem rem_nx_le (s : ByteArray) (r : Rd) : rem s (nx r) ≤ rem s r := by
  unfold rem nx
  split
  · rw [if_pos rfl]; show s.size - (r.a + 1) ≤ _; omega
  · exact Nat.le_refl _
theorem rem_tkIf {s : ByteArray} {r : Rd} {ok : Bool} {e : Int} (he : e ≠ 0) : rem s (tkIf s r ok e) ≤ rem s r := by
  unfold tkIf
  split
  · exact Nat.le_trans (rem_nx_le _ _) (rem_adv _ _)
  · rw [rem_rfs he]; exact Nat.zero_le _
theorem rem_tk (s : ByteArray) (r : Rd) (c : Int) : rem s (tk s r c) ≤ rem s r := rem_tkIf (by omega)
theorem rem_tkIf_lt {s : ByteArray} {r : Rd} {ok : Bool} {e : Int} (hk : ok = true) (ht : tok s r ≠ 0) : rem s (tkIf s r ok e) < rem s r := by
  unfold tkIf
  rw [if_pos hk]
  exact Nat.lt_of_lt_of_le (rem_nx_lt ht) (rem_adv _ _)
theorem rem_le (s : ByteArray) (r : Rd) : rem s r ≤ s.size := by unfold rem; split <;> omega

/-- a digit from lo to hi -/
def isD (s : ByteArray) (r : Rd) (lo hi : Int) : Bool := decide (lo ≤ tok s r - 48 ∧ tok s r - 48 ≤ hi)
def dig (s : ByteArray) (r : Rd) (lo hi : Int) : Int := if isD s r lo hi = true then tok s r - 48 else 0
def digR (s : ByteArray) (r : Rd) (lo hi : Int) : Rd := tkIf s r (isD s r lo hi) 11
theorem isD_pos {s : ByteArray} {r : Rd} {lo hi : Int} (h0 : 0 ≤ lo) (h : isD s r lo hi = true) : tok s r ≠ 0 := by
  have := of_decide_eq_true h
  omega

/-- a number: its value, and where one is behind it -/
def numF (s : ByteArray) : Nat → Rd → Int → Int × Rd
  | 0, r, v => (v, r)
  | k + 1, r, v => if 48 ≤ here s r ∧ here s r ≤ 57 then (if 255 < 10 * v + here s r - 48 then (0, rfs r 11) else numF s k (nx r) (10 * v + here s r - 48)) else (v, r)
def num (s : ByteArray) (r : Rd) : Int × Rd := numF s (rem s r) r 0

theorem numF_dead (s : ByteArray) (k : Nat) (r : Rd) (v : Int) (h : rem s r = 0) : numF s k r v = (v, r) := by
  cases k with
  | zero => rfl
  | succ k =>
    have : ¬ (48 ≤ here s r ∧ here s r ≤ 57) := fun c => by
      have := rem_nx_lt (s := s) (r := r) (by omega)
      omega
    simp only [numF]
    rw [if_neg this]
theorem numF_bd {s : ByteArray} : ∀ (k : Nat) (r : Rd) (v : Int), 0 ≤ v → v ≤ 255 → (0 ≤ (numF s k r v).1 ∧ (numF s k r v).1 ≤ 255)
  | 0, r, v, h0, h1 => ⟨h0, h1⟩
  | k + 1, r, v, h0, h1 => by
    simp only [numF]
    split
    · rename_i hd
      split
      · exact ⟨Int.le_refl _, by show (0 : Int) ≤ 255; omega⟩
      · exact numF_bd k _ _ (by omega) (by omega)
    · exact ⟨h0, h1⟩
theorem numF_rem {s : ByteArray} : ∀ (k : Nat) (r : Rd) (v : Int), rem s (numF s k r v).2 ≤ rem s r
  | 0, r, v => Nat.le_refl _
  | k + 1, r, v => by
    simp only [numF]
    split
    · split
      · show rem s (rfs r 11) ≤ _
        rw [rem_rfs (by omega)]; exact Nat.zero_le _
      · exact Nat.le_trans (numF_rem k _ _) (rem_nx_le _ _)
    · exact Nat.le_refl _
theorem numF_le {s : ByteArray} : ∀ (k : Nat) (r : Rd) (v : Int), r.a ≤ s.size → (numF s k r v).2.a ≤ s.size
  | 0, r, v, h => h
  | k + 1, r, v, h => by
    simp only [numF]
    split
    · rename_i hd
      split
      · show (rfs r 11).a ≤ _
        rw [rfs_a]; exact h
      · exact numF_le k _ _ (nx_le (by omega))
    · exact h

/-- the first place of a value in a row; its length: there is none -/
def fnd (c : Int) : List Int → Nat
  | [] => 0
  | x :: l => if x = c then 0 else fnd c l + 1
theorem fnd_le (c : Int) : ∀ l, fnd c l ≤ l.length
  | [] => Nat.le_refl _
  | x :: l => by
    simp only [fnd, List.length_cons]
    split
    · omega
    · have := fnd_le c l; omega
theorem fnd_at {c : Int} : ∀ {l : List Int}, fnd c l < l.length → l[fnd c l]? = some c
  | [], h => by simp [fnd] at h
  | x :: l, h => by
    simp only [fnd] at h ⊢
    split
    · rename_i e; simp [e]
    · rename_i e
      rw [if_neg e] at h
      rw [List.getElem?_cons_succ]
      exact fnd_at (by simpa using h)
theorem fnd_before {c : Int} : ∀ {l : List Int} {j : Nat}, j < fnd c l → l[j]? ≠ some c
  | [], j, h => by simp
  | x :: l, j, h => by
    simp only [fnd] at h
    split at h
    · omega
    · rename_i e
      cases j with
      | zero => simpa using e
      | succ j => rw [List.getElem?_cons_succ]; exact fnd_before (by omega)
theorem fnd_eq {c : Int} {l : List Int} {i : Nat} (h : l[i]? = some c) (hb : ∀ j, j < i → l[j]? ≠ some c) : fnd c l = i := by
  have hi : i < l.length := (List.getElem?_eq_some_iff.1 h).1
  by_cases h1 : fnd c l < i
  · exact absurd (fnd_at (by omega)) (hb _ h1)
  · by_cases h2 : i < fnd c l
    · exact absurd h (fnd_before h2)
    · omega
theorem fnd_none {c : Int} {l : List Int} (hb : ∀ j, j < l.length → l[j]? ≠ some c) : fnd c l = l.length := by
  have := fnd_le c l
  by_cases h : fnd c l < l.length
  · exact absurd (fnd_at h) (hb _ h)
  · omega
/-- is it a letter? -/
def isL (t : Int) : Bool := decide (97 ≤ t ∧ t ≤ 104)
/-- the variable that stands there -/
def varOk (s : ByteArray) (r : Rd) (ls : List Int) : Bool := isL (tok s r) && decide (fnd (tok s r) ls < ls.length)
def varI (s : ByteArray) (r : Rd) (ls : List Int) : Nat := if varOk s r ls = true then fnd (tok s r) ls else 0
def varR (s : ByteArray) (r : Rd) (ls : List Int) : Rd := tkIf s r (varOk s r ls) (if isL (tok s r) = true then 12 else 11)
/-- which operation a token is; 0: none -/
def opOf (t : Int) : Int := if t = 43 then 3 else if t = 45 then 4 else if t = 42 then 5 else if t = 60 then 6 else if t = 126 then 7 else 0
theorem varOk_pos {s : ByteArray} {r : Rd} {ls : List Int} (h : varOk s r ls = true) : tok s r ≠ 0 := by
  unfold varOk isL at h
  have := of_decide_eq_true (Bool.and_eq_true _ _ ▸ h : _ ∧ _).1
  omega
theorem opOf_pos {t : Int} (h : opOf t ≠ 0) : t ≠ 0 ∧ 3 ≤ opOf t ∧ opOf t ≤ 7 := by
  have key : (t = 43 ∧ opOf t = 3) ∨ (t = 45 ∧ opOf t = 4) ∨ (t = 42 ∧ opOf t = 5) ∨ (t = 60 ∧ opOf t = 6) ∨ (t = 126 ∧ opOf t = 7) ∨ opOf t = 0 := by
    unfold opOf
    by_cases h1 : t = 43
    · rw [if_pos h1]; exact .inl ⟨h1, rfl⟩
    · rw [if_neg h1]
      by_cases h2 : t = 45
      · rw [if_pos h2]; exact .inr (.inl ⟨h2, rfl⟩)
      · rw [if_neg h2]
        by_cases h3 : t = 42
        · rw [if_pos h3]; exact .inr (.inr (.inl ⟨h3, rfl⟩))
        · rw [if_neg h3]
          by_cases h4 : t = 60
          · rw [if_pos h4]; exact .inr (.inr (.inr (.inl ⟨h4, rfl⟩)))
          · rw [if_neg h4]
            by_cases h5 : t = 126
            · rw [if_pos h5]; exact .inr (.inr (.inr (.inr (.inl ⟨h5, rfl⟩))))
            · rw [if_neg h5]; exact .inr (.inr (.inr (.inr (.inr rfl))))
  generalize opOf t = o at *
  omega
end Go.Proofs.YtcnbifdlkalimabGreat
