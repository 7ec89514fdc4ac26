/-
  The plain mathematics of translated code: the file of a source is sound, and its parts are what was written; no condition but those that stand in each lemma.
-/
import Derived.Test.YtcnbifdlkalimabGreatSht7
import Derived.Test.YtcnbifdlkalimabGreatSht2
import Derived.Test.YtcnbifdlkalimabGreatCmpB
namespace Go.Proofs.YtcnbifdlkalimabGreat
open Go.RowKit
set_option linter.unusedVariables false

theorem bs_hd (L M : List Int) {k : Int} (h : k = L.length) : hd (bs (L ++ M)) k = bs L := by
  apply ByteArray.ext
  unfold hd
  rw [ByteArray.data_extract, h, Int.toNat_natCast]
  show ((L ++ M).map fun x => UInt8.ofNat x.toNat).toArray.extract 0 L.length = (L.map fun x => UInt8.ofNat x.toNat).toArray
  rw [List.extract_toArray, List.extract_eq_take_drop]
  simp
theorem bs_tl (L M : List Int) {k : Int} (h : k = L.length) : tl (bs (L ++ M)) k = bs M := by
  apply ByteArray.ext
  unfold tl
  rw [ByteArray.data_extract, h, Int.toNat_natCast, bs_size]
  show ((L ++ M).map fun x => UInt8.ofNat x.toNat).toArray.extract L.length (L ++ M).length = (M.map fun x => UInt8.ofNat x.toNat).toArray
  rw [List.extract_toArray, List.extract_eq_take_drop]
  simp
  exact List.take_of_length_le (by simp)

/-- bytes -/
def Byt (L : List Int) : Prop := ∀ x, x ∈ L → 0 ≤ x ∧ x ≤ 255
theorem Byt.app {L M : List Int} (h : Byt L) (k : Byt M) : Byt (L ++ M) := fun x hx => by
  rcases List.mem_append.1 hx with c | c
  · exact h x c
  · exact k x c
theorem byt_two {a b : Int} (ha : 0 ≤ a ∧ a ≤ 255) (hb : 0 ≤ b ∧ b ≤ 255) : Byt [a, b] := fun x hx => by
  simp only [List.mem_cons, List.not_mem_nil, or_false] at hx
  rcases hx with c | c <;> rw [c] <;> assumption
theorem codF_byt (ex : List Ex) : ∀ k e, Byt (codF ex k e)
  | 0, e => fun x hx => by simp [codF] at hx
  | k + 1, e => by
    simp only [codF]
    split
    · exact fun x hx => by simp at hx
    · split
      · exact byt_two (by omega) (by omega)
      · exact ((codF_byt ex k _).app (codF_byt ex k _)).app (byt_two (by omega) (by omega))
theorem allG_byt {f : Nat → Nat → List Int} (h : ∀ i a, Byt (f i a)) : ∀ (l : List Nat) (a : Nat), Byt (allG f l a)
  | [], a => fun x hx => by simp [allG] at hx
  | i :: l, a => by
    simp only [allG]
    exact (h i a).app (allG_byt h l _)
theorem onF_byt (ex : List Ex) (sm : List Sm) : ∀ k i a, Byt (onF ex sm k i a)
  | 0, i, a => fun x hx => by simp [onF] at hx
  | k + 1, i, a => by
    have C : ∀ e, Byt (cod ex e) := fun e => codF_byt ex _ e
    have A := allG_byt (onF_byt ex sm k)
    simp only [onF]
    split
    · exact fun x hx => by simp at hx
    · split
      · exact (C _).app (byt_two (by omega) (by omega))
      · split
        · exact (C _).app (byt_two (by omega) (by omega))
        · split
          · exact (((C _).app (byt_two (by omega) (by omega))).app (A _ _)).app (byt_two (by omega) (by omega))
          · split
            · exact ((C _).app (byt_two (by omega) (by omega))).app (A _ _)
            · exact ((((C _).app (byt_two (by omega) (by omega))).app (A _ _)).app (byt_two (by omega) (by omega))).app (A _ _)
theorem cod_byt (s : ByteArray) : Byt (codP s) := allG_byt (fun i a => onF_byt _ _ _ i a) _ _
theorem seg_bs {L : List Int} (h : Byt L) : Seg (bs L) L 0 := fun j x hx => by
  have hb := h x (List.mem_of_getElem? hx)
  rw [show 2 * 0 + j = j from by omega]
  exact bv_bs hx hb.1 hb.2

section
variable {c v T : ByteArray} {ex : List Ex} {sm : List Sm} {n : Int} {vs : List Int}
/-- every instruction is sound -/
def InsOkF (c : ByteArray) (m : Nat) (n : Int) (i : Nat) : Prop := okIns m (half c) n (bv c (2 * (i : Int))) (bv c (2 * (i : Int) + 1)) = true
theorem ex_ins (hE : ExOk ex) (hX : ExB n vs.length ex) (hn : n ≤ 6) (hm : vs.length ≤ 8) : ∀ e a b, ExAt c ex e a b → ∀ i, a ≤ i → i < b → InsOkF c vs.length n i := by
  refine ex_laid hE hX hn hm _ (fun e x a hx hl hb hI i h1 h2 => ?_) (fun e x a u t hx hop A1 A2 hI i1 i2 i h1 h2 => ?_)
  · rw [show i = a from by omega]
    unfold InsOkF okIns
    rw [hI.1, hI.2]
    refine decide_eq_true ?_
    rcases hb with d | d | d | d <;> omega
  · by_cases e1 : i < u
    · exact i1 i h1 e1
    · by_cases e2 : i < t
      · exact i2 i (by omega) e2
      · rw [show i = t from by omega]
        unfold InsOkF okIns
        rw [hI.1, hI.2]
        exact decide_eq_true (by omega)
theorem ins_of {i m : Nat} {op w : Int} (hI : Ins c i op w) (h : op = 0 ∨ ((op = 1 ∨ op = 2) ∧ w < m) ∨ ((3 ≤ op ∧ op ≤ 7) ∧ w = 0) ∨ ((op = 8 ∨ op = 9) ∧ w ≤ half c) ∨ ((op = 10 ∨ op = 11) ∧ w < n)) : InsOkF c m n i := by
  unfold InsOkF okIns
  rw [hI.1, hI.2]
  exact decide_eq_true h
theorem st_ins (hE : ExOk ex) (hS : SmOk ex sm) (hX : ExB n vs.length ex) (hB : ∀ x, x ∈ sm → SB n vs.length x) (hn : n ≤ 6) (hm : vs.length ≤ 8) :
    (∀ i a b, b ≤ 200 → StAt c ex sm i a b → (b : Int) ≤ half c → ∀ i, a ≤ i → i < b → InsOkF c vs.length n i) ∧ (∀ l a b, b ≤ 200 → LsAt c ex sm l a b → (b : Int) ≤ half c → b ≤ 200 → ∀ i, a ≤ i → i < b → InsOkF c vs.length n i) := by
  have X := ex_ins (c := c) hE hX hn hm
  have SP := st_pas (c := c) hE hS hX hB hn hm
  have lx : ∀ e a b, ExAt c ex e a b → (b : Int) ≤ half c → a < b := fun e a b A h => (ex_pas hE hX hn hm e a b A h).2
  have := st_laid (c := c) hE hS hB hn hm (fun i a b => (b : Int) ≤ half c → b ≤ 200 → ∀ i, a ≤ i → i < b → InsOkF c vs.length n i) (fun l a b => (b : Int) ≤ half c → b ≤ 200 → ∀ i, a ≤ i → i < b → InsOkF c vs.length n i) (fun a _ _ i h1 h2 => by omega) (fun i l a u b A B P Q h hb j h1 h2 => ?_) (fun i x a u hx hk A hI h hb j h1 h2 => ?_) (fun i x a u hx hk A hI h hb j h1 h2 => ?_)
    (fun i x a u b hx hk h2 A hI B Q h hb j h1 h2 => ?_) (fun i x a u t b hx hk h2 A hI B hJ D Q R h hb j h1 h2 => ?_) (fun i x a u t hx hk A hI B hJ Q h hb j h1 h2 => ?_)
  · exact ⟨fun i a b hb A h => this.1 i a b hb A h hb, fun l a b hb A h => this.2 l a b hb A h⟩
  · have := (SP.2 l u b hb B h).le
    by_cases e : j < u
    · exact P (by omega) (by omega) j h1 e
    · exact Q h hb j (by omega) h2
  · have hsb := hB x (List.mem_of_getElem? hx)
    by_cases e : j < u
    · exact X _ _ _ A j h1 e
    · rw [show j = u from by omega]
      exact ins_of hI (by rcases hsb with d | d | d | d <;> omega)
  · have hsb := hB x (List.mem_of_getElem? hx)
    by_cases e : j < u
    · exact X _ _ _ A j h1 e
    · rw [show j = u from by omega]
      exact ins_of hI (by rcases hsb with d | d | d | d <;> omega)
  · by_cases e : j < u
    · exact X _ _ _ A j h1 e
    · by_cases e1 : j = u
      · rw [e1]; exact ins_of hI (by omega)
      · exact Q h hb j (by omega) h2
  · have ld := (SP.2 _ _ _ hb D h).le
    by_cases e : j < u
    · exact X _ _ _ A j h1 e
    · by_cases e1 : j = u
      · rw [e1]; exact ins_of hI (by omega)
      · by_cases e2 : j < t
        · exact Q (by omega) (by omega) j (by omega) e2
        · by_cases e3 : j = t
          · rw [e3]; exact ins_of hJ (by omega)
          · exact R h hb j (by omega) h2
  · have lb := (SP.2 _ _ _ (by omega) B (by omega)).le
    have la := lx _ _ _ A (by omega)
    by_cases e : j < u
    · exact X _ _ _ A j h1 e
    · by_cases e1 : j = u
      · rw [e1]; exact ins_of hI (by omega)
      · by_cases e2 : j < t
        · exact Q (by omega) (by omega) j (by omega) e2
        · rw [show j = t from by omega]; exact ins_of hJ (by omega)
end

/-- the parts of the file -/
structure FileIs (s : ByteArray) : Prop where
  scan : scanE (fileP s) = 0
  code : fCode (fileP s) = bs (codP s)
  vars : fVars (fileP s) = bs (readP s).1.vs
  tab : fTab (fileP s) = tabP s
  n : bv (fileP s) 1 = nP s
  k : (codP s).length / 2 ≤ 200
  ev : (codP s).length % 2 = 0
  half : half (bs (codP s)) = ((codP s).length / 2 : Nat)
  ls : LsAt (bs (codP s)) (readP s).1.ex (readP s).1.sm (readP s).2 0 ((codP s).length / 2)
  m8 : (readP s).1.vs.length ≤ 8
  hv : ∀ x : Int, 0 ≤ x → x < (readP s).1.vs.length → bv (bs (readP s).1.vs) x = (readP s).1.vs.getD x.toNat 0
  rng : Ranged (bs (codP s))

set_option maxHeartbeats 1000000 in
theorem file_is {s : ByteArray} (h : transE s = 0) : FileIs s := by
  have H := src_ok h
  have hk : (codP s).length / 2 ≤ 200 := by
    unfold transE at h
    have hsz := H.sz
    rw [if_neg (by omega), if_neg (by rw [H.er]; simp)] at h
    split at h
    · rename_i c; exact absurd h c
    · split at h
      · omega
      · omega
  have hl : levE (tabP s) = 0 := by
    unfold transE at h
    have hsz := H.sz
    rw [if_neg (by omega), if_neg (by rw [H.er]; simp)] at h
    by_cases c : levE (tabP s) = 0
    · exact c
    · rw [if_pos c] at h; exact h
  have hR := read_sim s
  have hpv : (readP s).1.vs = (headP s).vs := hR.p.2.2
  have hpl : (readP s).1.ls = (headP s).ls := hR.p.2.1
  have n1 := H.n1
  have n6 := H.n6
  have hev : (codP s).length % 2 = 0 := all_even _ _ _ _
  have m8 : (readP s).1.vs.length ≤ 8 := by
    have := (head_gp s).ll
    have := H.j.ll
    rw [hpl] at this
    omega
  have hN : tabN (tabP s) = nP s := by rw [← lev_ok hl]; exact H.lev
  obtain ⟨tt, tsq, tb, -⟩ := tabN_tab (s := tabP s) (by rw [hN]; omega)
  rw [hN] at tsq
  have hsq : ((nP s).toNat * (nP s).toNat : Nat) = (nP s * nP s).toNat := by
    rw [Int.toNat_mul (by omega) (by omega)]
  obtain ⟨CL, hCL, hCn⟩ : ∃ CL : List Int, tabP s = bs CL ∧ (CL.length : Int) = nP s * nP s := ⟨_, rfl, by rw [cells_len, hsq, Int.toNat_of_nonneg (Int.mul_nonneg (by omega) (by omega))]⟩
  have hle : nP s * nP s ≤ 36 := by
    rcases (show nP s = 1 ∨ nP s = 2 ∨ nP s = 3 ∨ nP s = 4 ∨ nP s = 5 ∨ nP s = 6 from by omega) with e | e | e | e | e | e <;> rw [e] <;> decide
  generalize hVS : (readP s).1.vs = VS at *
  have hf : fileP s = bs ([83, nP s] ++ (CL ++ ([(VS.length : Int)] ++ (VS ++ ([(((codP s).length / 2 : Nat) : Int)] ++ codP s))))) := by
    unfold fileP
    rw [hCL, ← hpv, show ((VS.length : Int)) % 256 = VS.length from by omega, show (((codP s).length / 2 : Nat) : Int) % 256 = ((codP s).length / 2 : Nat) from by omega]
    simp only [bs_append, ByteArray.append_assoc]
  have vb : VsB (nP s) VS := by have := H.vs; rw [hVS] at this; exact this
  have hv : ∀ x : Int, 0 ≤ x → x < VS.length → bv (bs VS) x = VS.getD x.toNat 0 := fun x h0 h1 => by
    have e : VS[x.toNat]? = some (VS[x.toNat]'(by omega)) := List.getElem?_eq_getElem (by omega)
    have hL := vb _ (List.getElem_mem (show x.toNat < VS.length by omega))
    have := bv_bs e hL.1 (by have := hL.2; omega)
    rw [Int.toNat_of_nonneg h0] at this
    rw [this, List.getD_eq_getElem?_getD, e]
    rfl
  have hhalf : half (bs (codP s)) = ((codP s).length / 2 : Nat) := by
    unfold half
    rw [bs_size]
    omega
  have hls : LsAt (bs (codP s)) (readP s).1.ex (readP s).1.sm (readP s).2 0 ((codP s).length / 2) := ⟨H.top, seg_bs (cod_byt s), by show _ = 0 + (codP s).length / 2; omega⟩
  have hX : ExB (nP s) VS.length (readP s).1.ex := by have := H.exb; rw [hVS] at this; exact this
  have hSB : ∀ x, x ∈ (readP s).1.sm → SB (nP s) VS.length x := fun x hx => by have := H.j.sb x hx; rw [H.pn, hVS] at this; exact this
  have hins := (st_ins (c := bs (codP s)) H.oe H.os hX hSB n6 m8).2 _ _ _ hk hls (by rw [hhalf]; omega) hk
  have hcode : codeOk (bs (codP s)) (bs VS) (nP s) = true := by
    refine allTo_true.2 fun i hi => ?_
    unfold insOk
    rw [bs_size]
    exact hins i (by omega) (by rw [hhalf] at hi; omega)
  -- the parts
  have b0 : bv (fileP s) 0 = 83 := by rw [hf]; exact bv_bs (k := 0) rfl (by omega) (by omega)
  have b1 : bv (fileP s) 1 = nP s := by rw [hf]; exact bv_bs (k := 1) rfl (by omega) (by omega)
  have t2 : tl (fileP s) 2 = bs (CL ++ ([(VS.length : Int)] ++ (VS ++ ([(((codP s).length / 2 : Nat) : Int)] ++ codP s)))) := by rw [hf]; exact bs_tl _ _ rfl
  have ft : fTab (fileP s) = tabP s := by unfold fTab; rw [b1, t2, hCL]; exact bs_hd _ _ hCn.symm
  have r1 : fR1 (fileP s) = bs ([(VS.length : Int)] ++ (VS ++ ([(((codP s).length / 2 : Nat) : Int)] ++ codP s))) := by unfold fR1; rw [b1, t2]; exact bs_tl _ _ hCn.symm
  have r10 : bv (fR1 (fileP s)) 0 = VS.length := by rw [r1]; exact bv_bs (k := 0) rfl (by omega) (by omega)
  have r1t : tl (fR1 (fileP s)) 1 = bs (VS ++ ([(((codP s).length / 2 : Nat) : Int)] ++ codP s)) := by rw [r1]; exact bs_tl [_] _ rfl
  have fv : fVars (fileP s) = bs VS := by unfold fVars cPart; rw [r10, r1t]; exact bs_hd _ _ (by omega)
  have r2 : fR2 (fileP s) = bs ([(((codP s).length / 2 : Nat) : Int)] ++ codP s) := by unfold fR2 cRest; rw [r10, r1t]; exact bs_tl _ _ (by omega)
  have r20 : bv (fR2 (fileP s)) 0 = ((codP s).length / 2 : Nat) := by rw [r2]; exact bv_bs (k := 0) rfl (by omega) (by omega)
  have r2t : tl (fR2 (fileP s)) 1 = bs (codP s ++ []) := by rw [r2, List.append_nil]; exact bs_tl [_] _ rfl
  have fc : fCode (fileP s) = bs (codP s) := by unfold fCode cPart; rw [r20, r2t]; exact bs_hd _ _ (by omega)
  have r3 : fR3 (fileP s) = bs [] := by unfold fR3 cRest; rw [r20, r2t]; exact bs_tl _ _ (by omega)
  have hsize : (fileP s).size = 2 + (CL.length + (1 + (VS.length + (1 + (codP s).length)))) := by rw [hf, bs_size]; simp only [List.length_append, List.length_cons, List.length_nil]
  have hokf : fOk (fileP s) = true := by
    unfold fOk fTabOk vOk
    rw [Bool.and_eq_true, Bool.and_eq_true, Bool.and_eq_true, Bool.and_eq_true, Bool.and_eq_true, Bool.and_eq_true]
    refine ⟨⟨?_, ?_, ?_⟩, ⟨?_, ?_⟩, ?_, ?_⟩
    · exact decide_eq_true ⟨by omega, b0, by rw [b1]; omega, by rw [b1]; omega⟩
    · refine decide_eq_true ?_
      rw [b1, t2, bs_size]
      simp only [List.length_append]
      omega
    · rw [ft]; exact tb
    · refine decide_eq_true ⟨by rw [r1, bs_size]; simp, by rw [r10]; omega, ?_⟩
      rw [r10, r1t, bs_size]
      simp only [List.length_append]
      omega
    · have : cPart (fR1 (fileP s)) 1 = bs VS := fv
      rw [this]
      refine allTo_true.2 fun i hi => decide_eq_true ?_
      rw [bs_size] at hi
      rw [hv i (by omega) (by omega), b1, Int.toNat_natCast]
      exact (vb.at hi).2
    · refine decide_eq_true ⟨by rw [r2, bs_size]; simp, by rw [r20]; omega, ?_⟩
      rw [r20, r2t, bs_size]
      simp only [List.length_append, List.length_nil]
      omega
    · refine decide_eq_true ?_
      rw [r3]; rfl
  have hscan : scanE (fileP s) = 0 := by
    unfold scanE
    rw [if_neg (by rw [hsize]; omega), if_pos hokf, ft, if_pos hl, fc, fv, b1, if_pos hcode]
  exact ⟨hscan, fc, by rw [hVS]; exact fv, ft, b1, hk, hev, hhalf, hls, by rw [hVS]; exact m8, by rw [hVS]; exact hv, ranged_of hcode⟩
end Go.Proofs.YtcnbifdlkalimabGreat
