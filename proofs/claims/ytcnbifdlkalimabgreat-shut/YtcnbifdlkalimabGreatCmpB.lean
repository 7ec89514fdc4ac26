import Derived.Test.YtcnbifdlkalimabGreatTrnD
import Derived.Test.YtcnbifdlkalimabGreatSrcB
import Derived.Test.YtcnbifdlkalimabGreatSrcC
import Derived.Test.YtcnbifdlkalimabGreatFlw3

/-
  The plain mathematics of sources: what Compile answers, as the program comes to it and as the document does; no condition but those that stand in each lemma.
-/
namespace Go.Proofs.YtcnbifdlkalimabGreat
open Go.RowKit
set_option linter.unusedVariables false

/-- the first leak; -1: none -/
def leakP (s : ByteArray) : Int := firstF (tabP s) (nP s) (readQ s).ss []
/-- what Compile answers: the error, the place, the file -/
def compE (s : ByteArray) : Int := if transE s ≠ 0 then transE s else if 8 < (readQ s).hi then 8 else if leakP s ≠ -1 then 9 else 0
def compA (s : ByteArray) : Int := if transE s ≠ 0 then transA s else if 8 < (readQ s).hi then 0 else if leakP s ≠ -1 then leakP s else 0
def compF (s : ByteArray) : ByteArray := if compE s = 0 then transF s else { data := #[] }

theorem vs_in (s : ByteArray) (h : 1 ≤ nP s) : VsB (nP s) (headP s).vs := by
  have key : ∀ k r (ls vs : List Int), VsB (nP s) vs → VsB (nP s) (decsP s (nP s) k r ls vs).2.2 := by
    intro k
    induction k with
    | zero => intro r ls vs hv; exact hv
    | succ k ih =>
      intro r ls vs hv
      simp only [decsP]
      split
      · split
        · exact hv
        · refine ih _ _ _ fun v hm => ?_
          rw [List.mem_append, List.mem_singleton] at hm
          rcases hm with c | c
          · exact hv v c
          · rw [c]; exact dig_in0 h
      · exact hv
  exact key _ _ _ _ (fun v hv => by simp at hv)

/-- all that is known of a source that was made into a file -/
structure SrcOk (s : ByteArray) : Prop where
  sz : s.size ≤ 300
  er : (endP s).er = 0
  n1 : 1 ≤ nP s
  n6 : nP s ≤ 6
  tab : Tab (tabP s) (nP s)
  ord : pOrder (tabP s) (nP s) = true
  lat : LatOk (tabP s) (nP s)
  lev : levN (tabP s) = nP s
  j : Jn s (readQ s) (readP s).1
  ss : (readQ s).ss = fls (readP s).1.vs (readP s).1.ex (readP s).1.sm (readP s).2 (-1) 0
  oe : ExOk (readP s).1.ex
  os : SmOk (readP s).1.ex (readP s).1.sm
  top : ∀ n, n ∈ (readP s).2 → n < (readP s).1.sm.length
  pn : (readP s).1.n = nP s
  vs : VsB (nP s) (readP s).1.vs

theorem src_ok {s : ByteArray} (h : transE s = 0) : SrcOk s := by
  unfold transE at h
  by_cases h3 : 300 < s.size
  · rw [if_pos h3] at h; omega
  rw [if_neg h3] at h
  have he : (endP s).er = 0 := by
    by_cases he : (endP s).er = 0
    · exact he
    · rw [if_pos he] at h; exact h
  rw [if_neg (by rw [he]; simp)] at h
  have hl : levE (tabP s) = 0 := by
    by_cases hl : levE (tabP s) = 0
    · exact hl
    · rw [if_pos hl] at h; exact h
  have hR := read_sim s
  obtain ⟨hn, _, hvs, _, _, n1, n6, hEx, hSm, hmem, _⟩ := hR.ok he
  have her : (readQ s).r.er = 0 := by rw [hR.r]; exact he
  have hlev := lev_n her hl
  have hN : tabN (tabP s) = nP s := by rw [← lev_ok hl]; exact hlev
  obtain ⟨l1, l2, l3⟩ := levE_0 hl
  have hT := (tabN_tab l1).1
  have hL := lat_ok hl
  rw [hN] at hT hL l2
  obtain ⟨J, hss⟩ := read_h s (head_gp s) he
  have hpv : (readP s).1.vs = (headP s).vs := hR.p.2.2
  exact ⟨by omega, he, n1, n6, hT, by rw [order_same]; exact l2, hL, hlev, J, by rw [hss, hpv], hEx, hSm, hmem, hR.p.1, by rw [hpv]; exact vs_in s n1⟩

/-- the kinds of statements -/
theorem SrcOk.kinds {s : ByteArray} (H : SrcOk s) : ∀ x, x ∈ (readP s).1.sm → x.k = 61 ∨ x.k = 62 ∨ x.k = 63 ∨ x.k = 64 := fun x hx => by
  rcases H.j.sb x hx with c | c | c | c
  · exact .inl c.1
  · exact .inr (.inl c.1)
  · exact .inr (.inr (.inl c))
  · exact .inr (.inr (.inr c))
theorem SrcOk.exb {s : ByteArray} (H : SrcOk s) : ExB (nP s) (readP s).1.vs.length (readP s).1.ex := by have := H.j.eb; rw [H.pn] at this; exact this
/-- the first leak is the least place -/
theorem SrcOk.leak {s : ByteArray} (H : SrcOk s) : leakP s = brks (tabP s) (nP s) (readP s).1.vs (readP s).1.ex (readP s).1.sm (readP s).2 (botI (tabP s) (nP s)) (-1) := by
  have hp := H.j.srt
  unfold leakP
  rw [H.ss] at hp ⊢
  exact first_brks H.lat (by have := H.n1; omega) H.oe H.os H.exb H.vs H.kinds hp
/-- too high: by the program, by the document -/
theorem SrcOk.high {s : ByteArray} (H : SrcOk s) : 8 < (readQ s).hi ↔ ∃ e, e < (readP s).1.ex.length ∧ 8 < need (readP s).1.ex e := by
  constructor
  · intro h
    rcases H.j.hi with c | ⟨e, he, c⟩
    · omega
    · exact ⟨e, he, by omega⟩
  · rintro ⟨e, he, h⟩
    have := H.j.nd e he
    omega
end Go.Proofs.YtcnbifdlkalimabGreat

/-
  The walk of sluice.Compile; for every text.
-/
namespace Go.Proofs.YtcnbifdlkalimabGreat
open Go.RowKit
set_option linter.unusedVariables false
set_option maxRecDepth 100000

/-- the places and targets of the statements that were noted -/
theorem SrcOk.noted {s : ByteArray} (H : SrcOk s) : (∀ x, x ∈ (readQ s).ss → (x.k = 1 ∨ x.k = 2 → Lv (nP s) x.ta)) ∧ (∀ x, x ∈ (readQ s).ss → 0 ≤ x.pl) := by
  have key : ∀ k i ou b x, x ∈ flF (readP s).1.vs (readP s).1.ex (readP s).1.sm k i ou b → (x.k = 1 ∨ x.k = 2 → Lv (nP s) x.ta) ∧ 0 ≤ x.pl := by
    intro k
    induction k with
    | zero => intro i ou b x hx; simp [flF] at hx
    | succ k ih =>
      intro i ou b x hx
      have hG : ∀ (l : List Nat) (ou : Int) (b : Nat), x ∈ flG (flF (readP s).1.vs (readP s).1.ex (readP s).1.sm k) l ou b → (x.k = 1 ∨ x.k = 2 → Lv (nP s) x.ta) ∧ 0 ≤ x.pl := by
        intro l
        induction l with
        | nil => intro ou b h; simp [flG] at h
        | cons j l ih2 =>
          intro ou b h
          simp only [flG, List.mem_append] at h
          rcases h with h | h
          · exact ih _ _ _ _ h
          · exact ih2 _ _ h
      simp only [flF] at hx
      cases hm : (readP s).1.sm[i]? with
      | none => rw [hm] at hx; simp at hx
      | some y =>
        rw [hm] at hx
        simp only [List.mem_cons, List.mem_append] at hx
        rcases hx with hx | hx | hx
        · subst hx
          have hsb := H.j.sb y (List.mem_of_getElem? hm)
          rw [H.pn] at hsb
          refine ⟨fun hk => ?_, by show (0 : Int) ≤ (y.a : Nat); omega⟩
          unfold sqOf at hk ⊢
          dsimp only at hk ⊢
          rcases hsb with ⟨c, c1, c2⟩ | ⟨c, c1, c2⟩ | c | c
          · rw [if_pos c]
            exact H.vs.at (by omega)
          · rw [if_neg (by omega), if_pos c]
            exact ⟨c1, c2⟩
          · rw [if_neg (by omega), if_neg (by omega), if_pos c] at hk; omega
          · rw [if_neg (by omega), if_neg (by omega), if_neg (by omega)] at hk; omega
        · exact hG _ _ _ hx
        · exact hG _ _ _ hx
  have all : ∀ x, x ∈ (readQ s).ss → (x.k = 1 ∨ x.k = 2 → Lv (nP s) x.ta) ∧ 0 ≤ x.pl := by
    intro x hx
    rw [H.ss] at hx
    have hG : ∀ (l : List Nat) (ou : Int) (b : Nat), x ∈ flG (fl (readP s).1.vs (readP s).1.ex (readP s).1.sm) l ou b → (x.k = 1 ∨ x.k = 2 → Lv (nP s) x.ta) ∧ 0 ≤ x.pl := by
      intro l
      induction l with
      | nil => intro ou b h; simp [flG] at h
      | cons j l ih2 =>
        intro ou b h
        simp only [flG, List.mem_append] at h
        rcases h with h | h
        · exact key _ _ _ _ _ h
        · exact ih2 _ _ h
    exact hG _ _ _ hx
  exact ⟨fun x hx => (all x hx).1, fun x hx => (all x hx).2⟩

/-- the number of statements -/
theorem hss_le {s : ByteArray} (hs : s.size ≤ 300) : (readQ s).ss.length ≤ 10000 := by
  have := (read_pot hs).1
  unfold pot at this
  omega
theorem own6d (w : World) (v0 v1 v2 v3 v4 v5 : Value) (t : TypeId) : Own (w.alloc (.cells #[v0, v1, v2, v3, v4, v5] t)) w.heap.size [v0, v1, v2, v3, v4, v5] := own6s w v0 v1 v2 v3 v4 v5 t

set_option maxHeartbeats 3200000 in
theorem compile_any (s : ByteArray) (w : World) (hs : s.size ≤ maxLen) :
    Calls Tryz.prog 6 #[.string s] w fun e w' => e = .returned (.tuple #[.string (compF s), .int .i64 (compA s), .int .i64 (compE s)]) ∧ Below w.heap.size w w' := by
  have hO := topen_any s w hs
  have hTE := (tq_trans s).1
  have hTA := (tq_trans s).2
  by_cases h0 : tqE s = 0
  · have hte : transE s = 0 := by rw [← hTE]; exact h0
    have H := src_ok hte
    have h300 := H.sz
    have hbd := read_bd5 h300
    have hF := file_eq h0
    have hA : tqA s = 0 := by
      have e := h0
      unfold tqE at e
      unfold tqA
      rw [if_neg (by omega)] at e ⊢
      by_cases c : (readQ s).r.er = 0
      · rw [if_neg (by rw [c]; simp)]
      · rw [if_pos c] at e; exact absurd e c
    have her : (readQ s).r.er = 0 := by rw [(read_sim s).r]; exact H.er
    have hTQ := tab_eq her
    have hTs : (tabQ s).size ≤ 100 := by
      rw [hTQ, tabP_size]
      have := H.n6
      have := Nat.mul_le_mul (show (nP s).toNat ≤ 6 by omega) (show (nP s).toNat ≤ 6 by omega)
      omega
    have hln : levN (tabQ s) = nP s := by rw [hTQ]; exact H.lev
    obtain ⟨rF, hrF⟩ : ∃ z, compF s = z := ⟨_, rfl⟩
    obtain ⟨rA, hrA⟩ : ∃ z, compA s = z := ⟨_, rfl⟩
    obtain ⟨rE, hrE⟩ : ∃ z, compE s = z := ⟨_, rfl⟩
    rw [hrF, hrA, hrE]
    replace hO : Kp _ := ⟨hO⟩
    go_enter Tryz.func6, Tryz.ntmps6
    go_wp2_with fail
    refine hO.out.mono ?_
    rintro e w1 ⟨D, rfl, b1, hD⟩
    obtain ⟨S, rfl, r1, r2, r3⟩ := hD.out.1 h0
    obtain ⟨p1, k1, e1⟩ := orow_len r1
    obtain ⟨p2, k2, e2⟩ := orow_len r2
    obtain ⟨p3, k3, e3⟩ := orow_len r3
    rw [e1, e2, e3, h0, hA]
    rw [e1] at r1
    rw [e2] at r2
    rw [e3] at r3
    rw [hln, hTQ]
    rw [hln, hTQ] at hF
    rw [hTQ] at hTs
    obtain ⟨w2, hw2⟩ : ∃ w2, w2 = w1.alloc (.cells #[.int .i64 (nP s), .string (tabP s), .int .i64 (readQ s).hi, .slice p3 (readQ s).ss.length k3, .slice p1 (readQ s).vs.length k1, .slice p2 (readQ s).cd.length k2] 58) := ⟨_, rfl⟩
    have b2 : Below w1.heap.size w1 w2 := by rw [hw2]; exact (Below.refl _ _).alloc (Nat.le_refl _) _
    have B2 : Kp (Below w.heap.size w w2) := ⟨b1.trans (b2.mono b1.size)⟩
    have hFl := fun (W : World) (hW : Below w2.heap.size w2 W) => file_any (nP s) (readQ s).hi (tabP s) p1 p2 p3 k1 k2 k3 (readQ s).ss.length (readQ s).vs (readQ s).cd (w.heap.size + 1) W (orow_step (orow_step r1 b2) hW) (orow_step (orow_step r2 b2) hW) hTs hbd.2 (by omega)
    rw [hF] at hFl
    have hLk := first_any H.tab H.ord H.lat (readQ s).ss (.slice p3 (readQ s).ss.length k3) (w.heap.size + 1) w2 (orow_step r3 b2) (hss_le h300) H.noted.1 H.noted.2
    obtain ⟨f, hf⟩ : ∃ f, firstF (tabP s) (nP s) (readQ s).ss [] = f := ⟨_, rfl⟩
    have hleak : leakP s = f := hf
    rw [hf] at hLk
    have O2 := own6d w1 (.int .i64 (nP s)) (.string (tabP s)) (.int .i64 (readQ s).hi) (.slice p3 (readQ s).ss.length k3) (.slice p1 (readQ s).vs.length k1) (.slice p2 (readQ s).cd.length k2) 58
    rw [← hw2] at O2
    have hcE : compE s = if 8 < (readQ s).hi then 8 else if f ≠ -1 then 9 else 0 := by unfold compE; rw [if_neg (by rw [hte]; simp), hleak]
    have hcA : compA s = if 8 < (readQ s).hi then 0 else if f ≠ -1 then f else 0 := by unfold compA; rw [if_neg (by rw [hte]; simp), hleak]
    have hcF : compF s = if compE s = 0 then transF s else { data := #[] } := rfl
    generalize (readQ s).vs.length = vl at *
    generalize (readQ s).cd.length = cl at *
    generalize (readQ s).ss.length = sl at *
    generalize (readQ s).hi = hi at *
    generalize hnn : nP s = n at *
    generalize tabP s = T at *
    replace hFl : Kp _ := ⟨hFl⟩
    replace hLk : Kp _ := ⟨hLk⟩
    replace hw2 : Kp _ := ⟨hw2⟩
    replace O2 : Kp _ := ⟨O2⟩
    replace hcF : Kp _ := ⟨hcF⟩
    rw [hrA] at hcA
    rw [hrE] at hcE
    have hcF2 : Kp (rF = if rE = 0 then transF s else { data := #[] }) := ⟨by rw [← hrF, hcF.out, hrE]⟩
    generalize transF s = F at *
    replace hcA : Kp _ := ⟨hcA⟩
    replace hcE : Kp _ := ⟨hcE⟩
    clear r1 r2 r3 e1 e2 e3 hD b1 b2 hF hO h0 hA hbd hTE hTA hte H h300 her hTQ hTs hln hleak hf hcF hrF hrA hrE hnn
    by_cases h8 : 8 < hi
    · have x1 : Kp (rE = 8 ∧ rA = 0 ∧ rF = { data := #[] }) := ⟨by
        have a := hcE.out
        have b := hcA.out
        have c := hcF2.out
        rw [if_pos h8] at a b
        rw [a, if_neg (by omega)] at c
        exact ⟨a, b, c⟩⟩
      go_wp2_with fail
      refine bodyPost_ret (v := .tuple #[.string { data := #[] }, .int .i64 0, .int .i64 8]) (by simp [results, Tryz.results6, go_sem]) rfl ⟨by rw [x1.out.1, x1.out.2.1, x1.out.2.2], ?_⟩
      have := B2.out
      rw [hw2.out] at this
      exact this
    · go_wp2_with fail
      rw [← hw2.out]
      refine hLk.out.mono ?_
      rintro e w3 ⟨rfl, b3⟩
      have O3 := O2.out.step b3
      have s0 := O3.c 0 _ rfl
      have s1 := O3.c 1 _ rfl
      have s2 := O3.c 2 _ rfl
      have s3 := O3.c 3 _ rfl
      have s4 := O3.c 4 _ rfl
      have s5 := O3.c 5 _ rfl
      obtain ⟨gx, hgx⟩ : ∃ gx, Kp (w1.heap.size = gx) := ⟨_, ⟨rfl⟩⟩
      rw [hgx.out] at s0 s1 s2 s3 s4 s5
      simp only [hgx.out]
      have B3 : Kp (Below w.heap.size w w3) := ⟨B2.out.trans (b3.mono B2.out.size)⟩
      replace b3 : Kp _ := ⟨b3⟩
      clear O3 O2 hLk hw2
      by_cases hf1 : f = -1
      · have x1 : Kp (rE = 0 ∧ rA = 0 ∧ rF = F) := ⟨by
          have a := hcE.out
          have b := hcA.out
          have c := hcF2.out
          rw [if_neg (by omega), if_neg (by rw [hf1]; simp)] at a b
          rw [a, if_pos rfl] at c
          exact ⟨a, b, c⟩⟩
        rw [if_pos hf1, show (f != -1) = false from by rw [hf1]; rfl]
        clear hf1 hcE hcA hcF2 h8
        go_wp2_with fail
        refine (hFl.out _ b3.out).mono ?_
        rintro e w4 ⟨rfl, b4⟩
        replace b4 : Kp _ := ⟨b4⟩
        go_wp2_with fail
        refine bodyPost_ret (v := .tuple #[.string F, .int .i64 0, .int .i64 0]) (by simp [results, Tryz.results6, go_sem]) rfl ⟨by rw [x1.out.1, x1.out.2.1, x1.out.2.2], B3.out.trans (b4.out.mono B3.out.size)⟩
      · have x1 : Kp (rE = 9 ∧ rA = f ∧ rF = { data := #[] }) := ⟨by
          have a := hcE.out
          have b := hcA.out
          have c := hcF2.out
          rw [if_neg (by omega), if_pos hf1] at a b
          rw [a, if_neg (by omega)] at c
          exact ⟨a, b, c⟩⟩
        rw [if_neg hf1, show (f != -1) = true from bne_iff_ne.2 hf1]
        clear hf1 hcE hcA hcF2 h8 hFl
        go_wp2_with fail
        refine bodyPost_ret (v := .tuple #[.string { data := #[] }, .int .i64 f, .int .i64 9]) (by simp [results, Tryz.results6, go_sem]) rfl ⟨by rw [x1.out.1, x1.out.2.1, x1.out.2.2], B3.out⟩
  · have hcE : compE s = transE s := if_pos (by rw [← hTE]; exact h0)
    have hcA : compA s = transA s := if_pos (by rw [← hTE]; exact h0)
    have hcF : compF s = { data := #[] } := if_neg (by rw [hcE, ← hTE]; exact h0)
    rw [hcE, hcA, hcF, ← hTE, ← hTA]
    have hkb : (tqE s != 0) = true := bne_iff_ne.2 h0
    have hO2 : Kp (Calls Tryz.prog 17 #[.string s] w fun e w' => e = .returned (.tuple #[.agg #[.int .i64 0, .string { data := #[] }, .int .i64 0, .slice none 0 0, .slice none 0 0, .slice none 0 0], .int .i64 (tqA s), .int .i64 (tqE s)]) ∧ Below w.heap.size w w') := ⟨hO.mono fun e w' h => by
      obtain ⟨D, rfl, b1, hD⟩ := h
      rw [hD.out.2 h0]
      exact ⟨rfl, b1⟩⟩
    clear hO h0 hTE hTA hcE hcA hcF
    generalize tqE s = er at *
    generalize tqA s = ea at *
    go_enter Tryz.func6, Tryz.ntmps6
    go_wp2_with fail
    refine hO2.out.mono ?_
    rintro e w1 ⟨rfl, b1⟩
    have hl1 := b1.size
    replace b1 : Kp _ := ⟨b1⟩
    go_wp2_with fail
    refine bodyPost_ret (v := .tuple #[.string { data := #[] }, .int .i64 ea, .int .i64 er]) (by simp [results, Tryz.results6, go_sem]) rfl ⟨rfl, b1.out.alloc hl1 _⟩
end Go.Proofs.YtcnbifdlkalimabGreat
