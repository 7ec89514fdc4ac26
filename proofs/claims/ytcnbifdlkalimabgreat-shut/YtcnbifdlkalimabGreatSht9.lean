/-
  The plain mathematics of translated code: Check gives the file of a source the error that Compile gives the source; no condition but those that stand in each lemma.
-/
import Derived.Test.YtcnbifdlkalimabGreatSht8
namespace Go.Proofs.YtcnbifdlkalimabGreat
open Go.RowKit
set_option linter.unusedVariables false

theorem least_ex {Q : Int → Prop} (h0 : ∀ x, Q x → 0 ≤ x) : ∀ (k : Nat) (q : Int), q.toNat ≤ k → Q q → ∃ p, Q p ∧ ∀ x, x < p → ¬ Q x
  | 0, q, hk, h => ⟨q, h, fun x hx hq => by have := h0 x hq; have := h0 q h; omega⟩
  | k + 1, q, hk, h => by
    by_cases e : ∃ x, x < q ∧ Q x
    · obtain ⟨x, h1, h2⟩ := e
      have := h0 x h2
      exact least_ex h0 k x (by omega) h2
    · exact ⟨q, h, fun x hx hq => e ⟨x, hx, hq⟩⟩

theorem lesL_nn : ∀ (l : List Int) {m : Int}, 0 ≤ m → (∀ a, a ∈ l → 0 ≤ a) → 0 ≤ lesL m l
  | [], m, hm, h => hm
  | a :: l, m, hm, h => lesL_nn l (m := lesF m a) (by have := h a (by simp); unfold lesF; split <;> assumption) (fun b hb => h b (by simp [hb]))

/-- no leak, just if no statement breaks the rules -/
theorem leak_nil {s : ByteArray} (H : SrcOk s) : leakP s = -1 ↔ bads (tabP s) (nP s) (readP s).1.vs (readP s).1.ex (readP s).1.sm (readP s).2 (botI (tabP s) (nP s)) = [] := by
  have e : leakP s = lesL (-1) (bads (tabP s) (nP s) (readP s).1.vs (readP s).1.ex (readP s).1.sm (readP s).2 (botI (tabP s) (nP s))) := by
    rw [H.leak]
    exact brkG_bad (g := bad (tabP s) (nP s) (readP s).1.vs (readP s).1.ex (readP s).1.sm) _ (fun i a => badF_nn _ _ _ _ _ (i + 1) i _ a) (fun i m hm => brkF_bad _ _ _ _ _ (i + 1) i _ m hm) (readP s).2 (-1) (by omega)
  have hnn := badG_nn (f := bad (tabP s) (nP s) (readP s).1.vs (readP s).1.ex (readP s).1.sm) (fun i c a => badF_nn _ _ _ _ _ (i + 1) i c a) (botI (tabP s) (nP s)) (readP s).2
  rw [e]
  unfold bads
  cases hb : badG (bad (tabP s) (nP s) (readP s).1.vs (readP s).1.ex (readP s).1.sm) (readP s).2 (botI (tabP s) (nP s)) with
  | nil => exact ⟨fun _ => rfl, fun _ => rfl⟩
  | cons a l =>
    rw [hb] at hnn
    constructor
    · intro h
      have h1 : lesL (-1) (a :: l) = lesL a l := by show lesL (lesF (-1) a) l = _; rw [none_lesF]
      have := lesL_nn l (m := a) (hnn a (by simp)) (fun b hb => hnn b (by simp [hb]))
      omega
    · intro h; exact absurd h (by simp)

/-- the running heights of the code's bytes -/
theorem hc_hgt {L : List Int} (h : Byt L) : ∀ i : Nat, i ≤ L.length / 2 → hc (bs L) i = hgt L i
  | 0, _ => rfl
  | i + 1, hi => by
    simp only [hc, hgt]
    rw [hc_hgt h i (by omega)]
    have e : L[2 * i]? = some (L[2 * i]'(by omega)) := List.getElem?_eq_getElem (by omega)
    have hb := h _ (List.getElem_mem (show 2 * i < L.length by omega))
    have e1 : bv (bs L) (2 * (i : Int)) = L.getD (2 * i) 0 := by
      have := bv_bs e hb.1 hb.2
      rw [show ((2 * i : Nat) : Int) = 2 * (i : Int) from by omega] at this
      rw [this, List.getD_eq_getElem?_getD, e]
      rfl
    unfold givesAt takesAt
    rw [e1]

/-- THE TWO LOOKS ARE THE SAME -/
theorem shut_is {s : ByteArray} (h : transE s = 0) : ∃ p, CheckIs (fileP s) p (compE s) := by
  have H := src_ok h
  have FI := file_is h
  have hR := read_sim s
  obtain ⟨hn, _, hvs, _, _, n1, n6, hEx, hSm, hmem, hcd⟩ := hR.ok H.er
  have hcd : (readQ s).cd = codP s := hcd
  have hI := read_HI s
  have hSB : ∀ x, x ∈ (readP s).1.sm → SB (nP s) (readP s).1.vs.length x := fun x hx => by have := H.j.sb x hx; rw [H.pn] at this; exact this
  have hK := FI.half
  have hk := FI.k
  have hls := FI.ls
  have hB := cod_byt s
  have hcode := FI.code
  have hev := FI.ev
  have hrng := FI.rng
  have SP := (st_pas (c := bs (codP s)) H.oe H.os H.exb hSB H.n6 FI.m8).2 _ _ _ hk hls (by omega)
  have FT := (st_fit (c := bs (codP s)) H.oe H.os H.exb hSB H.n6 FI.m8 FI.hv).2 _ _ _ hk hls rfl
  have hgs := hc_hgt hB
  have LK := leak_nil H
  have cE : compE s = if 8 < (readQ s).hi then 8 else if leakP s ≠ -1 then 9 else 0 := by unfold compE; rw [if_neg (by rw [h]; simp)]
  have hIx := hI.ex
  have hIh := hI.hi
  rw [hcd] at hIx hIh
  generalize hc0 : bs (codP s) = c at *
  generalize hK0 : (codP s).length / 2 = K at *
  have HL : ∀ p : Int, 0 ≤ p → p ≤ half c → Live c p := fun p h0 h1 => by
    by_cases e : p < K
    · exact SP.fwd (-1) (by omega) p (by omega) e
    · rw [show p = K from by omega]; exact SP.thr (by omega)
  have noTrap : ∀ q, ¬ Trap c q := fun q ⟨⟨h0, h1⟩, _, hn⟩ => hn (by
    have := SP.out (-1) (by omega) q (by omega) (by omega)
    rw [hK]; exact this)
  have same : ∀ f, HeightsOk c f → ∀ i : Nat, (i : Int) ≤ half c → f i = hc c i := fun f hf i hi => by
    have := HL i (by omega) hi (fun x => 0 ≤ x ∧ x ≤ half c ∧ f x.toNat = hc c x.toNat) (fun x hx _ => ?_) (fun x y hx he hw => ?_)
    · have := this.2.2
      rw [Int.toNat_natCast] at this
      exact this
    · have hx : x = 0 := hx
      subst hx
      exact ⟨by omega, by omega, hf.zero⟩
    · have hr := hrng x y he
      have e : ((x.toNat : Nat) : Int) = x := Int.toNat_of_nonneg hx.1
      have h1 := he.2.1
      refine ⟨hr.1, hr.2, ?_⟩
      rw [hf.step x.toNat (by omega) (HL _ (by omega) (by omega)) y (by rw [e]; exact he.2.2), (FT.2.2 x.toNat (by omega) (by omega)).2 y (by rw [e]; exact he.2.2), hx.2.2]
  have main : ∃ p, CodeIs c (bs (readP s).1.vs) (tabP s) (nP s) p (compE s) := by
    rw [cE]
    by_cases h8 : 8 < (readQ s).hi
    · rw [if_pos h8]
      refine ⟨0, .inr ⟨noTrap, .inl ⟨rfl, rfl, ?_⟩⟩⟩
      rintro ⟨f, hf⟩
      obtain ⟨i, h1, h2⟩ := hIx
      have := (hf.rng i (by omega) (HL i (by omega) (by omega))).2
      rw [same f hf i (by omega), hgs i h1, h2] at this
      omega
    · rw [if_neg h8]
      have hH : HeightsOk c (hc c) := by
        refine ⟨rfl, fun i hi _ => ?_, fun _ => ?_, fun i hi _ => (FT.2.2 i (by omega) (by omega)).1, fun i hi _ => (FT.2.2 i (by omega) (by omega)).2⟩
        · have h2 := hIh i (by omega)
          rw [← hgs i (by omega)] at h2
          refine ⟨?_, by omega⟩
          by_cases e : i < K
          · have := (FT.2.2 i (by omega) e).1
            have := (delta_bd c i).1.1
            omega
          · rw [show i = K from by omega, FT.2.1]; omega
        · rw [hK, Int.toNat_natCast]; exact FT.2.1
      have X : Cx c (bs (readP s).1.vs) (tabP s) (readP s).1.ex (readP s).1.sm (nP s) (readP s).1.vs := ⟨H.oe, H.os, H.exb, hSB, read_SK s, H.n6, FI.m8, FI.hv, HL, H.lat, H.vs, hrng⟩
      have hx : Exi c 0 K := fun w h0 h1 => by rw [hK]; exact Reach.start rfl (by omega)
      obtain ⟨bl, ba⟩ := botI_is H.lat
      by_cases hlk : leakP s = -1
      · rw [if_neg (by rw [hlk]; simp)]
        have hnil := LK.1 hlk
        refine ⟨0, .inr ⟨noTrap, .inr ⟨hc c, hH, .inr ⟨rfl, rfl, ?_⟩⟩⟩⟩
        rintro q ⟨⟨q0, q1⟩, ql, qs, a, ha, hle, hf⟩
        obtain ⟨L, V, W, D⟩ := (upp X a.toNat).2 _ _ _ hk hls hk (by omega) rfl hx (botI (tabP s) (nP s)) False ⟨bl, fun k => k.elim⟩ hnil
        have ea : ((a.toNat : Nat) : Int) = a := Int.toNat_of_nonneg ha.1
        have hcl : FCl c (bs (readP s).1.vs) (hc c) a (fun p d => (d = -1 ∧ L p) ∨ (d ≠ -1 ∧ V p)) := by
          refine ⟨fun i j d hl he h0 h1 hp => ?_, fun i j hl he hg hs => ?_, fun i p hl h0 h1 h9 hp hr p0 p1 => ?_⟩
          · have e0 := he.1
            have e1 := he.2.1
            have e : ((i.toNat : Nat) : Int) = i := Int.toNat_of_nonneg e0
            rcases hp with ⟨k, _⟩ | ⟨k, hp⟩
            · omega
            · exact .inr ⟨k, (W.stay i.toNat (by omega) (by omega) j (by rw [e]; exact he.2.2) (by rw [e]; omega) (by rw [e]; exact hp)).1⟩
          · have e0 := he.1
            have e1 := he.2.1
            have e : ((i.toNat : Nat) : Int) = i := Int.toNat_of_nonneg e0
            have hfit := (FT.2.2 i.toNat (by omega) (by omega)).1
            rw [e] at hfit
            refine .inr ⟨by omega, (W.push i.toNat (by omega) (by omega) j (by rw [e]; exact he.2.2) (by rw [e]; exact hg) ?_).1⟩
            rw [e, ea]
            rcases hs with k | k | k | ⟨k1, k2⟩
            · rcases k with k | k
              · exact .inl k.2
              · exact absurd rfl k.1
            · exact .inr (.inr (.inl k))
            · exact .inr (.inr (.inr k))
            · rcases k2 with (k | k) | (k | k)
              · exact .inl k.2
              · exact .inr (.inl k.2)
              · exact .inl k.2
              · exact .inr (.inl k.2)
          · have e : ((i.toNat : Nat) : Int) = i := Int.toNat_of_nonneg h0
            refine .inl ⟨rfl, (D i.toNat (by omega) (by omega) (by rw [e]; exact h9) ?_ p (by rw [e]; exact hr)).1⟩
            rw [e]
            rcases hp with (k | k) | (k | k)
            · exact .inl k.2
            · exact absurd rfl k.1
            · exact .inl k.2
            · exact .inr k.2
        have eq : ((q.toNat : Nat) : Int) = q := Int.toNat_of_nonneg q0
        have := W.sink q.toNat (by omega) (by omega) (by rw [eq]; exact qs) (by
          rw [eq]
          rcases hf with hf | ⟨hv, hf⟩
          · rcases hf _ hcl with k | k
            · exact .inl k.2
            · exact absurd rfl k.1
          · rcases hf _ hcl with k | k
            · exact .inl k.2
            · exact .inr ⟨hv, k.2⟩)
        rw [eq, ea, hle] at this
        exact absurd this (by simp)
      · rw [if_pos hlk]
        have hno : bads (tabP s) (nP s) (readP s).1.vs (readP s).1.ex (readP s).1.sm (readP s).2 (botI (tabP s) (nP s)) ≠ [] := fun e => hlk (LK.2 e)
        obtain ⟨q, hq⟩ := (low X).2 _ _ _ hk hls hk (by omega) rfl hx (botI (tabP s) (nP s)) (fun _ => False) ⟨bl, fun u hu e => by rw [ba u hu] at e; exact absurd e (by simp)⟩ (fun j hj => hj.elim) hno
        obtain ⟨p, hp, hmin⟩ := least_ex (Q := Breaks c (bs (readP s).1.vs) (tabP s) (nP s) (hc c)) (fun x hx => hx.1.1) q.toNat q (Nat.le_refl _) hq
        exact ⟨p, .inr ⟨noTrap, .inr ⟨hc c, hH, .inl ⟨rfl, hp, hmin⟩⟩⟩⟩
  obtain ⟨p, hp⟩ := main
  refine ⟨p, .inr ⟨FI.scan, ?_⟩⟩
  rw [hcode, FI.vars, FI.tab, FI.n]
  exact hp
end Go.Proofs.YtcnbifdlkalimabGreat
