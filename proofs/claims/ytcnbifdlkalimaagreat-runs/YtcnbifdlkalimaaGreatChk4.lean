/-
  The walks of the document's own answer on what is let through (package sluiceref, P5), fourth part: the junction and the region of a choice; for every file all of whose ways lead to the end.
-/
import Derived.Test.YtcnbifdlkalimaaGreatChk3
import Derived.Test.YtcnbifdlkalimaaGreatPlain6
import Derived.Deep.RegionWith
namespace Go.Proofs.YtcnbifdlkalimaaGreat
open Go.RowKit Go.Deep
set_option linter.unusedVariables false

/-- the box of the unit, laid first -/
structure UBox (n : Int) (t v c : ByteArray) (w wr : World) : Prop where
  b : Below w.heap.size w wr
  o : Own wr w.heap.size [.int .i64 n, .string t, .string v, .string c, .int .i64 (half c)]

theorem UBox.step {n : Int} {t v c : ByteArray} {w wr w1 : World} (h : UBox n t v c w wr) (hb : Below wr.heap.size wr w1) : UBox n t v c w w1 := ⟨h.b.trans (hb.mono (Nat.le_of_lt h.o.lt)), h.o.step hb⟩
theorem UBox.begin (n : Int) (t v c : ByteArray) (w : World) : UBox n t v c w (w.alloc (.cells #[.int .i64 n, .string t, .string v, .string c, .int .i64 (half c)] 54)) := ⟨(Below.refl _ _).alloc (Nat.le_refl _) _, Own.new5 w _ _ _ _ _ _⟩

theorem row_below {w w' : World} {B : Nat} {e : TypeId} {v : Value} {k : Nat} {xs : List Value} (h : w.ownsRow B e 1 v k xs) (hb : Below w.heap.size w w') : w'.ownsRow B e 1 v k xs := by
  refine ⟨h.1, ?_⟩
  rcases h.2 with h2 | ⟨g, cap, cur, h1, h2, h3, h4⟩
  · exact .inl h2
  · refine .inr ⟨g, cap, cur, h1, h2, ?_, h4⟩
    obtain ⟨hlt, _⟩ := Array.getElem?_eq_some_iff.1 h3
    rw [hb.block g hlt]
    exact h3

set_option maxHeartbeats 3200000 in
theorem junction_ref (n : Int) (i : Nat) (t v c : ByteArray) (w : World) (hc : c.size ≤ maxLen) (hk : half c ≤ 200) (hi : (i : Int) < half c) (hr : Kp (Ranged c)) (hend : Kp (∀ x, Reach c (One i) (-1) x → Reach c (One x) (-1) (half c))) :
    Calls Tryz.prog 52 #[.agg #[.int .i64 n, .string t, .string v, .string c, .int .i64 (half c)], .int .i64 i] w fun e w' => ∃ j : Int, e = .returned (.int .i64 j) ∧ Kp (IsJ c i j) ∧ Below w.heap.size w w' := by
  obtain ⟨i0, hi0, hz0, hz1, hz2⟩ := info_parts info_int
  have hh := (half_bd c).1
  go_enter Tryz.func52, Tryz.ntmps52
  go_wp2_with fail
  go_loopw [5, 6] (fun sv j wr => ∃ (k : Nat) (L : List Int), k ≤ ((half c).toNat + 1) ∧ j = .int .i64 k ∧ Kp (wr.ownsRow (w.heap.size + 1) 3 1 sv L.length (L.map (Value.int .i64))) ∧ UBox n t v c w wr ∧ Kp (∀ x, x ∈ L ↔ (0 ≤ x ∧ x < k ∧ x ≠ i ∧ OnAll c i x)) ∧ L.length ≤ k) (fun _ j _ => ((half c).toNat + 1) - (intOf j).toNat)
  case atStart => exact ⟨0, [], by omega, rfl, ⟨World.ownsRow_nil _ _ _ _⟩, UBox.begin n t v c w, ⟨fun x => by simp; omega⟩, by simp⟩
  case round =>
    obtain ⟨k, L, hkn, rfl, hown, hU, hL, hLk⟩ := hrel
    have ol := hU.o.lt
    have q0 := hU.o.c 0 _ rfl
    have q1 := hU.o.c 1 _ rfl
    have q2 := hU.o.c 2 _ rfl
    have q3 := hU.o.c 3 _ rfl
    have q4 := hU.o.c 4 _ rfl
    by_cases hlt : (k : Int) ≤ half c
    · by_cases hki : k = i
      · have hki1 : ((k : Int) != (i : Int)) = false := by rw [hki]; simp
        have hL2 : Kp (∀ x, x ∈ L ↔ (0 ≤ x ∧ x < ((k + 1 : Nat) : Int) ∧ x ≠ i ∧ OnAll c i x)) := ⟨fun x => by
          rw [hL.out x]
          constructor
          · rintro ⟨a, b, d, e⟩; exact ⟨a, by omega, d, e⟩
          · rintro ⟨a, b, d, e⟩; exact ⟨a, by omega, d, e⟩⟩
        clear hki
        go_wp2
        go_roundw
        case rel => exact ⟨k + 1, L, by omega, by go_num, hown, hU, hL2, by omega⟩
        case measure => simp [intOf]; omega
      · have hki1 : ((k : Int) != (i : Int)) = true := bne_iff_ne.2 (by omega)
        go_wp2_with fail
        go_region_with (first | (go_at_call 18; refine (only_ref n i t v c _ hk (by omega)).mono ?_; rintro e w1 ⟨g, rfl, hg, hrow, hb1⟩; have hU1 := hU.step ((Below.refl _ _).drew.trans hb1); have o0 := hU1.o.c 0 _ rfl; have o1 := hU1.o.c 1 _ rfl; have o2 := hU1.o.c 2 _ rfl; have o3 := hU1.o.c 3 _ rfl; have o4 := hU1.o.c 4 _ rfl) | (go_at_call 17; refine (from_ref n k g (fun j => decide (j = i)) t v c _ hc hk hr hrow).mono ?_; rintro e w2 ⟨rfl, m, hrow2, hm, hb2⟩; replace hm : Kp _ := ⟨hm⟩))
        all_goals
          have hU2 := hU1.step hb2
          have hbw : Below wr.heap.size wr w2 := ((Below.refl _ _).drew.trans hb1).trans (hb2.mono hb1.size)
          have hown2 : Kp (w2.ownsRow (w.heap.size + 1) 3 1 u5 L.length (L.map (Value.int .i64))) := ⟨row_below hown.out hbw⟩
          have hcell := hrow2.cell (i := (half c).toNat) (by omega)
          have hKc : Kp (m (half c).toNat = true ↔ Reach c (One i) k (half c)) := ⟨by
            rw [hm.out (half c).toNat (by omega), marked_one (by omega)]
            rw [Int.toNat_of_nonneg hh]⟩
          clear hU hown hbw hb1 hb2 hU1 o0 o1 o2 o3 o4 ol q0 q1 q2 q3 q4 hrow hrow2 hm hg
          have ol := hU2.o.lt
          have q0 := hU2.o.c 0 _ rfl
          have q1 := hU2.o.c 1 _ rfl
          have q2 := hU2.o.c 2 _ rfl
          have q3 := hU2.o.c 3 _ rfl
          have q4 := hU2.o.c 4 _ rfl
          have hz3 := hU2.b.size
          have hkb : half c < half c + 1 := by omega
          cases hmK : m (half c).toNat
          · rw [hmK] at hcell
            have hon : Kp (OnAll c i k) := ⟨fun h => by rw [hKc.out.2 h] at hmK; exact absurd hmK (by simp)⟩
            have hL2 : Kp (∀ x, x ∈ L ++ [(k : Int)] ↔ (0 ≤ x ∧ x < ((k + 1 : Nat) : Int) ∧ x ≠ i ∧ OnAll c i x)) := ⟨fun x => by
              rw [List.mem_append, hL.out x, List.mem_singleton]
              constructor
              · rintro (⟨a, b, d, e⟩ | e)
                · exact ⟨a, by omega, d, e⟩
                · subst e; exact ⟨by omega, by omega, by omega, hon.out⟩
              · rintro ⟨a, b, d, e⟩
                by_cases hx : x = k
                · exact .inr hx
                · exact .inl ⟨a, by omega, d, e⟩⟩
            clear hmK hKc hL
            go_wp2_with (at_builtin; refine wpList_append_own _ rfl _ _ 60 rfl (w.heap.size + 1) 3 i0 (.int .i64 0) 1 8 Tryz.underlying60 hi0 hz0 hz1 hz2 rfl (by decide) _ _ _ rfl (hown2.out.alloc _) ⟨w2.heap.size, 0, none⟩ 1 1 [.int .i64 ((k : Int))] rfl rfl ?a1 ?a2 ?a3 ?a4 ?a5 ?_)
            case a1 =>
              intro j u hj
              match j, hj with
              | 0, hj => simp at hj; subst hj; simp [Addr.add]
            case a2 => intro u hu; simp at hu; subst hu; rfl
            case a3 => unfold maxLen; omega
            case a4 => omega
            case a5 => simp; omega
            intro v' w3 hown3 hgrow _
            have hU3 : UBox n t v c w w3 := ⟨(hU2.b.alloc hz3 _).grown hgrow (by simp; omega) (fun j hj => Nat.le_of_succ_le ((hown2.out.lt j hj).1)), ⟨Nat.lt_of_lt_of_le ol (Nat.le_trans (by simp) hgrow.size), fun j x hx => by
              have hne : some w.heap.size ≠ u5.ownBlock := fun e => by have := (hown2.out.lt _ e.symm).1; omega
              rw [World.cell?_of_block (w := w2.alloc (.cells #[.int .i64 (k : Int)] 3)) (hgrow.block _ (by simp; omega) hne)]
              exact (hU2.o.alloc _).c j x hx, fun j x hx => by
              have hne : some w.heap.size ≠ u5.ownBlock := fun e => by have := (hown2.out.lt _ e.symm).1; omega
              rw [World.frozen?_of_block (w := w2.alloc (.cells #[.int .i64 (k : Int)] 3)) (hgrow.block _ (by simp; omega) hne)]
              exact (hU2.o.alloc _).f j x hx⟩⟩
            have hown4 : Kp (w3.ownsRow (w.heap.size + 1) 3 1 v' (L ++ [(k : Int)]).length ((L ++ [(k : Int)]).map (Value.int .i64))) := ⟨by rw [List.length_append, List.map_append]; exact hown3⟩
            clear hown3 hgrow hown2 hU2 ol q0 q1 q2 q3 q4
            go_wp2
            go_roundw
            case rel => exact ⟨k + 1, L ++ [(k : Int)], by omega, by go_num, hown4, hU3, hL2, by simp; omega⟩
            case measure => simp [intOf]; omega
          · rw [hmK] at hcell
            have hon : Kp (¬ OnAll c i k) := ⟨fun h => h (hKc.out.1 hmK)⟩
            have hL2 : Kp (∀ x, x ∈ L ↔ (0 ≤ x ∧ x < ((k + 1 : Nat) : Int) ∧ x ≠ i ∧ OnAll c i x)) := ⟨fun x => by
              rw [hL.out x]
              constructor
              · rintro ⟨a, b, d, e⟩
                exact ⟨a, by omega, d, e⟩
              · rintro ⟨a, b, d, e⟩
                by_cases hx : x = k
                · subst hx; exact absurd e hon.out
                · exact ⟨a, by omega, d, e⟩⟩
            clear hmK hKc hL
            go_wp2
            go_roundw
            case rel => exact ⟨k + 1, L, by omega, by go_num, hown2, hU2, hL2, by omega⟩
            case measure => simp [intOf]; omega
    · have hLall : Kp (∀ x, x ∈ L ↔ (0 ≤ x ∧ x ≤ half c ∧ x ≠ i ∧ OnAll c i x)) := ⟨fun x => by
        rw [hL.out x]
        constructor
        · rintro ⟨a, b, d, e⟩; exact ⟨a, by omega, d, e⟩
        · rintro ⟨a, b, d, e⟩; exact ⟨a, by omega, d, e⟩⟩
      have hne : L ≠ [] := by
        have h1 := (hLall.out (half c)).2 ⟨hh, Int.le_refl _, by omega, fun h => h.ne rfl⟩
        intro e
        rw [e] at h1
        exact absurd h1 (by simp)
      obtain ⟨a0, ha0, hmin⟩ := first_exists hr.out (i := (i : Int)) (by omega) hend.out L hne (fun x hx => ⟨((hLall.out x).1 hx).2.2.1, ((hLall.out x).1 hx).2.2.2⟩)
      replace ha0 : Kp _ := ⟨ha0⟩
      replace hmin : Kp _ := ⟨hmin⟩
      have hI := ints_of_row hne hown.out
      obtain ⟨⟨go, cap, rfl, hgB, hgl, hcells⟩⟩ := hI
      replace hcells : Kp _ := ⟨hcells⟩
      have hlen : L.length ≤ 201 := by omega
      have hmem : Kp (∀ y : Int, y ∈ L → ∃ q, q < L.length ∧ L[q]? = some y) := ⟨fun j hj => by
        obtain ⟨q, hq, he⟩ := List.getElem_of_mem hj
        exact ⟨q, hq, by rw [List.getElem?_eq_getElem hq, he]⟩⟩
      clear hL hown hne
      go_wp2_with fail
      go_loopw [8] (fun av wr => ∃ a : Nat, a ≤ L.length ∧ av = .int .i64 a ∧ UBox n t v c w wr ∧ go < wr.heap.size ∧ Kp (∀ (p : Nat) (x : Int), L[p]? = some x → wr.cell? ⟨go, p, none⟩ = some (.int .i64 x)) ∧ Kp (∀ (p : Nat) (x : Int), p < a → L[p]? = some x → ∃ b, b ∈ L ∧ Reach c (One i) x b)) (fun av _ => L.length - (intOf av).toNat)
      case atStart => exact ⟨0, by omega, rfl, hU, hgl, hcells, ⟨fun p x hp => absurd hp (by omega)⟩⟩
      case round =>
        clear hU hcells hgl ol q0 q1 q2 q3 q4
        obtain ⟨a, ha, rfl, hU, hgl, hcells, hno⟩ := hrel
        have ol := hU.o.lt
        have q0 := hU.o.c 0 _ rfl
        have q1 := hU.o.c 1 _ rfl
        have q2 := hU.o.c 2 _ rfl
        have q3 := hU.o.c 3 _ rfl
        have q4 := hU.o.c 4 _ rfl
        by_cases hla : a < L.length
        · obtain ⟨x, hx⟩ : ∃ x, L[a]? = some x := ⟨_, List.getElem?_eq_getElem hla⟩
          have hcx := hcells.out a x hx
          have hxin : Kp (0 ≤ x ∧ x ≤ half c ∧ x ≠ i ∧ OnAll c i x) := ⟨(hLall.out x).1 (List.mem_of_getElem? hx)⟩
          replace hx : Kp _ := ⟨hx⟩
          have hla2 : (a : Int) < (L.length : Int) := by omega
          go_wp2_with fail
          go_region_with (first | (go_at_call 18; refine (only_ref n i t v c _ hk (by omega)).mono ?_; rintro e w1 ⟨g, rfl, hg, hrow, hb1⟩; have hU1 := hU.step ((Below.refl _ _).drew.trans hb1); have o0 := hU1.o.c 0 _ rfl; have o1 := hU1.o.c 1 _ rfl; have o2 := hU1.o.c 2 _ rfl; have o3 := hU1.o.c 3 _ rfl; have o4 := hU1.o.c 4 _ rfl; have hcx1 : w1.cell? ⟨go, a, none⟩ = some (.int .i64 x) := (hb1.cell (p := ⟨go, a, none⟩) hgl).trans hcx) | (go_at_call 17; refine (from_ref n x g (fun j => decide (j = i)) t v c _ hc hk hr hrow).mono ?_; rintro e w2 ⟨rfl, m, hrow2, hm, hb2⟩; replace hm : Kp _ := ⟨hm⟩))
          all_goals
            have hU2 := hU1.step hb2
            have hbw : Below wr.heap.size wr w2 := ((Below.refl _ _).drew.trans hb1).trans (hb2.mono hb1.size)
            have hgl2 : go < w2.heap.size := Nat.lt_of_lt_of_le hgl hbw.size
            have hcells2 : Kp (∀ (p : Nat) (x : Int), L[p]? = some x → w2.cell? ⟨go, p, none⟩ = some (.int .i64 x)) := ⟨fun p x hpx => (hbw.cell (p := ⟨go, p, none⟩) hgl).trans (hcells.out p x hpx)⟩
            have hmy : Kp (∀ y : Nat, (y : Int) ≤ half c → (m y = true ↔ Reach c (One i) x y)) := ⟨fun y hy => by rw [hm.out y hy, marked_one (by omega)]⟩
            clear hU hbw hb1 hb2 hU1 o0 o1 o2 o3 o4 ol q0 q1 q2 q3 q4 hrow hm hg hcx hcx1 hcells
            go_wp2_with fail
            go_loop [10, 11] (fun f bb => ∃ (fst : Bool) (b : Nat), f = .bool fst ∧ b ≤ L.length ∧ bb = .int .i64 b ∧ Kp (fst = true ↔ ∀ (p : Nat) (y : Int), p < b → p ≠ a → L[p]? = some y → ¬ Reach c (One i) x y)) (fun _ bb => L.length - (intOf bb).toNat)
            case atStart => exact ⟨true, 0, rfl, by omega, rfl, ⟨by simp⟩⟩
            case round =>
              obtain ⟨fst, b, rfl, hb, rfl, hF⟩ := hrel
              by_cases hlb : b < L.length
              · obtain ⟨y, hy⟩ : ∃ y, L[b]? = some y := ⟨_, List.getElem?_eq_getElem hlb⟩
                have hcy := hcells2.out b y hy
                have hyin := (hLall.out y).1 (List.mem_of_getElem? hy)
                obtain ⟨yn, rfl⟩ := Int.eq_ofNat_of_zero_le hyin.1
                have hy1 : (yn : Int) ≤ half c := hyin.2.1
                have hy2 : (yn : Int) < half c + 1 := by omega
                clear hyin
                replace hy : Kp _ := ⟨hy⟩
                have hmc := hrow2.cell (i := yn) (by omega)
                have hlb2 : (b : Int) < (L.length : Int) := by omega
                by_cases hba : b = a
                · have hba1 : ((b : Int) != (a : Int)) = false := by rw [hba]; simp
                  have hF2 : Kp (fst = true ↔ ∀ (p : Nat) (y : Int), p < b + 1 → p ≠ a → L[p]? = some y → ¬ Reach c (One i) x y) := ⟨by
                    rw [hF.out]
                    constructor
                    · intro h p y hp hpa; exact h p y (by omega) hpa
                    · intro h p y hp hpa; exact h p y (by omega) hpa⟩
                  clear hba
                  go_wp2
                  go_round
                  case rel => exact ⟨fst, b + 1, rfl, by omega, by go_num, hF2⟩
                  case measure => simp [intOf]; omega
                · have hba1 : ((b : Int) != (a : Int)) = true := bne_iff_ne.2 (by omega)
                  cases hmb : m yn
                  · rw [hmb] at hmc
                    have hF2 : Kp (fst = true ↔ ∀ (p : Nat) (y : Int), p < b + 1 → p ≠ a → L[p]? = some y → ¬ Reach c (One i) x y) := ⟨by
                      rw [hF.out]
                      constructor
                      · intro h p y hp hpa hpy hR
                        by_cases e : p = b
                        · subst e
                          rw [hy.out] at hpy
                          simp only [Option.some.injEq] at hpy
                          subst hpy
                          rw [(hmy.out yn hy1).2 hR] at hmb
                          exact absurd hmb (by simp)
                        · exact h p y (by omega) hpa hpy hR
                      · intro h p y hp hpa; exact h p y (by omega) hpa⟩
                    clear hba hmb
                    go_wp2
                    go_round
                    case rel => exact ⟨fst, b + 1, rfl, by omega, by go_num, hF2⟩
                    case measure => simp [intOf]; omega
                  · rw [hmb] at hmc
                    have hF2 : Kp (false = true ↔ ∀ (p : Nat) (y : Int), p < b + 1 → p ≠ a → L[p]? = some y → ¬ Reach c (One i) x y) := ⟨by
                      constructor
                      · intro h; exact absurd h (by simp)
                      · intro h; exact absurd ((hmy.out yn hy1).1 hmb) (h b yn (by omega) hba hy.out)⟩
                    clear hba hmb
                    go_wp2
                    go_round
                    case rel => exact ⟨false, b + 1, rfl, by omega, by go_num, hF2⟩
                    case measure => simp [intOf]; omega
              · have hbe : b = L.length := by omega
                have hcx := hcells2.out a x hx.out
                cases fst
                · have hno2 : Kp (∀ (p : Nat) (x : Int), p < a + 1 → L[p]? = some x → ∃ b, b ∈ L ∧ Reach c (One i) x b) := ⟨fun p z hp hpz => by
                    by_cases e : p = a
                    · subst e
                      rw [hx.out] at hpz
                      simp only [Option.some.injEq] at hpz
                      subst hpz
                      refine Classical.byContradiction (fun hcon => ?_)
                      have := hF.out.2 (fun q y hq _ hqy hR => hcon ⟨y, List.mem_of_getElem? hqy, hR⟩)
                      exact absurd this (by simp)
                    · exact hno.out p z (by omega) hpz⟩
                  clear hbe hcx
                  go_wp2
                  go_roundw
                  case rel => exact ⟨a + 1, by omega, by go_num, hU2, hgl2, hcells2, hno2⟩
                  case measure => simp [intOf]; omega
                · have hJ : Kp (IsJ c i x) := ⟨⟨hxin.out.1, hxin.out.2.1, hxin.out.2.2.1, hxin.out.2.2.2, fun z z0 z1 zi zx zo => by
                    obtain ⟨q, hq, hqz⟩ := hmem.out z ((hLall.out z).2 ⟨z0, z1, zi, zo⟩)
                    refine hF.out.1 rfl q z (by omega) (fun e => ?_) hqz
                    subst e
                    rw [hx.out] at hqz
                    simp only [Option.some.injEq] at hqz
                    exact zx hqz.symm⟩⟩
                  clear hbe
                  go_wp2
                  go_ret
                  exact ⟨x, rfl, hJ, hU2.b⟩
        · exfalso
          obtain ⟨q, hq, hqa⟩ := hmem.out a0 ha0.out
          obtain ⟨b, hb, hR⟩ := hno.out q a0 (by omega) hqa
          exact hmin.out b hb hR.ne hR
end Go.Proofs.YtcnbifdlkalimaaGreat
