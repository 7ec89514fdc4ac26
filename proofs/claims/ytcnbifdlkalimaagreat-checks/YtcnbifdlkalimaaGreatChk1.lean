/-
  The walks of the document's own answer on what is let through (package sluiceref, P5), first part: marks of places, the places behind one; for every file that is cut.
-/
import Derived.Test.YtcnbifdlkalimaaGreatRf4
import Derived.Test.YtcnbifdlkalimaaGreatPlain5
import Derived.Deep.OwnRows
import Derived.Deep.LoopGhost
namespace Go.Proofs.YtcnbifdlkalimaaGreat
open Go.RowKit Go.Deep
set_option linter.unusedVariables false

theorem info_bool : (Tryz.prog.info? 4).map (fun i => (i.zero, i.size, i.bytes)) = some (some (.bool false), 1, 1) := by kernel_rfl
theorem info_int : (Tryz.prog.info? 3).map (fun i => (i.zero, i.size, i.bytes)) = some (some (.int .i64 0), 1, 8) := by kernel_rfl

theorem made_get (z : Value) (n i : Nat) (h : i < n) : (madeCells #[z] n)[i]? = some z := by simp [madeCells, h, Nat.mod_one]

theorem row_made_set (w : World) (z v : Value) (n i : Nat) (t : TypeId) : (w.alloc (.cells ((madeCells #[z] n).setIfInBounds i v) t)).rowIs w.heap.size t n (fun j => if j = i then v else z) := by
  have h := World.rowIs_alloc w ((madeCells #[z] n).setIfInBounds i v) t (fun j => if j = i then v else z) (by
    intro j hj
    have hj2 : j < n := by simpa [size_madeCells] using hj
    rw [Array.getElem?_setIfInBounds]
    by_cases e : i = j
    · subst e
      rw [if_pos rfl, if_pos (by simpa [size_madeCells] using hj2), if_pos rfl]
    · rw [if_neg e, made_get z n j hj2, if_neg (fun h => e h.symm)])
  have hz : ((madeCells #[z] n).setIfInBounds i v).size = n := by simp [size_madeCells]
  rw [hz] at h
  exact h

set_option maxHeartbeats 400000 in
theorem only_ref (n : Int) (i : Nat) (t v c : ByteArray) (w : World) (hk : half c ≤ 200) (hi : (i : Int) ≤ half c) :
    Calls Tryz.prog 18 #[.agg #[.int .i64 n, .string t, .string v, .string c, .int .i64 (half c)], .int .i64 i] w fun e w' =>
      ∃ g, e = .returned (.slice (some ⟨g, 0, none⟩) ((half c).toNat + 1) ((half c).toNat + 1)) ∧ w.heap.size ≤ g ∧ w'.rowIs g 4 ((half c).toNat + 1) (fun j => .bool (decide (j = i))) ∧ Below w.heap.size w w' := by
  have hh := (half_bd c).1
  have hmk := run_make_row' (P := Tryz.prog) 57 4 (.bool false) 1 Tryz.underlying57 info_bool rfl .i64 .i64 ((half c).toNat + 1) (by omega) (by omega)
  rw [show (((half c).toNat + 1 : Nat) : Int) = half c + 1 from by omega] at hmk
  have hg := made_get (.bool false) ((half c).toNat + 1) i (by omega)
  go_enter Tryz.func18, Tryz.ntmps18
  go_wp2
  go_ret
  refine ⟨w.heap.size + 1, rfl, by omega, ?_, ((Below.refl _ _).alloc (Nat.le_refl _) _).alloc (by simp) _⟩
  have h := row_made_set (w.alloc (.cells #[.int .i64 n, .string t, .string v, .string c, .int .i64 (half c)] 54)) (.bool false) (.bool true) ((half c).toNat + 1) i 4
  simp only [World.size_alloc] at h
  refine h.congr (fun j hj => ?_)
  by_cases e : j = i
  · simp [e]
  · simp [e]

/-- a slice of numbers that lies in memory of its own -/
structure Ints (B : Nat) (w : World) (v : Value) (l : List Int) : Prop where
  form : ∃ g cap, v = .slice (some ⟨g, 0, none⟩) l.length cap ∧ B ≤ g ∧ g < w.heap.size ∧ ∀ (q : Nat) (x : Int), l[q]? = some x → w.cell? ⟨g, q, none⟩ = some (.int .i64 x)

theorem ints_of_row {B : Nat} {w : World} {v : Value} {l : List Int} (hl : l ≠ []) (h : w.ownsRow B 3 1 v l.length (l.map (Value.int .i64))) : Ints B w v l := by
  have hlen : 0 < l.length := List.length_pos_iff.2 hl
  rcases h.2 with ⟨_, h0⟩ | ⟨g, cap, cur, hv, hb, hg, _, _, _, _⟩
  · omega
  · subst hv
    refine ⟨⟨g, cap, rfl, hb, ?_, fun q x hx => ?_⟩⟩
    · obtain ⟨hlt, _⟩ := Array.getElem?_eq_some_iff.1 hg
      exact hlt
    · have hq : q < l.length := by
        rw [List.getElem?_eq_some_iff] at hx
        exact hx.1
      rw [h.cellAt q (by omega), List.getElem?_map, hx]
      rfl

set_option maxHeartbeats 800000 in
theorem next_ref (n i : Int) (t v c : ByteArray) (w : World) (hc : c.size ≤ maxLen) (h0 : 0 ≤ i) (hi : i < half c) (hk : half c ≤ 200) :
    Calls Tryz.prog 49 #[.agg #[.int .i64 n, .string t, .string v, .string c, .int .i64 (half c)], .int .i64 i] w fun e w' =>
      ∃ r, e = .returned r ∧ Ints w.heap.size w' r (nxt c i) ∧ Below w.heap.size w w' := by
  obtain ⟨i0, hi0, hz0, hz1, hz2⟩ := info_parts info_int
  have o0 := Own.new5 w (.int .i64 n) (.string t) (.string v) (.string c) (.int .i64 (half c)) 54
  have b0 : Below w.heap.size w (w.alloc (.cells #[.int .i64 n, .string t, .string v, .string c, .int .i64 (half c)] 54)) := (Below.refl _ _).alloc (Nat.le_refl _) _
  go_enter Tryz.func49, Tryz.ntmps49
  go_wp2_with fail
  refine (uarg_any n i t v c _ hc h0 hi).mono ?_
  rintro e w1 ⟨rfl, hb1⟩
  replace b0 := b0.trans (hb1.mono (by simp))
  replace o0 := o0.step hb1
  clear hb1
  have ol := o0.lt
  have q0 := o0.c 0 _ rfl
  have q1 := o0.c 1 _ rfl
  have q2 := o0.c 2 _ rfl
  have q3 := o0.c 3 _ rfl
  have q4 := o0.c 4 _ rfl
  go_wp2_with fail
  refine (uop_any n i t v c _ hc h0 hi).mono ?_
  rintro e w2 ⟨rfl, hb1⟩
  replace b0 := b0.trans (hb1.mono (by omega))
  clear hb1 o0 ol q0 q1 q2 q3 q4
  have hz := b0.size
  have hN : Kp (nxt c i = if bv c (2 * i) = 8 then [bv c (2 * i + 1)] else if bv c (2 * i) = 9 ∧ bv c (2 * i + 1) ≠ i + 1 then [i + 1, bv c (2 * i + 1)] else [i + 1]) := ⟨rfl⟩
  obtain ⟨d0, d1⟩ := bv_bd c (2 * i)
  obtain ⟨d2, d3⟩ := bv_bd c (2 * i + 1)
  generalize bv c (2 * i) = x at *
  generalize bv c (2 * i + 1) = y at *
  by_cases h8 : x = 8
  · have hL : Kp (nxt c i = [y]) := ⟨by rw [hN.out, if_pos h8]⟩
    have x8 : (x == 8) = true := beq_iff_eq.2 h8
    have x8' : (x != 8) = false := by rw [h8]; rfl
    clear h8 hN
    go_wp2_with (at_builtin; refine wpList_append_own _ rfl _ _ 60 rfl w.heap.size 3 i0 (.int .i64 0) 1 8 Tryz.underlying60 hi0 hz0 hz1 hz2 rfl (by decide) _ _ _ rfl (World.ownsRow_nil _ _ _ _) ⟨w2.heap.size, 0, none⟩ 1 1 [.int .i64 (y)] rfl rfl ?a1 ?a2 ?a3 ?a4 ?a5 ?_)
    case a1 =>
      intro j u hj
      match j, hj with
      | 0, hj => simp at hj; subst hj; simp [Addr.add]
    case a2 => intro u hu; simp at hu; subst hu; rfl
    case a3 => unfold maxLen; omega
    case a4 => omega
    case a5 => simp; omega
    intro v' w3 hown hgrow _
    have b1 : Below w.heap.size w w3 := (b0.alloc hz _).grown hgrow (by simp; omega) (by intro k hk; simp [Value.ownBlock] at hk)
    have hI : Kp (Ints w.heap.size w3 v' [y]) := ⟨ints_of_row (l := [y]) (by simp) hown⟩
    clear hown hgrow
    go_wp2
    go_ret
    exact ⟨v', rfl, by rw [hL.out]; exact hI.out, b1⟩
  · have x8 : (x == 8) = false := beq_eq_false_iff_ne.2 h8
    have x8' : (x != 8) = true := bne_iff_ne.2 h8
    have hL : Kp ((¬ (x = 9 ∧ y ≠ i + 1) → nxt c i = [i + 1]) ∧ (x = 9 ∧ y ≠ i + 1 → nxt c i = [i + 1, y])) := ⟨by rw [hN.out, if_neg h8]; exact ⟨fun h => by rw [if_neg h], fun h => by rw [if_pos h]⟩⟩
    clear h8 hN
    go_wp2_with (at_builtin; refine wpList_append_own _ rfl _ _ 60 rfl w.heap.size 3 i0 (.int .i64 0) 1 8 Tryz.underlying60 hi0 hz0 hz1 hz2 rfl (by decide) _ _ _ rfl (World.ownsRow_nil _ _ _ _) ⟨w2.heap.size, 0, none⟩ 1 1 [.int .i64 (i + 1)] rfl rfl ?a1 ?a2 ?a3 ?a4 ?a5 ?_)
    case a1 =>
      intro j u hj
      match j, hj with
      | 0, hj => simp at hj; subst hj; simp [Addr.add]
    case a2 => intro u hu; simp at hu; subst hu; rfl
    case a3 => unfold maxLen; omega
    case a4 => omega
    case a5 => simp; omega
    intro v' w3 hown hgrow _
    have b1 : Below w.heap.size w w3 := (b0.alloc hz _).grown hgrow (by simp; omega) (by intro k hk; simp [Value.ownBlock] at hk)
    clear hgrow
    by_cases h9 : x = 9
    · by_cases hy : y = i + 1
      · have hI : Kp (Ints w.heap.size w3 v' [i + 1]) := ⟨ints_of_row (l := [i + 1]) (by simp) hown⟩
        have hM : Kp (nxt c i = [i + 1]) := ⟨hL.out.1 (fun h => h.2 hy)⟩
        have x9 : (x == 9) = true := beq_iff_eq.2 h9
        have y9 : (y != i + 1) = false := by rw [hy]; simp
        clear hown h9 hy
        go_wp2
        go_ret
        exact ⟨v', rfl, by rw [hM.out]; exact hI.out, b1⟩
      · have hM : Kp (nxt c i = [i + 1, y]) := ⟨hL.out.2 ⟨h9, hy⟩⟩
        have x9 : (x == 9) = true := beq_iff_eq.2 h9
        have y9 : (y != i + 1) = true := bne_iff_ne.2 hy
        have hz3 := b1.size
        clear h9 hy
        go_wp2_with (at_builtin; refine wpList_append_own _ rfl _ _ 60 rfl w.heap.size 3 i0 (.int .i64 0) 1 8 Tryz.underlying60 hi0 hz0 hz1 hz2 rfl (by decide) _ _ _ rfl (hown.alloc _) ⟨w3.heap.size, 0, none⟩ 1 1 [.int .i64 (y)] rfl rfl ?b1 ?b2 ?b3 ?b4 ?b5 ?_)
        case b1 =>
          intro j u hj
          match j, hj with
          | 0, hj => simp at hj; subst hj; simp [Addr.add]
        case b2 => intro u hu; simp at hu; subst hu; rfl
        case b3 => unfold maxLen; omega
        case b4 => omega
        case b5 => simp; omega
        intro v'' w4 hown2 hgrow2 _
        have b2 : Below w.heap.size w w4 := (b1.alloc hz3 _).grown hgrow2 (by simp; omega) (fun k hk => (hown.lt k hk).1)
        have hI : Kp (Ints w.heap.size w4 v'' [i + 1, y]) := ⟨ints_of_row (l := [i + 1, y]) (by simp) hown2⟩
        clear hown hown2 hgrow2
        go_wp2
        go_ret
        exact ⟨v'', rfl, by rw [hM.out]; exact hI.out, b2⟩
    · have hI : Kp (Ints w.heap.size w3 v' [i + 1]) := ⟨ints_of_row (l := [i + 1]) (by simp) hown⟩
      have hM : Kp (nxt c i = [i + 1]) := ⟨hL.out.1 (fun h => h9 h.1)⟩
      have x9 : (x == 9) = false := beq_eq_false_iff_ne.2 h9
      clear hown h9
      go_wp2
      go_ret
      exact ⟨v', rfl, by rw [hM.out]; exact hI.out, b1⟩
end Go.Proofs.YtcnbifdlkalimaaGreat
