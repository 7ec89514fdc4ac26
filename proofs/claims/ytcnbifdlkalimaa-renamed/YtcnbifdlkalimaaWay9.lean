/-
  The walks of the package paths: all ways of a file; for every file whose places are places.
-/
import Derived.Test.YtcnbifdlkalimaaWay8
import Derived.Deep.LoopGhost
namespace Go.Proofs.Ytcnbifdlkalimaa
open Go.RowKit
set_option linter.unusedVariables false
set_option maxRecDepth 100000

/-- the cells of ways -/
def wayCells (n : Int) (t v c : ByteArray) (k : Int) (T A : Int → Int) (j : Nat) : Value :=
  if j = 0 then .int .i64 n else if j = 1 then .string t else if j = 2 then .string v else if j = 3 then .string c else if j = 4 then .int .i64 k
  else if j < 206 then .int .i64 (T ((j : Int) - 5)) else .int .i64 (A ((j : Int) - 206))

theorem built_ways (n : Int) (t v c : ByteArray) : Try.prog.built 114 [(0, .agg #[.int .i64 n, .string t, .string v, .string c])] = some (big 407 (wayCells n t v c 0 (fun _ => 0) (fun _ => 0))) := by kernel_rfl

theorem wp_build_big {P : Program} {o : Oper} {a : Act} {w : World} {K : Act → World → Prop} {Q : Exit → Act → World → Prop} (t : TypeId) (parts : Array (Nat × Operand)) (ho : o.op = .build t parts) (arr : Array Value)
    (hf : P.built t (parts.map fun (i, x) => (i, a.eval x)).toList = some arr) (h : K (a.put o.dst (.agg arr)) w) : o.wp P a w K Q :=
  wp_build t parts ho (by rw [hf]; rfl) (by rw [hf]; exact h)

theorem way_one (n : Int) (t v c : ByteArray) (k : Int) (T A : Int → Int) (j : Nat) : (wayCells n t v c k T A j).oneCell' = true := by
  unfold wayCells
  repeat (split; rfl)
  rfl

theorem WaysAt.of_cells {w : World} {b : Nat} {n : Int} {t v c : ByteArray} {k : Int} {T A : Int → Int} (hl : b < w.heap.size) (h : ∀ j, j < 407 → w.cell? ⟨b, 0 + j, none⟩ = some (wayCells n t v c k T A j)) (hf : ∀ j, j < 407 → w.frozen? ⟨b, 0 + j, none⟩ = false) : WaysAt w b n t v c k T A := by
  have e : ∀ j, j < 407 → w.cell? ⟨b, j, none⟩ = some (wayCells n t v c k T A j) := fun j hj => by have := h j hj; rwa [Nat.zero_add] at this
  refine ⟨hl, e 0 (by omega), e 1 (by omega), e 2 (by omega), e 3 (by omega), e 4 (by omega), fun j hj => ?_, fun j hj => ?_, fun j hj => by have := hf j hj; rwa [Nat.zero_add] at this⟩
  · rw [e (5 + j) (by omega)]
    unfold wayCells
    rw [if_neg (by omega), if_neg (by omega), if_neg (by omega), if_neg (by omega), if_neg (by omega), if_pos (by omega)]
    rw [show ((5 + j : Nat) : Int) - 5 = (j : Int) from by omega]
  · rw [e (206 + j) (by omega)]
    unfold wayCells
    rw [if_neg (by omega), if_neg (by omega), if_neg (by omega), if_neg (by omega), if_neg (by omega), if_neg (by omega)]
    rw [show ((206 + j : Nat) : Int) - 206 = (j : Int) from by omega]

theorem WaysAt.cells {w : World} {b : Nat} {n : Int} {t v c : ByteArray} {k : Int} {T A : Int → Int} (h : WaysAt w b n t v c k T A) (j : Nat) (hj : j < 407) : w.cell? ⟨b, 0 + j, none⟩ = some (wayCells n t v c k T A j) := by
  rw [Nat.zero_add]
  unfold wayCells
  split
  · subst j; exact h.c0
  · split
    · subst j; exact h.c1
    · split
      · subst j; exact h.c2
      · split
        · subst j; exact h.c3
        · split
          · subst j; exact h.k
          · split
            · have := h.t (j - 5) (by omega)
              rw [show 5 + (j - 5) = j from by omega] at this
              rw [this, show ((j - 5 : Nat) : Int) = (j : Int) - 5 from by omega]
            · have := h.a (j - 206) (by omega)
              rw [show 206 + (j - 206) = j from by omega] at this
              rw [this, show ((j - 206 : Nat) : Int) = (j : Int) - 206 from by omega]

/-- a block of n cells that may be written -/
structure Room (w : World) (b n : Nat) : Prop where
  lt : b < w.heap.size
  c : ∀ j, j < n → (w.cell? ⟨b, 0 + j, none⟩).isSome = true
  f : ∀ j, j < n → w.frozen? ⟨b, 0 + j, none⟩ = false

theorem Room.of_row {w : World} {g n : Nat} {cs : Array Value} {t : TypeId} (hg : w.heap[g]? = some (.cells cs t (0, 0))) (hn : cs.size = n) : Room w g n := by
  refine ⟨(Array.getElem?_eq_some_iff.1 hg).1, fun j hj => ?_, fun j hj => ?_⟩
  · rw [Nat.zero_add, cell_of_row w g j _ t (0, 0) hg, Array.getElem?_eq_getElem (by omega)]; rfl
  · simp [World.frozen?, hg]

theorem Room.step {w w1 : World} {b n : Nat} (h : Room w b n) (hb : Below w.heap.size w w1) : Room w1 b n :=
  ⟨Nat.lt_of_lt_of_le h.lt hb.size, fun j hj => by rw [hb.cell (p := ⟨b, 0 + j, none⟩) h.lt]; exact h.c j hj, fun j hj => by rw [hb.frozen (p := ⟨b, 0 + j, none⟩) h.lt]; exact h.f j hj⟩
theorem Room.but {w w1 : World} {b b' n : Nat} (h : Room w b n) (hb : But b' w.heap.size w w1) (hne : b ≠ b') : Room w1 b n :=
  ⟨Nat.lt_of_lt_of_le h.lt hb.size, fun j hj => by rw [hb.cell (p := ⟨b, 0 + j, none⟩) h.lt hne]; exact h.c j hj, fun j hj => by rw [hb.frozen (p := ⟨b, 0 + j, none⟩) h.lt hne]; exact h.f j hj⟩

theorem waysAt_new {w : World} {b : Nat} (h : Room w b 407) (n : Int) (t v c : ByteArray) (k : Int) (T A : Int → Int) : WaysAt (w.setCells b 0 (big 407 (wayCells n t v c k T A)).toList) b n t v c k T A :=
  WaysAt.of_cells (by have := (but_cells (But.refl b 0 w) (big 407 (wayCells n t v c k T A)).toList 0).size; exact Nat.lt_of_lt_of_le h.lt this) (fun j hj => st_big_cell w b 0 407 _ h.c j hj) (fun j hj => by rw [World.frozen?_setCells]; exact h.f j hj)

set_option maxHeartbeats 1600000 in
theorem waysOf_any (n : Int) (t v c : ByteArray) (w : World) (hc : c.size ≤ maxLen) (hK : half c ≤ 200) (hr : Kp (Ranged c)) :
    Calls Try.prog 71 #[.agg #[.int .i64 n, .string t, .string v, .string c]] w fun e w' =>
      ∃ (k : Int) (T A : Int → Int), e = .returned (.agg (big 407 (wayCells n t v c k T A))) ∧ Kp (Narrow c T A) ∧ Below w.heap.size w w' := by
  have hh := (half_bd c).1
  obtain ⟨w0, hw0⟩ : ∃ w0, w0 = (((w.alloc (.cells #[.int .i64 n, .string t, .string v, .string c] 77)).alloc (.cells Try.zeroCells114 114)).alloc (.cells Try.zeroCells114 114)) := ⟨_, rfl⟩
  have hsz : w0.heap.size = w.heap.size + 3 := by rw [hw0]; simp
  have hR0 : Room w0 (w.heap.size + 1 + 1) 407 := by rw [hw0]; exact Room.of_row (row3 _ _ _ _) (by kernel_rfl)
  have hR1 : Room w0 (w.heap.size + 1) 407 := by rw [hw0]; exact Room.of_row (row2 _ _ _ _) (by kernel_rfl)
  have hO0 : Own w0 w.heap.size [.int .i64 n, .string t, .string v, .string c] := by rw [hw0]; exact ((Own.new4 w _ _ _ _ _).alloc _).alloc _
  have hB0 : Below w.heap.size w w0 := by rw [hw0]; exact (((Below.refl _ _).alloc (Nat.le_refl _) _).alloc (by simp) _).alloc (by simp; omega) _
  obtain ⟨w1, hw1⟩ : ∃ w1, w1 = w0.setCells (w.heap.size + 1 + 1) 0 (big 407 (wayCells n t v c 0 (fun _ => 0) (fun _ => 0))).toList := ⟨_, rfl⟩
  have hB : But (w.heap.size + 1 + 1) w0.heap.size w0 w1 := by rw [hw1]; exact but_cells (But.refl _ _ _) _ _
  have H1 : WaysAt w1 (w.heap.size + 1 + 1) n t v c 0 (fun _ => 0) (fun _ => 0) := by rw [hw1]; exact waysAt_new hR0 n t v c 0 _ _
  have hR2 := hR1.but hB (by omega)
  have hO1 := hO0.but hB (by omega)
  have hB1 : Below w.heap.size w w1 := hB0.trans ((hB.mono hB0.size).below (by omega))
  have hz1 := hB.size
  replace hw0 : Kp _ := ⟨hw0⟩
  replace hw1 : Kp _ := ⟨hw1⟩
  have q0 := hO1.c 0 _ rfl
  have q1 := hO1.c 1 _ rfl
  have q2 := hO1.c 2 _ rfl
  have q3 := hO1.c 3 _ rfl
  clear hO0 hR1 hB0 hB
  go_enter Try.func71, Try.ntmps71
  repeat (first | refine wp_build_big 114 #[(0, .tmp 7)] rfl _ (built_ways n t v c) ?_ | (refine wp_store_big 114 (.tmp 3) (.tmp 8) rfl (w.heap.size + 1 + 1) 0 407 (wayCells n t v c 0 (fun _ => 0) (fun _ => 0)) rfl rfl (by kernel_rfl) (by rw [← hw0.out]; exact hR0.c) (by rw [← hw0.out]; exact hR0.f) (fun j _ => way_one _ _ _ _ _ _ _ j) ?_; rw [← hw0.out, ← hw1.out]; dsimp only [Act.put]) | go_step)
  refine (length_any n t v c _ hc).mono ?_
  rintro e w2 ⟨rfl, hb2⟩
  have H2 := H1.step hb2
  have hR3 := hR2.step hb2
  have hB2 := hB1.trans (hb2.mono hB1.size)
  have hz2 := hb2.size
  obtain ⟨p, hp⟩ : ∃ p : Nat, half c = p := ⟨(half c).toNat, by omega⟩
  clear q0 q1 q2 q3 hO1 H1 hR2 hR0 hB1 hb2 hw0 hw1
  rw [hp]
  go_wp2_with fail
  refine (addw_new (w.heap.size + 1 + 1) n p t v c 0 (fun _ => 0) (fun _ => 0) p w2 H2 (by omega) rfl (by omega) (by omega)).mono ?_
  rintro e w3 ⟨rfl, H3, hb3⟩
  have hR4 := hR3.but hb3 (by omega)
  have hB3 : Below w.heap.size w w3 := hB2.trans ((hb3.mono hB2.size).below (by omega))
  have hz3 := hb3.size
  have hG3 : Kp (GOk c (upd (fun _ => 0) p (0 + 1)) (upd (fun _ => 0) p p) (0 + 1)) := ⟨by have := grow_begin c; rw [hp] at this; exact this⟩
  have hbd3 : Kp ((0 + 1 : Int) + cntW (upd (fun _ => 0) p (0 + 1)) 201 ≤ 201) := ⟨by
    have h1 := cntW_upd (T := fun _ => 0) (p := p) (x := 0 + 1) (by omega) rfl (by omega)
    have h2 : cntW (fun _ => 0) 201 ≤ 201 := cntF_bd _ _
    omega⟩
  clear H2 hR3 hB2 hb3
  go_wp2_with fail
  go_loopg [5] (cntW (upd (fun _ => 0) p (0 + 1)) 201 + 1) (fun gm g wr => ∃ (gb : Bool) (k : Int) (T A : Int → Int), g = .bool gb ∧ gm = cntW T 201 + (if gb then 1 else 0) ∧ WaysAt wr (w.heap.size + 1 + 1) n t v c k T A ∧ Room wr (w.heap.size + 1) 407 ∧ Below w.heap.size w wr ∧ w.heap.size + 2 < wr.heap.size ∧ Kp (GOk c T A k) ∧ Kp (k + cntW T 201 ≤ 201) ∧ Kp (gb = false → ∀ x q, 0 ≤ x → x < half c → q ∈ nxt c x → 0 < T q → 0 < T x))
  case atStart => exact ⟨true, _, _, _, rfl, by simp, H3, hR4, hB3, by omega, hG3, hbd3, ⟨fun h => absurd h (by simp)⟩⟩
  case round =>
    clear H3 hR4 hB3 hG3 hbd3
    obtain ⟨gb, k, T, A, rfl, hgm, H, hR, hB, hlt, hG, hbd, hfull⟩ := hrel
    replace hgm : Kp _ := ⟨hgm⟩
    cases gb
    · have hW : Kp (WOk c T A) := ⟨grow_done hG.out (hfull.out rfl)⟩
      clear hG hbd hfull hgm
      go_wp2_with fail
      go_loopg [6] (meas c (fun _ _ => true) + 1) (fun gm g wr => ∃ (gb : Bool) (A : Int → Int) (U : Int → Int → Bool), g = .bool gb ∧ gm = meas c U + (if gb then 1 else 0) ∧ WaysAt wr (w.heap.size + 1 + 1) n t v c k T A ∧ Room wr (w.heap.size + 1) 407 ∧ Below w.heap.size w wr ∧ w.heap.size + 2 < wr.heap.size ∧ Kp (WOk c T A) ∧ Kp (UOk c T U) ∧ Kp (∀ x d, 0 < T x → OnWay c A x d → U x d = true) ∧ Kp (gb = false → Narrow c T A))
      case atStart => exact ⟨true, _, _, rfl, by simp, H, hR, hB, hlt, hW, ⟨UOk.begin c T⟩, ⟨fun _ _ _ _ => rfl⟩, ⟨fun h => absurd h (by simp)⟩⟩
      case round =>
        clear H hR hB hlt hW
        obtain ⟨gb, A, U, rfl, hgm, H, hR, hB, hlt, hW, hU, hs, hN⟩ := hrel
        replace hgm : Kp _ := ⟨hgm⟩
        cases gb
        · have hN2 : Kp (Narrow c T A) := ⟨hN.out rfl⟩
          obtain ⟨w5, hw5⟩ : ∃ w5 : World, wr.setCells (w.heap.size + 1) 0 (big 407 (wayCells n t v c k T A)).toList = w5 := ⟨_, rfl⟩
          have hcell : Kp (∀ j, j < 407 → w5.cell? ⟨w.heap.size + 1, 0 + j, none⟩ = some (wayCells n t v c k T A j)) := ⟨by rw [← hw5]; exact st_big_cell wr (w.heap.size + 1) 0 407 _ hR.c⟩
          have hB5 : Below w.heap.size w w5 := by rw [← hw5]; exact below_cells hB (b := w.heap.size + 1) (by omega) _ 0
          replace hw5 : Kp _ := ⟨hw5⟩
          repeat (first | refine wp_load_big 114 (.tmp 3) rfl (w.heap.size + 1 + 1) 0 407 (wayCells n t v c k T A) rfl _ Try.underlying114 rfl (by kernel_rfl) H.cells ?_ | (refine wp_store_big 114 (.tmp 2) (.tmp 18) rfl (w.heap.size + 1) 0 407 (wayCells n t v c k T A) rfl rfl (by kernel_rfl) hR.c hR.f (fun j _ => way_one _ _ _ _ _ _ _ j) ?_; rw [hw5.out]) | go_step)
          refine bodyPost_ret (v := .agg (big 407 (wayCells n t v c k T A))) (results_cell_big rfl _ w5 (w.heap.size + 1) 0 407 (wayCells n t v c k T A) _ rfl Try.underlying114 rfl (by kernel_rfl) hcell.out) rfl ⟨k, T, A, rfl, hN2, hB5⟩
        · clear hN
          go_wp2_with fail
          refine (narrow_any (w.heap.size + 1 + 1) n k t v c T A U wr hc hK hr H hW hU hs).mono ?_
          rintro e w5 ⟨g, A5, rfl, H5, hS5, hb5⟩
          have hR5 := hR.but hb5 (by omega)
          have hB5 : Below w.heap.size w w5 := hB.trans ((hb5.mono hB.size).below (by omega))
          have hz5 := hb5.size
          have hle : Kp (meas c (stepU c T U) ≤ meas c U) := ⟨meas_le hU.out⟩
          clear H hR hB hb5
          go_wp2_with fail
          go_roundg (meas c (stepU c T U) + (if g then 1 else 0))
          case measure =>
            have h1 := hgm.out
            have h2 := hle.out
            have h3 := hS5.out.yes
            simp at h1
            cases g
            · simp; omega
            · have := h3 rfl; simp; omega
          case rel =>
            refine ⟨g, A5, stepU c T U, rfl, rfl, H5, hR5, hB5, by omega, ⟨hS5.out.ok⟩, ⟨hU.out.step⟩, ⟨fun x d hx hw => ?_⟩, ⟨fun hg => ?_⟩⟩
            · exact hS5.out.pass.done x d (hS5.out.ok.pos x hx).1 hx hw
            · have hno := hS5.out.no hg
              refine ⟨hS5.out.ok, fun x h0 h1 h2 => ?_⟩
              rw [hno.1]
              exact hno.2 x h0 h0 h1 h2
    · clear hfull
      go_wp2_with fail
      refine (grow_any (w.heap.size + 1 + 1) n k t v c T A wr hc hK hr H hG hbd).mono ?_
      rintro e w5 ⟨g, k5, T5, A5, rfl, H5, hS5, hb5⟩
      have hR5 := hR.but hb5 (by omega)
      have hB5 : Below w.heap.size w w5 := hB.trans ((hb5.mono hB.size).below (by omega))
      have hz5 := hb5.size
      clear H hR hB hb5
      go_wp2_with fail
      go_roundg (cntW T5 201 + (if g then 1 else 0))
      case measure =>
        have h1 := hgm.out
        have h2 := hS5.out.le
        have h3 := hS5.out.yes
        simp at h1
        cases g
        · simp; omega
        · have := h3 rfl; simp; omega
      case rel =>
        exact ⟨g, k5, T5, A5, rfl, rfl, H5, hR5, hB5, by omega, ⟨hS5.out.ok⟩, ⟨hS5.out.bd⟩, ⟨fun hg x q h0 h1 h2 h3 => (hS5.out.no hg).2 x q h0 h1 h2 h3⟩⟩
end Go.Proofs.Ytcnbifdlkalimaa
