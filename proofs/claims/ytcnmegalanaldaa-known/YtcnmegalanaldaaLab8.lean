/-
  The walks of the package check: labels laid at the bottom; for every file that is scanned.
-/
import Derived.Test.YtcnmegalanaldaaLab7
namespace Go.Proofs.Ytcnmegalanaldaa
open Go.RowKit
set_option linter.unusedVariables false
set_option maxRecDepth 100000

theorem lab_one (n : Int) (t v c : ByteArray) (hb : Nat) (R : Nat → Nat → Bool) (L : Int → Int → Int) (W : Nat → Bool) (j : Nat) : (labCells n t v c hb R L W j).oneCell' = true := by
  unfold labCells
  repeat (split; rfl)
  rfl

theorem LabAt.of_cells {w : World} {b : Nat} {n : Int} {t v c : ByteArray} {hb : Nat} {R : Nat → Nat → Bool} {L : Int → Int → Int} {W : Nat → Bool} (hl : b < w.heap.size) (e : ∀ j, j < 42416 → w.cell? ⟨b, j, none⟩ = some (labCells n t v c hb R L W j)) (hf : ∀ j, j < 42416 → w.frozen? ⟨b, j, none⟩ = false) : LabAt w b n t v c hb R L W := by
  refine ⟨hl, e 0 (by omega), e 1 (by omega), e 2 (by omega), e 3 (by omega), e 4 (by omega), fun i j hi hj => ?_, fun j hj => ?_, fun j d hj hd => ?_, fun j hj => ?_, hf⟩
  · rw [e (5 + i * 201 + j) (by omega)]
    unfold labCells
    rw [if_neg (by omega), if_neg (by omega), if_neg (by omega), if_neg (by omega), if_neg (by omega), if_pos (by omega), show (5 + i * 201 + j - 5) / 201 = i from by omega, show (5 + i * 201 + j - 5) % 201 = j from by omega]
  · rw [e (40406 + j) (by omega)]
    unfold labCells
    rw [if_neg (by omega), if_neg (by omega), if_neg (by omega), if_neg (by omega), if_neg (by omega), if_neg (by omega), if_pos (by omega), show ((40406 + j : Nat) : Int) - 40406 = (j : Int) from by omega]
  · rw [e (40607 + j * 8 + d) (by omega)]
    unfold labCells
    rw [if_neg (by omega), if_neg (by omega), if_neg (by omega), if_neg (by omega), if_neg (by omega), if_neg (by omega), if_neg (by omega), if_pos (by omega), show (40607 + j * 8 + d - 40607) / 8 = j from by omega, show (40607 + j * 8 + d - 40607) % 8 = d from by omega]
  · rw [e (42215 + j) (by omega)]
    unfold labCells
    rw [if_neg (by omega), if_neg (by omega), if_neg (by omega), if_neg (by omega), if_neg (by omega), if_neg (by omega), if_neg (by omega), if_neg (by omega), show 42215 + j - 42215 = j from by omega]

theorem LabAt.congr {w : World} {b : Nat} {n : Int} {t v c : ByteArray} {hb : Nat} {R : Nat → Nat → Bool} {L L' : Int → Int → Int} {W : Nat → Bool} (h : LabAt w b n t v c hb R L W) (e : ∀ p d : Int, 0 ≤ p → p < 201 → -1 ≤ d → d < 8 → L p d = L' p d) : LabAt w b n t v c hb R L' W :=
  ⟨h.lt, h.c0, h.c1, h.c2, h.c3, h.hp, h.r, fun j hj => by rw [← e j (-1) (by omega) (by omega) (by omega) (by omega)]; exact h.pl j hj, fun j d hj hd => by rw [← e j d (by omega) (by omega) (by omega) (by omega)]; exact h.vl j d hj hd, h.wt, h.f⟩

theorem labAt_new {w : World} {b : Nat} (h : Room w b 42416) (n : Int) (t v c : ByteArray) (hb : Nat) (R : Nat → Nat → Bool) (L : Int → Int → Int) (W : Nat → Bool) : LabAt (w.setCells b 0 (big 42416 (labCells n t v c hb R L W)).toList) b n t v c hb R L W := by
  refine LabAt.of_cells ?_ (fun j hj => ?_) (fun j hj => ?_)
  · have := (but_cells (But.refl b 0 w) (big 42416 (labCells n t v c hb R L W)).toList 0).size
    exact Nat.lt_of_lt_of_le h.lt this
  · have := st_big_cell w b 0 42416 (labCells n t v c hb R L W) h.c j hj
    rwa [Nat.zero_add] at this
  · rw [World.frozen?_setCells]
    have := h.f j hj
    rwa [Nat.zero_add] at this

theorem new2row (w : World) (o1 o2 : Obj) : ((w.alloc o1).alloc o2).heap[w.heap.size + 1]? = some o2 := by
  have h := heap_alloc_last (w.alloc o1) o2
  rw [show (w.alloc o1).heap.size = w.heap.size + 1 from by simp] at h
  exact h

theorem wp_build_at {P : Program} {o : Oper} {a : Act} {w : World} {K : Act → World → Prop} {Q : Exit → Act → World → Prop} (t : TypeId) (parts : Array (Nat × Operand)) (ho : o.op = .build t parts) (l : List (Nat × Value)) (hl : (parts.map fun (i, x) => (i, a.eval x)).toList = l) (arr : Array Value)
    (hf : P.built t l = some arr) (h : K (a.put o.dst (.agg arr)) w) : o.wp P a w K Q :=
  wp_build_big t parts ho arr (by rw [hl]; exact hf) h

theorem wp_store_arr {P : Program} {op : Oper} {a : Act} {w : World} {K : Act → World → Prop} {Q : Exit → Act → World → Prop} (ty : TypeId) (x y : Operand) (ho : op.op = .store ty x y)
    (b o n : Nat) (arr : Array Value) (f : Nat → Value) (harr : arr = big n f) (hx : a.eval x = .pointer (some ⟨b, o, none⟩)) (hy : a.eval y = .agg arr) (hi : (P.info? ty).map (·.size) = some n)
    (hc : ∀ j, j < n → (w.cell? ⟨b, o + j, none⟩).isSome = true) (hf : ∀ j, j < n → w.frozen? ⟨b, o + j, none⟩ = false) (h1 : ∀ j, j < n → (f j).oneCell' = true) (h : K (a.put op.dst undef) (w.setCells b o arr.toList)) : op.wp P a w K Q := by
  subst harr
  exact wp_store_big ty x y ho b o n f hx hy hi hc hf h1 h

/-- what laying labels at the bottom leaves -/
def NewPost (b : Nat) (n bot : Int) (t v c : ByteArray) (hb : Nat) (w : World) (e : Ending) (w' : World) : Prop :=
  e = .returned (.pointer (some ⟨b, 0, none⟩)) ∧ LabAt w' b n t v c hb (fun _ _ => false) (fun _ _ => bot) (fun _ => false) ∧ Below w.heap.size w w'

set_option maxHeartbeats 3200000 in
theorem newLabels_any (n : Int) (t v c : ByteArray) (hb : Nat) (w : World) (hT : LatT t n) :
    Calls Try.prog 55 #[.agg #[.int .i64 n, .string t, .string v, .string c], .pointer (some ⟨hb, 0, none⟩)] w (NewPost (w.heap.size + 1) n ((firstTo (pBot t n) n.toNat).getD 0) t v c hb w) := by
  obtain ⟨w0, hw0⟩ : ∃ w0, w0 = ((w.alloc (.cells #[.int .i64 n, .string t, .string v, .string c] 59)).alloc (.cells Try.zeroCells112 112)) := ⟨_, rfl⟩
  have hsz : w0.heap.size = w.heap.size + 2 := by rw [hw0]; simp
  have hR0 : Room w0 (w.heap.size + 1) 42416 := by rw [hw0]; exact Room.of_row (new2row _ _ _) Try.zeroCells112_size
  have hO0 : Own w0 w.heap.size [.int .i64 n, .string t, .string v, .string c] := by rw [hw0]; exact (Own.new4 w _ _ _ _ _).alloc _
  have hB0 : Below w.heap.size w w0 := by rw [hw0]; exact ((Below.refl _ _).alloc (Nat.le_refl _) _).alloc (by simp) _
  obtain ⟨arr, harr⟩ : ∃ arr, arr = big 42416 (labCells n t v c hb (fun _ _ => false) (fun _ _ => 0) (fun _ => false)) := ⟨_, rfl⟩
  have hbuilt := built_lab n t v c hb
  rw [← harr] at hbuilt
  obtain ⟨w1, hw1⟩ : ∃ w1, w1 = w0.setCells (w.heap.size + 1) 0 arr.toList := ⟨_, rfl⟩
  have hB : But (w.heap.size + 1) w0.heap.size w0 w1 := by rw [hw1]; exact but_cells (But.refl _ _ _) _ _
  have H1 : LabAt w1 (w.heap.size + 1) n t v c hb (fun _ _ => false) (fun _ _ => 0) (fun _ => false) := by rw [hw1, harr]; exact labAt_new hR0 _ _ _ _ _ _ _ _
  replace harr : Kp _ := ⟨harr⟩
  replace hbuilt : Kp _ := ⟨hbuilt⟩
  have hO1 := hO0.but hB (by omega)
  have hB1 : Below w.heap.size w w1 := hB0.trans ((hB.mono hB0.size).below (by omega))
  have hz1 := hB.size
  replace hw0 : Kp _ := ⟨hw0⟩
  replace hw1 : Kp _ := ⟨hw1⟩
  have q0 := hO1.c 0 _ rfl
  have q1 := hO1.c 1 _ rfl
  have q2 := hO1.c 2 _ rfl
  have q3 := hO1.c 3 _ rfl
  clear hO0 hB0 hB
  go_enter Try.func55, Try.ntmps55
  repeat (first | refine wp_build_at 112 #[(0, .tmp 9), (1, .tmp 10)] rfl [(0, .agg #[.int .i64 n, .string t, .string v, .string c]), (1, .pointer (some ⟨hb, 0, none⟩))] (by simp [Act.eval]) arr hbuilt.out ?_ | (refine wp_store_arr 112 (.tmp 5) (.tmp 11) rfl (w.heap.size + 1) 0 42416 arr (labCells n t v c hb (fun _ _ => false) (fun _ _ => 0) (fun _ => false)) harr.out rfl rfl (by kernel_rfl) (by rw [← hw0.out]; exact hR0.c) (by rw [← hw0.out]; exact hR0.f) (fun j _ => lab_one _ _ _ _ _ _ _ _ j) ?_; rw [← hw0.out, ← hw1.out]; dsimp only [Act.put]) | go_step)
  refine (bottom_any hT.tab _).mono ?_
  rintro e w2 ⟨rfl, hb2⟩
  have H2 := H1.step hb2
  have hB2 := hB1.trans (hb2.mono hB1.size)
  obtain ⟨bot, hbot⟩ : ∃ bot, (firstTo (pBot t n) n.toNat).getD 0 = bot := ⟨_, rfl⟩
  rw [hbot]
  replace hbot : Kp _ := ⟨hbot⟩
  clear q0 q1 q2 q3 hO1 H1 hR0 hB1 hb2 hw0 hw1
  go_wp2_with fail
  go_loopw [15] (fun i wr => ∃ (p : Nat) (L : Int → Int → Int), i = .int .i64 p ∧ p ≤ 201 ∧ LabAt wr (w.heap.size + 1) n t v c hb (fun _ _ => false) L (fun _ => false) ∧ Below w.heap.size w wr ∧ Kp (∀ q d : Int, 0 ≤ q → q < p → -1 ≤ d → d < 8 → L q d = bot)) (fun i _ => 201 - (intOf i).toNat)
  case atStart => exact ⟨0, _, rfl, by omega, H2, hB2, ⟨fun q d h0 h1 => by omega⟩⟩
  case round =>
    clear H2 hB2
    obtain ⟨p, L, rfl, hp, H, hB, hL⟩ := hrel
    by_cases hlt : p < 201
    · have hlt2 : (p : Int) < 201 := by omega
      have r0 := H.pl p hlt
      have r1 := H.f (40406 + p) (by omega)
      have H3 := H.setP p hlt bot
      have hB3 := hB.setCell (p := ⟨w.heap.size + 1, 40406 + p, none⟩) (by simp) (.int .i64 bot)
      obtain ⟨w3, hw3⟩ : ∃ w3, wr.setCell ⟨w.heap.size + 1, 40406 + p, none⟩ (.int .i64 bot) = w3 := ⟨_, rfl⟩
      rw [hw3] at H3 hB3
      have hL3 : Kp ((∀ q d : Int, 0 ≤ q → q < p → -1 ≤ d → d < 8 → updL L p (-1) bot q d = bot) ∧ updL L p (-1) bot p (-1) = bot ∧ ∀ d : Nat, d < 0 → updL L p (-1) bot p d = bot) := ⟨fun q d h0 h1 h2 h3 => by rw [updL_ne (by omega)]; exact hL.out q d h0 h1 h2 h3, updL_at _ _ _ _, fun d hd => absurd hd (by omega)⟩
      clear H hB hL
      go_wp2_with fail
      go_loopw [22] (fun i wr => ∃ (e : Nat) (L : Int → Int → Int), i = .int .i64 e ∧ e ≤ 8 ∧ LabAt wr (w.heap.size + 1) n t v c hb (fun _ _ => false) L (fun _ => false) ∧ Below w.heap.size w wr ∧ Kp ((∀ q d : Int, 0 ≤ q → q < p → -1 ≤ d → d < 8 → L q d = bot) ∧ L p (-1) = bot ∧ ∀ d : Nat, d < e → L p d = bot)) (fun i _ => 8 - (intOf i).toNat)
      case atStart => exact ⟨0, _, rfl, by omega, H3, hB3, hL3⟩
      case round =>
        clear H3 hB3 hL3 r0 r1 hw3
        obtain ⟨e, L, rfl, he, H, hB, hL⟩ := hrel
        by_cases hlt3 : e < 8
        · have hlt4 : (e : Int) < 8 := by omega
          have r0 := H.vl p e hlt hlt3
          have r1 := H.f (40607 + p * 8 + e) (by omega)
          have H3 := H.setV p e hlt hlt3 bot
          have hB3 := hB.setCell (p := ⟨w.heap.size + 1, 40607 + p * 8 + e, none⟩) (by simp) (.int .i64 bot)
          have hL3 : Kp ((∀ q d : Int, 0 ≤ q → q < p → -1 ≤ d → d < 8 → updL L p e bot q d = bot) ∧ updL L p e bot p (-1) = bot ∧ ∀ d : Nat, d < e + 1 → updL L p e bot p d = bot) := ⟨fun q d h0 h1 h2 h3 => by rw [updL_ne (by omega)]; exact hL.out.1 q d h0 h1 h2 h3, by rw [updL_ne (by omega)]; exact hL.out.2.1, fun d hd => by
            by_cases k : d = e
            · subst k; exact updL_at _ _ _ _
            · rw [updL_ne (by omega)]; exact hL.out.2.2 d (by omega)⟩
          clear H hB hL
          go_wp2_with fail
          go_roundw
          case rel => exact ⟨e + 1, _, by go_num, by omega, H3, hB3, hL3⟩
          case measure => simp [intOf]; omega
        · have hL3 : Kp (∀ q d : Int, 0 ≤ q → q < (p + 1 : Nat) → -1 ≤ d → d < 8 → L q d = bot) := ⟨fun q d h0 h1 h2 h3 => by
            by_cases k : q = p
            · subst k
              by_cases k2 : d = -1
              · subst k2; exact hL.out.2.1
              · have := hL.out.2.2 d.toNat (by omega)
                rwa [Int.toNat_of_nonneg (by omega)] at this
            · exact hL.out.1 q d h0 (by omega) h2 h3⟩
          clear hL
          go_wp2_with fail
          go_roundw
          case rel => exact ⟨p + 1, L, by go_num, by omega, H, hB, hL3⟩
          case measure => simp [intOf]; omega
    · have e : p = 201 := by omega
      subst e
      have H3 := H.congr (L' := fun _ _ => bot) (fun q d h0 h1 h2 h3 => hL.out q d h0 (by omega) h2 h3)
      go_wp2_with fail
      go_ret
      exact ⟨rfl, by rw [hbot.out]; exact H3, hB⟩
end Go.Proofs.Ytcnmegalanaldaa
