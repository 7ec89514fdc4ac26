/-
  The walks of the document's translating: the code of an expression; for every source that was read.
-/
import Derived.Test.YtcnbifdlkalimaaGreatRdr26
namespace Go.Proofs.YtcnbifdlkalimaaGreat
open Go.RowKit
set_option linter.unusedVariables false
set_option maxRecDepth 100000

theorem own4x (w : World) (v0 v1 v2 v3 : Value) (t : TypeId) : Own (w.alloc (.cells #[v0, v1, v2, v3] t)) w.heap.size [v0, v1, v2, v3] := by
  refine ⟨by simp, ?_, ?_⟩
  · intro i v hv
    have hi : i < 4 := by have := (List.getElem?_eq_some_iff.1 hv).1; simpa using this
    have e : (w.alloc (.cells #[v0, v1, v2, v3] t)).cell? ⟨w.heap.size, i, none⟩ = ([v0, v1, v2, v3] : List Value)[i]? := by
      match i, hi with
      | 0, _ => simp [go_sem]
      | 1, _ => simp [go_sem]
      | 2, _ => simp [go_sem]
      | 3, _ => simp [go_sem]
    rw [e]
    exact hv
  · intro i v hv
    have hi : i < 4 := by have := (List.getElem?_eq_some_iff.1 hv).1; simpa using this
    match i, hi with
    | 0, _ => simp [go_sem]
    | 1, _ => simp [go_sem]
    | 2, _ => simp [go_sem]
    | 3, _ => simp [go_sem]

/-- expressions below k are coded so -/
def CGo (rb sb B : Nat) (s tb : ByteArray) (tp : Value) (p : Rs) (S : Nat → Value) (sv : List (Value × Value)) (k : Nat) : Prop := ∀ (e : Nat) (w : World), e < k → PsAt w rb sb B s p tb tp S sv → e < p.ex.length → (cod p.ex e).length ≤ 20000 →
  Calls Tryz.prog 178 #[.pointer (some ⟨sb, 0, none⟩), .int .i64 e] w fun en w' => en = .returned (.string (bs (cod p.ex e))) ∧ Below w.heap.size w w'

set_option maxHeartbeats 3200000 in
theorem code_leaf (rb sb B : Nat) (s tb : ByteArray) (tp : Value) (p : Rs) (S : Nat → Value) (sv : List (Value × Value)) (hE : ExOk p.ex) (e : Nat) (w : World) (H : PsAt w rb sb B s p tb tp S sv) (x : Ex) (hx : p.ex[e]? = some x) (hp : x.op = 0 ∨ x.op = 1 ∨ x.op = 10) :
    Calls Tryz.prog 178 #[.pointer (some ⟨sb, 0, none⟩), .int .i64 e] w fun en w' => en = .returned (.string (bs (cod p.ex e))) ∧ Below w.heap.size w w' := by
  rw [(cod_at hE hx).1 hp]
  obtain ⟨g, c, hS, hg, hc⟩ := H.node hx
  have he : e < p.ex.length := (List.getElem?_eq_some_iff.1 hx).1
  have c4 : w.cell? ⟨sb, 4, none⟩ = some (.slice (some ⟨g, 0, none⟩) p.ex.length c) := by rw [← hS]; exact H.c 0 (by omega)
  have d0 : w.cell? ⟨g, e * 4, none⟩ = some (.int .i64 x.op) := hc 0 _ rfl
  have d1 := hc 1 _ rfl
  have d2 := hc 2 _ rfl
  have d3 := hc 3 _ rfl
  have hB1 := fun W => byteOfP_any x.op W
  have hB2 := fun W => byteOfP_any x.v W
  obtain ⟨V1, hV1⟩ : ∃ V, bs [x.op % 256] = V := ⟨_, rfl⟩
  obtain ⟨V2, hV2⟩ : ∃ V, bs [x.v % 256] = V := ⟨_, rfl⟩
  have z1 : V1.size = 1 := by rw [← hV1, bs_size]; rfl
  have z2 : V2.size = 1 := by rw [← hV2, bs_size]; rfl
  have hcat : bs [x.op % 256, x.v % 256] = V1 ++ V2 := by rw [← hV1, ← hV2, ← bs_append]; rfl
  rw [hcat]
  rw [hV1] at hB1
  rw [hV2] at hB2
  obtain ⟨op, hop⟩ : ∃ op, x.op = op := ⟨_, rfl⟩
  rw [hop] at d0 hp hB1
  generalize x.v = v at *
  generalize x.l = l at *
  generalize x.r = r at *
  generalize hnn : p.ex.length = m at *
  have hei : (e : Int) < (m : Int) := by omega
  have hlt := H.lt
  have q1 : ¬ (9223372036854775807 : Int) < (V1.size : Int) + V2.size := by omega
  have q2 : ¬ (9223372036854775807 : Int) < ((V1.size + V2.size : Nat) : Int) := by omega
  have q3 : (V1.size : Int) + V2.size ≤ 9223372036854775807 := by omega
  obtain ⟨wx, hwx⟩ : ∃ wx, w.alloc (.cells #[.int .i64 op, .int .i64 v, .int .i64 (l : Nat), .int .i64 (r : Nat)] 166) = wx := ⟨_, rfl⟩
  have Ox := own4x w (.int .i64 op) (.int .i64 v) (.int .i64 (l : Nat)) (.int .i64 (r : Nat)) 166
  rw [hwx] at Ox
  have bx : Below w.heap.size w wx := by rw [← hwx]; exact (Below.refl _ _).alloc (Nat.le_refl _) _
  have x0 := Ox.c 0 _ rfl
  have x1 := Ox.c 1 _ rfl
  replace Ox : Kp _ := ⟨Ox⟩
  replace bx : Kp _ := ⟨bx⟩
  replace hwx : Kp _ := ⟨hwx⟩
  replace hB1 : Kp _ := ⟨hB1⟩
  replace hB2 : Kp _ := ⟨hB2⟩
  clear H hE hx hc hS hV1 hV2 hcat hop hnn z1 z2
  have hcs : op = 0 ∨ op = 1 ∨ op = 10 := hp
  clear hp
  rcases hcs with rfl | rfl | rfl
  · go_enter Tryz.func178, Tryz.ntmps178
    go_wp2_with fail
    rw [hwx.out]
    clear d0 d1 d2 d3 c4
    obtain ⟨gx, hgx⟩ : ∃ gx, w.heap.size = gx := ⟨_, rfl⟩
    rw [hgx] at x0 x1 Ox
    simp only [hgx]
    go_region_held (fun w' => w'.cell? ⟨gx, 0, none⟩ = some (.int .i64 0) ∧ w'.cell? ⟨gx, 1, none⟩ = some (.int .i64 v)) (go_keep) ((go_at_call 62; (first | refine (hB1.out _).mono ?_ | refine (hB2.out _).mono ?_); rintro en w5 ⟨rfl, bb⟩; have bn : Below wx.heap.size wx w5 := (by first | exact ((Below.refl _ _).drew).trans bb | exact Below.trans (by assumption) (bb.mono (Below.size (w := wx) (by assumption)))); have o0 := (Ox.out.step bn).c 0 _ rfl; have o1 := (Ox.out.step bn).c 1 _ rfl; clear bb))
    all_goals
      have b9 : Below wx.heap.size wx w5 := by assumption
      go_wp2_with fail
      go_ret
      exact ⟨rfl, bx.out.trans (b9.mono bx.out.size)⟩
  · go_enter Tryz.func178, Tryz.ntmps178
    go_wp2_with fail
    rw [hwx.out]
    clear d0 d1 d2 d3 c4
    obtain ⟨gx, hgx⟩ : ∃ gx, w.heap.size = gx := ⟨_, rfl⟩
    rw [hgx] at x0 x1 Ox
    simp only [hgx]
    go_region_held (fun w' => w'.cell? ⟨gx, 0, none⟩ = some (.int .i64 1) ∧ w'.cell? ⟨gx, 1, none⟩ = some (.int .i64 v)) (go_keep) ((go_at_call 62; (first | refine (hB1.out _).mono ?_ | refine (hB2.out _).mono ?_); rintro en w5 ⟨rfl, bb⟩; have bn : Below wx.heap.size wx w5 := (by first | exact ((Below.refl _ _).drew).trans bb | exact Below.trans (by assumption) (bb.mono (Below.size (w := wx) (by assumption)))); have o0 := (Ox.out.step bn).c 0 _ rfl; have o1 := (Ox.out.step bn).c 1 _ rfl; clear bb))
    all_goals
      have b9 : Below wx.heap.size wx w5 := by assumption
      go_wp2_with fail
      go_ret
      exact ⟨rfl, bx.out.trans (b9.mono bx.out.size)⟩
  · go_enter Tryz.func178, Tryz.ntmps178
    go_wp2_with fail
    rw [hwx.out]
    clear d0 d1 d2 d3 c4
    obtain ⟨gx, hgx⟩ : ∃ gx, w.heap.size = gx := ⟨_, rfl⟩
    rw [hgx] at x0 x1 Ox
    simp only [hgx]
    go_region_held (fun w' => w'.cell? ⟨gx, 0, none⟩ = some (.int .i64 10) ∧ w'.cell? ⟨gx, 1, none⟩ = some (.int .i64 v)) (go_keep) ((go_at_call 62; (first | refine (hB1.out _).mono ?_ | refine (hB2.out _).mono ?_); rintro en w5 ⟨rfl, bb⟩; have bn : Below wx.heap.size wx w5 := (by first | exact ((Below.refl _ _).drew).trans bb | exact Below.trans (by assumption) (bb.mono (Below.size (w := wx) (by assumption)))); have o0 := (Ox.out.step bn).c 0 _ rfl; have o1 := (Ox.out.step bn).c 1 _ rfl; clear bb))
    all_goals
      have b9 : Below wx.heap.size wx w5 := by assumption
      go_wp2_with fail
      go_ret
      exact ⟨rfl, bx.out.trans (b9.mono bx.out.size)⟩
set_option maxHeartbeats 12800000 in
theorem code_node (rb sb B : Nat) (s tb : ByteArray) (tp : Value) (p : Rs) (S : Nat → Value) (sv : List (Value × Value)) (hE : ExOk p.ex) (e : Nat) (ih : Kp (CGo rb sb B s tb tp p S sv e)) (w : World) (H : PsAt w rb sb B s p tb tp S sv) (x : Ex) (hx : p.ex[e]? = some x) (hp : ¬ (x.op = 0 ∨ x.op = 1 ∨ x.op = 10)) (hl : (cod p.ex e).length ≤ 20000) :
    Calls Tryz.prog 178 #[.pointer (some ⟨sb, 0, none⟩), .int .i64 e] w fun en w' => en = .returned (.string (bs (cod p.ex e))) ∧ Below w.heap.size w w' := by
  obtain ⟨hxl, hxr, hco⟩ := (cod_at hE hx).2 hp
  rw [hco] at hl ⊢
  obtain ⟨g, c, hS, hg, hc⟩ := H.node hx
  have he : e < p.ex.length := (List.getElem?_eq_some_iff.1 hx).1
  have c4 : w.cell? ⟨sb, 4, none⟩ = some (.slice (some ⟨g, 0, none⟩) p.ex.length c) := by rw [← hS]; exact H.c 0 (by omega)
  have d0 : w.cell? ⟨g, e * 4, none⟩ = some (.int .i64 x.op) := hc 0 _ rfl
  have d1 := hc 1 _ rfl
  have d2 := hc 2 _ rfl
  have d3 := hc 3 _ rfl
  have hB1 := fun W => byteOfP_any x.op W
  have hB2 := fun W => byteOfP_any 0 W
  rw [List.length_append, List.length_append] at hl
  obtain ⟨VL, hVL⟩ : ∃ V, bs (cod p.ex x.l) = V := ⟨_, rfl⟩
  obtain ⟨VR, hVR⟩ : ∃ V, bs (cod p.ex x.r) = V := ⟨_, rfl⟩
  obtain ⟨V1, hV1⟩ : ∃ V, bs [x.op % 256] = V := ⟨_, rfl⟩
  obtain ⟨V2, hV2⟩ : ∃ V, bs [(0 : Int) % 256] = V := ⟨_, rfl⟩
  have z1 : V1.size = 1 := by rw [← hV1, bs_size]; rfl
  have z2 : V2.size = 1 := by rw [← hV2, bs_size]; rfl
  have zL : VL.size ≤ 20000 := by rw [← hVL, bs_size]; omega
  have zR : VR.size ≤ 20000 := by rw [← hVR, bs_size]; omega
  have hcat : bs (cod p.ex x.l ++ cod p.ex x.r ++ [x.op % 256, 0]) = VL ++ VR ++ V1 ++ V2 := by
    rw [bs_append, bs_append, hVL, hVR, show ([x.op % 256, 0] : List Int) = [x.op % 256] ++ [0 % 256] from rfl, bs_append, hV1, hV2, ← ByteArray.append_assoc]
  rw [hcat]
  rw [hV1] at hB1
  rw [hV2] at hB2
  have hlt := H.lt
  obtain ⟨wx, hwx⟩ : ∃ wx, w.alloc (.cells #[.int .i64 x.op, .int .i64 x.v, .int .i64 (x.l : Nat), .int .i64 (x.r : Nat)] 166) = wx := ⟨_, rfl⟩
  have Ox := own4x w (.int .i64 x.op) (.int .i64 x.v) (.int .i64 (x.l : Nat)) (.int .i64 (x.r : Nat)) 166
  rw [hwx] at Ox
  have bx : Below w.heap.size w wx := by rw [← hwx]; exact (Below.refl _ _).alloc (Nat.le_refl _) _
  have hC1 : Kp (∀ W, Below wx.heap.size wx W → Calls Tryz.prog 178 #[.pointer (some ⟨sb, 0, none⟩), .int .i64 (x.l : Nat)] W fun en w' => en = .returned (.string VL) ∧ Below W.heap.size W w') := ⟨fun W hW => by
    rw [← hVL]
    exact ih.out x.l W hxl (H.step (bx.trans (hW.mono bx.size))) (by omega) (by omega)⟩
  have hC2 : Kp (∀ W, Below wx.heap.size wx W → Calls Tryz.prog 178 #[.pointer (some ⟨sb, 0, none⟩), .int .i64 (x.r : Nat)] W fun en w' => en = .returned (.string VR) ∧ Below W.heap.size W w') := ⟨fun W hW => by
    rw [← hVR]
    exact ih.out x.r W hxr (H.step (bx.trans (hW.mono bx.size))) (by omega) (by omega)⟩
  have x0 := Ox.c 0 _ rfl
  have x2 := Ox.c 2 _ rfl
  have x3 := Ox.c 3 _ rfl
  have k0 : (x.op == 0) = false := beq_eq_false_iff_ne.2 fun h => hp (.inl h)
  have k1 : (x.op == 1) = false := beq_eq_false_iff_ne.2 fun h => hp (.inr (.inl h))
  have k2 : (x.op == 10) = false := beq_eq_false_iff_ne.2 fun h => hp (.inr (.inr h))
  generalize x.op = op at *
  generalize x.v = v at *
  generalize x.l = l at *
  generalize x.r = r at *
  generalize hnn : p.ex.length = m at *
  have hei : (e : Int) < (m : Int) := by omega
  have q1 : ¬ (9223372036854775807 : Int) < (VL.size : Int) + VR.size := by omega
  have q2 : ¬ (9223372036854775807 : Int) < ((VL.size + VR.size : Nat) : Int) := by omega
  have q3 : (VL.size : Int) + VR.size ≤ 9223372036854775807 := by omega
  have q4 : ¬ (9223372036854775807 : Int) < (VL.size : Int) + VR.size + V1.size := by omega
  have q5 : ¬ (9223372036854775807 : Int) < ((VL.size + VR.size + V1.size : Nat) : Int) := by omega
  have q6 : (VL.size : Int) + VR.size + V1.size ≤ 9223372036854775807 := by omega
  have q7 : ¬ (9223372036854775807 : Int) < (VL.size : Int) + VR.size + V1.size + V2.size := by omega
  have q8 : ¬ (9223372036854775807 : Int) < ((VL.size + VR.size + V1.size + V2.size : Nat) : Int) := by omega
  have q9 : (VL.size : Int) + VR.size + V1.size + V2.size ≤ 9223372036854775807 := by omega
  replace Ox : Kp _ := ⟨Ox⟩
  replace bx : Kp _ := ⟨bx⟩
  replace hwx : Kp _ := ⟨hwx⟩
  replace hB1 : Kp _ := ⟨hB1⟩
  replace hB2 : Kp _ := ⟨hB2⟩
  clear H hE hx hc hS hV1 hV2 hcat hnn z1 z2 zL zR hp hl hco hxl hxr hVL hVR ih
  go_enter Tryz.func178, Tryz.ntmps178
  go_wp2_with fail
  rw [hwx.out]
  clear d0 d1 d2 d3 c4
  obtain ⟨gx, hgx⟩ : ∃ gx, w.heap.size = gx := ⟨_, rfl⟩
  rw [hgx] at x0 x2 x3 Ox
  simp only [hgx]
  go_region_held (fun w' => w'.cell? ⟨gx, 0, none⟩ = some (.int .i64 op) ∧ w'.cell? ⟨gx, 2, none⟩ = some (.int .i64 (l : Nat)) ∧ w'.cell? ⟨gx, 3, none⟩ = some (.int .i64 (r : Nat))) (go_keep) (first
    | (go_at_call_of 178 l; refine (hC1.out _ (by first | exact (Below.refl _ _).drew | assumption)).mono ?_; rintro en w5 ⟨rfl, bb⟩; have bn : Below wx.heap.size wx w5 := (by first | exact ((Below.refl _ _).drew).trans bb | exact Below.trans (by assumption) (bb.mono (Below.size (w := wx) (by assumption)))); have o0 := (Ox.out.step bn).c 0 _ rfl; have o2 := (Ox.out.step bn).c 2 _ rfl; have o3 := (Ox.out.step bn).c 3 _ rfl; clear bb)
    | (go_at_call_of 178 r; refine (hC2.out _ (by first | exact (Below.refl _ _).drew | assumption)).mono ?_; rintro en w5 ⟨rfl, bb⟩; have bn : Below wx.heap.size wx w5 := (by first | exact ((Below.refl _ _).drew).trans bb | exact Below.trans (by assumption) (bb.mono (Below.size (w := wx) (by assumption)))); have o0 := (Ox.out.step bn).c 0 _ rfl; have o2 := (Ox.out.step bn).c 2 _ rfl; have o3 := (Ox.out.step bn).c 3 _ rfl; clear bb)
    | (go_at_call_of 62 op; refine (hB1.out _).mono ?_; rintro en w5 ⟨rfl, bb⟩; have bn : Below wx.heap.size wx w5 := (by first | exact ((Below.refl _ _).drew).trans bb | exact Below.trans (by assumption) (bb.mono (Below.size (w := wx) (by assumption)))); have o0 := (Ox.out.step bn).c 0 _ rfl; have o2 := (Ox.out.step bn).c 2 _ rfl; have o3 := (Ox.out.step bn).c 3 _ rfl; clear bb)
    | (go_at_call 62; refine (hB2.out _).mono ?_; rintro en w5 ⟨rfl, bb⟩; have bn : Below wx.heap.size wx w5 := (by first | exact ((Below.refl _ _).drew).trans bb | exact Below.trans (by assumption) (bb.mono (Below.size (w := wx) (by assumption)))); have o0 := (Ox.out.step bn).c 0 _ rfl; have o2 := (Ox.out.step bn).c 2 _ rfl; have o3 := (Ox.out.step bn).c 3 _ rfl; clear bb))
  all_goals
    have b9 : Below wx.heap.size wx w5 := by assumption
    go_wp2_with fail
    go_ret
    exact ⟨rfl, bx.out.trans (b9.mono bx.out.size)⟩

theorem code_any (rb sb B : Nat) (s tb : ByteArray) (tp : Value) (p : Rs) (S : Nat → Value) (sv : List (Value × Value)) (hE : ExOk p.ex) : ∀ k, CGo rb sb B s tb tp p S sv k
  | 0 => fun e w hk => by omega
  | k + 1 => fun e w hk H he hl => by
    have ih := code_any rb sb B s tb tp p S sv hE k
    have hx : p.ex[e]? = some p.ex[e] := List.getElem?_eq_getElem he
    by_cases hp : p.ex[e].op = 0 ∨ p.ex[e].op = 1 ∨ p.ex[e].op = 10
    · exact code_leaf rb sb B s tb tp p S sv hE e w H _ hx hp
    · exact code_node rb sb B s tb tp p S sv hE e ⟨fun f w hf => ih f w (by omega)⟩ w H _ hx hp hl
end Go.Proofs.YtcnbifdlkalimaaGreat
