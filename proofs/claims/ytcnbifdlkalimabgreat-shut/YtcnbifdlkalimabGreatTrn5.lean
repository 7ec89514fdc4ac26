/-
  The walks of the package translation, fifth part: find, levelOf, takeVariable, aim, add, declare; for every translator.
-/
import Derived.Test.YtcnbifdlkalimabGreatTrn4
namespace Go.Proofs.YtcnbifdlkalimabGreat
open Go.RowKit
set_option linter.unusedVariables false
set_option maxRecDepth 100000

/-- the cells of a row of bytes -/
theorem orow_byte {w : World} {B : Nat} {e : TypeId} {p : Option Addr} {k c : Nat} {L : List Int} (h : w.ownsRow B e 1 (.slice p k c) k (L.map (Value.int .u8))) {i : Nat} (hi : i < k) : ∃ g, p = some ⟨g, 0, none⟩ ∧ ∃ x, L[i]? = some x ∧ w.cell? ⟨g, i, none⟩ = some (.int .u8 x) ∧ w.frozen? ⟨g, i, none⟩ = false := by
  have hlen := h.1
  have hl : L.length = k := by simpa using hlen
  obtain ⟨x, hx⟩ : ∃ x, L[i]? = some x := ⟨L[i], List.getElem?_eq_getElem (by omega)⟩
  rcases h.2 with ⟨_, h0⟩ | ⟨g, cap, cur, hv, _⟩
  · omega
  · have hp : p = some ⟨g, 0, none⟩ := by
      have := Value.slice.inj hv
      exact this.1
    have hc : c = cap := (Value.slice.inj hv).2.2
    subst hp
    subst hc
    refine ⟨g, rfl, x, hx, ?_, h.frozenAt i⟩
    rw [h.cellAt i (by omega), List.getElem?_map, hx]
    rfl

/-- what find tells -/
def fnI (c : Int) (l : List Int) : Nat := if fnd c l < l.length then fnd c l else 0
def fnB (c : Int) (l : List Int) : Bool := decide (fnd c l < l.length)
theorem fn_yes {c : Int} {l : List Int} {i : Nat} (h : fnd c l = i) (hi : i < l.length) : fnI c l = i ∧ fnB c l = true := by
  subst h
  exact ⟨if_pos hi, decide_eq_true hi⟩
theorem fn_no {c : Int} {l : List Int} (h : fnd c l = l.length) : fnI c l = 0 ∧ fnB c l = false := ⟨if_neg (by omega), decide_eq_false (by omega)⟩

set_option maxHeartbeats 800000 in
theorem find_any (b : Nat) (s : ByteArray) (q : Tq) (S : Nat → Value) (c : Int) (w : World) (H : TrAt w b s q S) (M : Sml q) :
    Calls Tryz.prog 162 #[.pointer (some ⟨b, 0, none⟩), .int .u8 c] w fun e w' => e = .returned (.tuple #[.int .i64 (fnI c q.ls : Nat), .bool (fnB c q.ls)]) ∧ w' = w := by
  have c0 := H.c 0 (by omega)
  have hrow : w.ownsRow (b + 1) 5 1 (S 0) q.ls.length (q.ls.map (Value.int .u8)) := H.o 0 (by omega)
  have hl := M.ls
  obtain ⟨p, k, e⟩ := orow_len hrow
  rw [e] at c0 hrow
  have c0 : w.cell? ⟨b, 41, none⟩ = some (.slice p q.ls.length k) := c0
  generalize q.ls = L at *
  replace hrow : Kp _ := ⟨hrow⟩
  clear H M e
  obtain ⟨n, hn⟩ : ∃ n, L.length = n := ⟨_, rfl⟩
  rw [hn] at c0 hl hrow
  replace hn : Kp _ := ⟨hn⟩
  go_enter Tryz.func162, Tryz.ntmps162
  go_wp2_with fail
  go_loop [6] (fun v => ∃ i : Nat, v = .int .i64 i ∧ i ≤ n ∧ Kp (∀ j, j < i → L[j]? ≠ some c)) (fun v => n - (intOf v).toNat)
  case atStart => exact ⟨0, rfl, by omega, ⟨fun j hj => by omega⟩⟩
  case round =>
    obtain ⟨i, rfl, hi, hb⟩ := hrel
    by_cases hin : i < n
    · obtain ⟨g, rfl, x, hx, hc, hf⟩ := orow_byte hrow.out hin
      have hini : (i : Int) < (n : Int) := by omega
      replace hx : Kp _ := ⟨hx⟩
      by_cases hxc : x = c
      · subst hxc
        have e1 : Kp (fnI x L = i ∧ fnB x L = true) := ⟨fn_yes (fnd_eq hx.out hb.out) (by rw [hn.out]; exact hin)⟩
        clear hb hrow
        go_wp2_with fail
        go_ret2
        exact ⟨by rw [e1.out.1, e1.out.2]; rfl, rfl⟩
      · have hk : (x == c) = false := beq_eq_false_iff_ne.2 hxc
        have hb2 : Kp (∀ j, j < i + 1 → L[j]? ≠ some c) := ⟨fun j hj => by
          by_cases e : j = i
          · rw [e, hx.out]; intro h; exact hxc (Option.some.inj h)
          · exact hb.out j (by omega)⟩
        clear hb hxc
        go_wp2_with fail
        go_round
        case rel => exact ⟨i + 1, by go_num, by omega, hb2⟩
        case measure => simp [intOf]; omega
    · have hie : i = n := by omega
      have e1 : Kp (fnI c L = 0 ∧ fnB c L = false) := ⟨fn_no (fnd_none fun j hj => hb.out j (by rw [hie, ← hn.out]; exact hj))⟩
      have hini : ¬ (i : Int) < (n : Int) := by omega
      clear hb hrow hin
      go_wp2_with fail
      go_ret2
      exact ⟨by rw [e1.out.1, e1.out.2]; rfl, rfl⟩

set_option maxHeartbeats 800000 in
theorem levelOf_any (b : Nat) (s : ByteArray) (q : Tq) (S : Nat → Value) (v : Nat) (w : World) (H : TrAt w b s q S) (M : Sml q) (hb : ∀ x, x ∈ q.vs → 0 ≤ x ∧ x ≤ 255) :
    Calls Tryz.prog 217 #[.pointer (some ⟨b, 0, none⟩), .int .i64 v] w fun e w' => e = .returned (.int .i64 (lvOf q v)) ∧ w' = w := by
  have c0 := H.c 1 (by omega)
  have hrow : w.ownsRow (b + 1) 5 1 (S 1) q.vs.length (q.vs.map (Value.int .u8)) := H.o 1 (by omega)
  have hl := M.ls
  rw [← M.vs] at hl
  obtain ⟨p, k, e⟩ := orow_len hrow
  rw [e] at c0 hrow
  have c0 : w.cell? ⟨b, 42, none⟩ = some (.slice p q.vs.length k) := c0
  unfold lvOf
  generalize q.vs = L at *
  clear H M e
  by_cases hv : v < L.length
  · obtain ⟨g, rfl, x, hx, hc, hf⟩ := orow_byte hrow hv
    have e1 : L.getD v 0 = x := by rw [List.getD_eq_getElem?_getD, hx]; rfl
    rw [e1]
    obtain ⟨x0, x9⟩ := hb x (List.mem_of_getElem? hx)
    generalize L.length = n at *
    have hvi : (v : Int) < (n : Int) := by omega
    clear hrow hx e1 hb
    go_enter Tryz.func217, Tryz.ntmps217
    go_wp2
    go_ret
    exact ⟨rfl, rfl⟩
  · have e1 : L.getD v 0 = 0 := by rw [List.getD_eq_getElem?_getD, List.getElem?_eq_none (by omega)]; rfl
    rw [e1]
    generalize L.length = n at *
    have hvi : ¬ (v : Int) < (n : Int) := by omega
    clear hrow e1 hb hv
    go_enter Tryz.func217, Tryz.ntmps217
    go_wp2
    go_ret
    exact ⟨rfl, rfl⟩

set_option maxHeartbeats 800000 in
theorem takeVariable_any (b : Nat) (s : ByteArray) (q : Tq) (S : Nat → Value) (w : World) (H : TrAt w b s q S) (M : Sml q) (O : RdOk s q.r) :
    Calls Tryz.prog 216 #[.pointer (some ⟨b, 0, none⟩)] w fun e w' => e = .returned (.int .i64 (varI s q.r q.ls : Nat)) ∧ RdTo w w' b (varR s q.r q.ls) := by
  have hP := peekR_any b s q.r w H.rdAt O
  have hA : Kp (∀ w1 r1, RdTo w w1 b r1 → TrAt w1 b s { q with r := r1 } S) := ⟨fun w1 r1 T => H.rd T⟩
  have O1 := O.adv
  have hF : Kp (∀ w1 r1, RdTo w w1 b r1 → Calls Tryz.prog 162 #[.pointer (some ⟨b, 0, none⟩), .int .u8 (tok s q.r)] w1 fun e w' => e = .returned (.tuple #[.int .i64 (fnI (tok s q.r) q.ls : Nat), .bool (fnB (tok s q.r) q.ls)]) ∧ w' = w1) := ⟨fun w1 r1 T => find_any b s { q with r := r1 } S (tok s q.r) w1 (H.rd T) ⟨M.cd, M.h0, M.h1, M.ss, M.ls, M.vs⟩⟩
  have hL := fun w1 => isLetter_any (tok s q.r) w1
  replace hP : Kp _ := ⟨hP⟩
  cases hl : isL (tok s q.r) with
  | false =>
    have e1 : varOk s q.r q.ls = false := by unfold varOk; rw [hl]; rfl
    have e2 : varI s q.r q.ls = 0 := by unfold varI; rw [if_neg (by rw [e1]; simp)]
    have e3 : varR s q.r q.ls = rfs (adv s q.r) 11 := by unfold varR tkIf; rw [if_neg (by rw [e1]; simp), if_neg (by rw [hl]; simp)]
    rw [e2, e3]
    rw [hl] at hL
    clear e1 e2 e3 H M O hF
    generalize tok s q.r = t at *
    replace hL : Kp _ := ⟨hL⟩
    go_enter Tryz.func216, Tryz.ntmps216
    go_wp2_with fail
    refine hP.out.mono ?_
    rintro e w1 ⟨rfl, T1⟩
    have A1 := hA.out w1 _ T1
    have hR := refuseR_any b s (adv s q.r) 11 w1 A1.rdAt
    replace hR : Kp _ := ⟨hR⟩
    replace T1 : Kp _ := ⟨T1⟩
    clear A1 hA hP
    go_wp2_with fail
    refine (hL.out _).mono ?_
    rintro e w2 ⟨rfl, hw⟩
    subst hw
    go_wp2_with fail
    refine hR.out.mono ?_
    rintro e w3 ⟨rfl, T3⟩
    go_wp2_with fail
    go_ret
    exact ⟨rfl, T1.out.trans T3⟩
  | true =>
    rw [hl] at hL
    by_cases hf : fnd (tok s q.r) q.ls < q.ls.length
    · have e1 : varOk s q.r q.ls = true := by unfold varOk; rw [hl, decide_eq_true hf]; rfl
      have e2 : varI s q.r q.ls = fnd (tok s q.r) q.ls := by unfold varI; rw [if_pos e1]
      have e3 : varR s q.r q.ls = nx (adv s q.r) := by unfold varR tkIf; rw [if_pos e1]
      rw [e2, e3]
      rw [(fn_yes rfl hf).1, (fn_yes rfl hf).2] at hF
      clear e1 e2 e3 H M O hf
      generalize fnd (tok s q.r) q.ls = i at *
      generalize tok s q.r = t at *
      replace hL : Kp _ := ⟨hL⟩
      go_enter Tryz.func216, Tryz.ntmps216
      go_wp2_with fail
      refine hP.out.mono ?_
      rintro e w1 ⟨rfl, T1⟩
      have A1 := hA.out w1 _ T1
      have hR := skipR_any b s (adv s q.r) w1 A1.rdAt O1
      replace hR : Kp _ := ⟨hR⟩
      replace T1 : Kp _ := ⟨T1⟩
      clear A1 hA hP
      go_wp2_with fail
      refine (hL.out _).mono ?_
      rintro e w2 ⟨rfl, hw⟩
      subst hw
      go_wp2_with fail
      refine (hF.out _ _ T1.out).mono ?_
      rintro e w2 ⟨rfl, hw⟩
      subst hw
      go_wp2_with fail
      refine hR.out.mono ?_
      rintro e w3 ⟨rfl, T3⟩
      go_wp2_with fail
      go_ret
      exact ⟨rfl, T1.out.trans T3⟩
    · have e1 : varOk s q.r q.ls = false := by unfold varOk; rw [hl, decide_eq_false hf]; rfl
      have e2 : varI s q.r q.ls = 0 := by unfold varI; rw [if_neg (by rw [e1]; simp)]
      have e3 : varR s q.r q.ls = rfs (adv s q.r) 12 := by unfold varR tkIf; rw [if_neg (by rw [e1]; simp), if_pos hl]
      rw [e2, e3]
      have hfe : fnd (tok s q.r) q.ls = q.ls.length := by have := fnd_le (tok s q.r) q.ls; omega
      rw [(fn_no hfe).1, (fn_no hfe).2] at hF
      clear hfe
      clear e1 e2 e3 H M O hf
      generalize tok s q.r = t at *
      replace hL : Kp _ := ⟨hL⟩
      go_enter Tryz.func216, Tryz.ntmps216
      go_wp2_with fail
      refine hP.out.mono ?_
      rintro e w1 ⟨rfl, T1⟩
      have A1 := hA.out w1 _ T1
      have hR := refuseR_any b s (adv s q.r) 12 w1 A1.rdAt
      replace hR : Kp _ := ⟨hR⟩
      replace T1 : Kp _ := ⟨T1⟩
      clear A1 hA hP
      go_wp2_with fail
      refine (hL.out _).mono ?_
      rintro e w2 ⟨rfl, hw⟩
      subst hw
      go_wp2_with fail
      refine (hF.out _ _ T1.out).mono ?_
      rintro e w2 ⟨rfl, hw⟩
      subst hw
      go_wp2_with fail
      refine hR.out.mono ?_
      rintro e w3 ⟨rfl, T3⟩
      go_wp2_with fail
      go_ret
      exact ⟨rfl, T1.out.trans T3⟩
end Go.Proofs.YtcnbifdlkalimabGreat
