/-
  The walks of the package translation, fourth part: place, takeLevel, emit; for every translator.
-/
import Derived.Test.YtcnbifdlkalimabGreatTrn3
import Derived.Deep.RegionHeld
namespace Go.Proofs.YtcnbifdlkalimabGreat
open Go.RowKit
set_option linter.unusedVariables false
set_option maxRecDepth 100000

/-- a row's value tells its length -/
theorem orow_len {w : World} {B : Nat} {e : TypeId} {z : Nat} {v : Value} {k : Nat} {xs : List Value} (h : w.ownsRow B e z v k xs) : ∃ (p : Option Addr) (c : Nat), v = .slice p k c := by
  rcases h.2 with ⟨rfl, rfl⟩ | ⟨g, cap, cur, rfl, _⟩
  · exact ⟨none, 0, rfl⟩
  · exact ⟨_, _, rfl⟩

/-- the code is not too long for a number -/
structure Sml (q : Tq) : Prop where
  cd : q.cd.length ≤ 100000
  h0 : -(q.cd.length : Int) ≤ q.h
  h1 : q.h ≤ q.cd.length
  ss : q.ss.length ≤ 100000
  ls : q.ls.length ≤ 1000
  vs : q.vs.length = q.ls.length

set_option maxHeartbeats 400000 in
theorem place_any (b : Nat) (s : ByteArray) (q : Tq) (S : Nat → Value) (w : World) (H : TrAt w b s q S) (M : Sml q) :
    Calls Tryz.prog 42 #[.pointer (some ⟨b, 0, none⟩)] w fun e w' => e = .returned (.int .i64 (plQ q)) ∧ w' = w := by
  have c := H.c 2 (by omega)
  obtain ⟨p, k, e⟩ := orow_len (H.o 2 (by omega))
  rw [e] at c
  have c : w.cell? ⟨b, 43, none⟩ = some (.slice p q.cd.length k) := c
  have hl := M.cd
  have hp : ((plQ q : Nat) : Int) = (q.cd.length : Int) / 2 := by unfold plQ; omega
  rw [hp]
  generalize q.cd.length = n at *
  clear H M e hp
  go_enter Tryz.func42, Tryz.ntmps42
  go_wp2
  go_ret
  exact ⟨rfl, rfl⟩

/-- a number that fits is itself -/
theorem i64w {x : Int} (h0 : -9223372036854775808 ≤ x) (h1 : x ≤ 9223372036854775807) : IntKind.i64.wrap x = x ∧ wrap64 x = x := by
  constructor
  · rw [IntKind.wrap]; simp [IntKind.signed, IntKind.bits]; omega
  · unfold wrap64; omega

set_option maxHeartbeats 400000 in
theorem takeLevel_any (b : Nat) (s : ByteArray) (q : Tq) (S : Nat → Value) (w : World) (H : TrAt w b s q S) (O : RdOk s q.r) (hn : 0 ≤ q.n ∧ q.n ≤ 6) :
    Calls Tryz.prog 90 #[.pointer (some ⟨b, 0, none⟩)] w fun e w' => e = .returned (.int .i64 (dig s q.r 0 (q.n - 1))) ∧ RdTo w w' b (digR s q.r 0 (q.n - 1)) := by
  have c3 := H.c3
  have hT := takeDigit_any b s q.r 0 (q.n - 1) w.drew ((RdTo.refl H.rdAt).drewN 1 |> H.rdAt.to) O
  have hR : Kp (∀ k, RdTo w (w.drewN k) b q.r) := ⟨fun k => (RdTo.refl H.rdAt).drewN k⟩
  obtain ⟨n0, n6⟩ := hn
  generalize q.n = n at *
  generalize dig s q.r 0 (n - 1) = d at *
  generalize digR s q.r 0 (n - 1) = r1 at *
  replace hT : Kp _ := ⟨hT⟩
  obtain ⟨hw1, hw2⟩ := i64w (x := n - 1) (by omega) (by omega)
  clear H O
  go_enter Tryz.func90, Tryz.ntmps90
  go_wp2_with fail
  go_region_held (fun w' => w'.cell? ⟨b, 3, none⟩ = some (.int .i64 n)) (go_keep) ((go_at_call 87; refine hT.out.mono ?_; rintro e w1 ⟨rfl, T⟩; have d3 := (T.cell 3 (by omega) (by omega)).trans c3))
  all_goals
    go_wp2_with fail
    go_ret
    exact ⟨rfl, (hR.out 1).trans T⟩

theorem wrap8 (x : Int) : IntKind.u8.wrap x = x % 256 := by
  unfold IntKind.wrap
  simp [IntKind.signed, IntKind.bits]

theorem info_u8 : (Tryz.prog.info? 5).map (fun i => (i.zero, i.size, i.bytes)) = some (some (.int .u8 0), 1, 1) := by kernel_rfl
theorem infoParts {t : TypeId} {z : Value} {a c : Nat} (h : (Tryz.prog.info? t).map (fun i => (i.zero, i.size, i.bytes)) = some (some z, a, c)) : ∃ i, Tryz.prog.info? t = some i ∧ i.zero = some z ∧ i.size = a ∧ i.bytes = c := by
  cases hi : Tryz.prog.info? t with
  | none => rw [hi] at h; simp at h
  | some i => rw [hi] at h; simp at h; exact ⟨i, rfl, h.1, h.2.1, h.2.2⟩

/-- the code with two bytes more -/
def emC (q : Tq) (op x : Int) : Tq := { q with cd := q.cd ++ [op, x % 256] }

set_option maxHeartbeats 1600000 in
theorem emit_any (b : Nat) (s : ByteArray) (q : Tq) (S : Nat → Value) (op x : Int) (w : World) (H : TrAt w b s q S) (M : Sml q) (ho : 0 ≤ op ∧ op ≤ 11) :
    Calls Tryz.prog 212 #[.pointer (some ⟨b, 0, none⟩), .int .i64 op, .int .i64 x] w fun e w' => e = .returned (.tuple #[]) ∧ ∃ S', TrAt w' b s (emitQ q op x) S' ∧ TrTo b b S S' w w' := by
  obtain ⟨o0, o1⟩ := ho
  have c := H.c 2 (by omega)
  have c : w.cell? ⟨b, 43, none⟩ = some (S 2) := c
  have hlt := H.lt
  have hl := M.cd
  have hh0 := M.h0
  have hh1 := M.h1
  obtain ⟨i0, hi0, hz0, hz1, hz2⟩ := infoParts info_u8
  have hw1 : IntKind.u8.wrap op = op := by rw [wrap8]; omega
  have hw2 := wrap8 x
  have hrow : w.ownsRow (b + 1) 5 1 (S 2) q.cd.length (q.cd.map (Value.int .u8)) := H.o 2 (by omega)
  have hnb : some b ≠ (S 2).ownBlock := fun e => by have := (hrow.lt _ e.symm).1; omega
  have g0 : 0 ≤ givesF op ∧ givesF op ≤ 1 := by unfold givesF; split <;> omega
  have t0 : 0 ≤ takesF op ∧ takesF op ≤ 2 := by
    unfold takesF
    split
    · omega
    · split <;> omega
  have hPu := fun w1 => pushes_any op w1 o0 o1
  have hPo := fun w1 => pops_any op w1 o0 o1
  obtain ⟨g0, g1⟩ := g0
  obtain ⟨t0, t1⟩ := t0
  have hE : emitQ q op x = { emC q op x with h := q.h + givesF op - takesF op, hi := max q.hi (q.h + givesF op - takesF op) } := rfl
  rw [hE]
  clear hE
  generalize givesF op = gv at *
  generalize takesF op = tv at *
  obtain ⟨k, hk⟩ : ∃ k, q.cd.length = k := ⟨_, rfl⟩
  rw [hk] at hrow hl hh0 hh1
  obtain ⟨h0, hh0e⟩ : ∃ h0, q.h = h0 := ⟨_, rfl⟩
  obtain ⟨i1, hi1e⟩ : ∃ i1, q.hi = i1 := ⟨_, rfl⟩
  rw [hh0e, hi1e]
  rw [hh0e] at hh0 hh1
  replace hh0e : Kp _ := ⟨hh0e⟩
  replace hi1e : Kp _ := ⟨hi1e⟩
  have H' : Kp _ := ⟨H⟩
  replace hPu : Kp _ := ⟨hPu⟩
  replace hPo : Kp _ := ⟨hPo⟩
  replace hrow : Kp _ := ⟨hrow⟩
  replace hnb : Kp _ := ⟨hnb⟩
  replace hk : Kp _ := ⟨hk⟩
  clear H M
  go_enter Tryz.func212, Tryz.ntmps212
  go_wp2_with (at_builtin; refine wpList_append_own_at _ rfl _ _ 56 rfl (b + 1) 5 i0 (.int .u8 0) 1 1 Tryz.underlying56 hi0 hz0 hz1 hz2 rfl (by decide) _ _ _ rfl (hrow.out.alloc _) ⟨w.heap.size, 0, none⟩ 2 2 [.int .u8 op, .int .u8 (x % 256)] rfl rfl ?a1 ?a2 ?a3 ?a4 ?a5 ?_)
  case a1 =>
    intro j u hj
    match j, hj with
    | 0, hj => simp at hj; subst hj; simp [Addr.add]
    | 1, hj => simp at hj; subst hj; simp [Addr.add]
  case a2 => intro u hu; simp at hu; rcases hu with rfl | rfl <;> rfl
  case a3 => unfold maxLen; omega
  case a4 => omega
  case a5 => simp; omega
  intro v' w3 hown hgrow _ hat
  have hR : TrAt (w3.setCell ⟨b, 43, none⟩ v') b s (emC q op x) (fun j => if j = 2 then v' else S j) ∧ TrTo b b S (fun j => if j = 2 then v' else S j) w (w3.setCell ⟨b, 43, none⟩ v') :=
    TrAt.told (l := 2) H'.out (by omega) ((Below.refl _ _).alloc (Nat.le_refl _) _) hgrow (by
      have e1 : rowN (emC q op x) 2 = k + 2 := by show (q.cd ++ [op, x % 256]).length = _; rw [List.length_append, hk.out]; rfl
      have e2 : rowV (emC q op x) 2 = q.cd.map (Value.int .u8) ++ [.int .u8 op, .int .u8 (x % 256)] := by show (q.cd ++ [op, x % 256]).map _ = _; rw [List.map_append]; rfl
      rw [e1, e2]
      exact hown) (by simpa using hat) rfl rfl rfl rfl rfl rfl (fun j hj hne => by unfold rowN; rw [if_neg hne, if_neg hne]; rfl) (fun j hj hne => by unfold rowV; rw [if_neg hne, if_neg hne]; rfl)
  have a1 : w3.cell? ⟨b, 43, none⟩ = some (S 2) := by
    rw [World.cell?_of_block (w := w.alloc (.cells #[.int .u8 op, .int .u8 (x % 256)] 5)) (hgrow.block b (by simp; omega) hnb.out)]
    rw [((Below.refl _ w).alloc (Nat.le_refl _) (.cells #[.int .u8 op, .int .u8 (x % 256)] 5)).cell (p := ⟨b, 43, none⟩) hlt]
    exact c
  have f1 : w3.frozen? ⟨b, 43, none⟩ = false := by
    rw [World.frozen?_of_block (w := w.alloc (.cells #[.int .u8 op, .int .u8 (x % 256)] 5)) (hgrow.block b (by simp; omega) hnb.out)]
    rw [((Below.refl _ w).alloc (Nat.le_refl _) (.cells #[.int .u8 op, .int .u8 (x % 256)] 5)).frozen (p := ⟨b, 43, none⟩) hlt]
    exact H'.out.f 43 (by omega)
  obtain ⟨S1, hS1⟩ : ∃ S1, S1 = fun j => if j = 2 then v' else S j := ⟨_, rfl⟩
  rw [← hS1] at hR
  obtain ⟨R1, T1⟩ := hR
  obtain ⟨w4, hw4⟩ : ∃ w4, w4 = w3.setCell ⟨b, 43, none⟩ v' := ⟨_, rfl⟩
  obtain ⟨pp, cc, hv⟩ := orow_len hown
  subst hv
  clear hown hgrow hat hS1 hrow hnb hk
  obtain ⟨hp1, hp2⟩ := i64w (x := h0 + gv) (by omega) (by omega)
  obtain ⟨hp3, hp4⟩ := i64w (x := h0 + gv - tv) (by omega) (by omega)
  have R1h : (w3.setCell ⟨b, 43, none⟩ (.slice pp (k + 2) cc)).cell? ⟨b, 44, none⟩ = some (.int .i64 h0) := by rw [← hh0e.out]; exact R1.ch
  have R1f := R1.f 44 (by omega)
  obtain ⟨R2, T2⟩ := R1.setH (h0 + gv)
  obtain ⟨R3, T3⟩ := R2.setH (h0 + gv - tv)
  have T13 := T1.trans (T2.trans T3)
  rw [← hw4] at R1h R1f R3 T13
  have R2h : (w4.setCell ⟨b, 44, none⟩ (.int .i64 (h0 + gv))).cell? ⟨b, 44, none⟩ = some (.int .i64 (h0 + gv)) := by rw [hw4]; exact R2.ch
  clear R1 T1 R2 T2 T3
  go_wp2_with fail
  rw [← hw4]
  clear hw4 a1 f1
  go_region_with (go_at_call 183; refine (hPu.out _).mono ?_; rintro e w9 ⟨rfl, hw9⟩; subst hw9)
  all_goals
    have R2d : (w4.setCell ⟨b, 44, none⟩ (.int .i64 (h0 + gv))).drew.cell? ⟨b, 44, none⟩ = some (.int .i64 (h0 + gv)) := R2h
    clear R1h R2h hPu
    go_wp2_with fail
    go_region_with (go_at_call 182; refine (hPo.out _).mono ?_; rintro e w9 ⟨rfl, hw9⟩; subst hw9)
    all_goals
      have R4 : TrAt ((w4.setCell ⟨b, 44, none⟩ (.int .i64 (h0 + gv))).setCell ⟨b, 44, none⟩ (.int .i64 (h0 + gv - tv))).drew.drew b s { emC q op x with h := h0 + gv - tv } S1 := R3.step ⟨rfl, rfl, rfl, Nat.le_refl _, fun _ _ => rfl⟩
      have T4 : TrTo b b S S1 w ((w4.setCell ⟨b, 44, none⟩ (.int .i64 (h0 + gv))).setCell ⟨b, 44, none⟩ (.int .i64 (h0 + gv - tv))).drew.drew := T13.trans (TrTo.below ⟨rfl, rfl, rfl, Nat.le_refl _, fun _ _ => rfl⟩)
      generalize ((w4.setCell ⟨b, 44, none⟩ (.int .i64 (h0 + gv))).setCell ⟨b, 44, none⟩ (.int .i64 (h0 + gv - tv))).drew.drew = w6 at *
      clear R3 T13 R2d hPo
      have d1 : w6.cell? ⟨b, 44, none⟩ = some (.int .i64 (h0 + gv - tv)) := R4.ch
      have d2 : w6.cell? ⟨b, 45, none⟩ = some (.int .i64 i1) := by rw [← hi1e.out]; exact R4.ci
      have d3 := R4.f 45 (by omega)
      obtain ⟨H1, hH1⟩ : ∃ H1, h0 + gv - tv = H1 := ⟨_, rfl⟩
      rw [hH1] at R4 d1
      by_cases hgt : i1 < H1
      · have R5 := R4.setHi H1
        have hfin : Kp (∃ S', TrAt ((w6.setCell ⟨b, 45, none⟩ (.int .i64 H1)).drew) b s { emC q op x with h := h0 + gv - tv, hi := max i1 (h0 + gv - tv) } S' ∧ TrTo b b S S' w (w6.setCell ⟨b, 45, none⟩ (.int .i64 H1)).drew) := ⟨S1, by
          rw [hH1, show max i1 H1 = H1 from by omega]
          exact R5.1.step ⟨rfl, rfl, rfl, Nat.le_refl _, fun _ _ => rfl⟩, (T4.trans R5.2).trans (TrTo.below ⟨rfl, rfl, rfl, Nat.le_refl _, fun _ _ => rfl⟩)⟩
        clear R5 R4 T4
        replace hH1 : Kp _ := ⟨hH1⟩
        have dgt : decide (i1 < H1) = true := decide_eq_true hgt
        go_wp2_with fail
        go_quiet (fail)
        go_wp2_with fail
        first | go_end0 | refine bodyPost_ret (results_none rfl _ _ _) rfl ?_
        exact ⟨rfl, hfin.out.choose, hfin.out.choose_spec.1.step ⟨rfl, rfl, rfl, Nat.le_refl _, fun _ _ => rfl⟩, hfin.out.choose_spec.2.trans (TrTo.below ⟨rfl, rfl, rfl, Nat.le_refl _, fun _ _ => rfl⟩)⟩
      · have hfin : Kp (TrAt w6 b s { emC q op x with h := h0 + gv - tv, hi := max i1 (h0 + gv - tv) } S1) := ⟨by
          rw [hH1, show max i1 H1 = i1 from by omega, ← hi1e.out]
          exact R4⟩
        clear R4
        replace T4 : Kp _ := ⟨T4⟩
        replace hH1 : Kp _ := ⟨hH1⟩
        have dgt : decide (i1 < H1) = false := decide_eq_false hgt
        go_wp2_with fail
        go_quiet (fail)
        go_wp2_with fail
        first | go_end0 | refine bodyPost_ret (results_none rfl _ _ _) rfl ?_
        exact ⟨rfl, S1, hfin.out.step ⟨rfl, rfl, rfl, Nat.le_refl _, fun _ _ => rfl⟩, T4.out.trans (TrTo.below ⟨rfl, rfl, rfl, Nat.le_refl _, fun _ _ => rfl⟩)⟩
end Go.Proofs.YtcnbifdlkalimabGreat
