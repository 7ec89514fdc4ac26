/-
  The walks of the package translation, first part: the reader; for every text of at most 300 bytes, wherever it stands.
-/
import Derived.Test.YtcnbifdlkalimabGreatWayB
import Derived.Test.YtcnbifdlkalimabGreatSrc1
import Derived.Deep.QuietTactic
import Derived.BigQuiet
import Derived.Deep.LoopGhost
namespace Go.Proofs.YtcnbifdlkalimabGreat
open Go.RowKit
set_option linter.unusedVariables false
set_option maxRecDepth 100000

/-- block b begins with a reader -/
structure RdAt (w : World) (b : Nat) (s : ByteArray) (r : Rd) : Prop where
  lt : b < w.heap.size
  c0 : w.cell? ⟨b, 0, none⟩ = some (.string s)
  c1 : w.cell? ⟨b, 1, none⟩ = some (.int .i64 r.a)
  c2 : w.cell? ⟨b, 2, none⟩ = some (.int .i64 r.er)
  f1 : w.frozen? ⟨b, 1, none⟩ = false
  f2 : w.frozen? ⟨b, 2, none⟩ = false

/-- nothing but the reader's place and its error has changed -/
structure RdTo (w w' : World) (b : Nat) (r : Rd) : Prop where
  os : w'.os = w.os
  tape : w'.tape = w.tape
  output : w'.output = w.output
  size : w'.heap.size = w.heap.size
  block : ∀ k, k ≠ b → w'.heap[k]? = w.heap[k]?
  cell : ∀ k, k ≠ 1 → k ≠ 2 → w'.cell? ⟨b, k, none⟩ = w.cell? ⟨b, k, none⟩
  frozen : ∀ k, w'.frozen? ⟨b, k, none⟩ = w.frozen? ⟨b, k, none⟩
  c1 : w'.cell? ⟨b, 1, none⟩ = some (.int .i64 r.a)
  c2 : w'.cell? ⟨b, 2, none⟩ = some (.int .i64 r.er)

theorem RdAt.to {w w' : World} {b : Nat} {s : ByteArray} {r r' : Rd} (H : RdAt w b s r) (h : RdTo w w' b r') : RdAt w' b s r' :=
  ⟨by rw [h.size]; exact H.lt, by rw [h.cell 0 (by omega) (by omega)]; exact H.c0, h.c1, h.c2, by rw [h.frozen]; exact H.f1, by rw [h.frozen]; exact H.f2⟩
theorem RdTo.trans {x y z : World} {b : Nat} {r r' : Rd} (h : RdTo x y b r) (k : RdTo y z b r') : RdTo x z b r' :=
  ⟨k.os.trans h.os, k.tape.trans h.tape, k.output.trans h.output, k.size.trans h.size, fun i hi => (k.block i hi).trans (h.block i hi), fun i h1 h2 => (k.cell i h1 h2).trans (h.cell i h1 h2), fun i => (k.frozen i).trans (h.frozen i), k.c1, k.c2⟩
theorem RdTo.refl {w : World} {b : Nat} {s : ByteArray} {r : Rd} (H : RdAt w b s r) : RdTo w w b r :=
  ⟨rfl, rfl, rfl, rfl, fun _ _ => rfl, fun _ _ _ => rfl, fun _ => rfl, H.c1, H.c2⟩
theorem RdTo.drewN {w w' : World} {b : Nat} {r : Rd} (h : RdTo w w' b r) (k : Nat) : RdTo w (w'.drewN k) b r :=
  ⟨h.os, h.tape, h.output, h.size, h.block, h.cell, h.frozen, h.c1, h.c2⟩
theorem coff (w : World) (b i j : Nat) (x : Value) (h : i ≠ j) : (w.setCell ⟨b, i, none⟩ x).cell? ⟨b, j, none⟩ = w.cell? ⟨b, j, none⟩ :=
  World.cell?_setCell_other w ⟨b, i, none⟩ ⟨b, j, none⟩ x (by intro k; have := congrArg Addr.off k; simp at this; omega)
theorem RdTo.setA {w : World} {b : Nat} {s : ByteArray} {r : Rd} (H : RdAt w b s r) (a : Nat) : RdTo w (w.setCell ⟨b, 1, none⟩ (.int .i64 a)) b ⟨a, r.er⟩ :=
  ⟨rfl, rfl, rfl, by simp, fun k hk => Below.heap_setCell w ⟨b, 1, none⟩ _ k hk, fun k h1 _ => coff _ _ _ _ _ (by omega), fun k => World.frozen?_setCell .., World.cell?_setCell_same _ _ _ H.c1, by rw [coff _ _ _ _ _ (by omega)]; exact H.c2⟩
theorem RdTo.setE {w : World} {b : Nat} {s : ByteArray} {r : Rd} (H : RdAt w b s r) (e : Int) : RdTo w (w.setCell ⟨b, 2, none⟩ (.int .i64 e)) b ⟨r.a, e⟩ :=
  ⟨rfl, rfl, rfl, by simp, fun k hk => Below.heap_setCell w ⟨b, 2, none⟩ _ k hk, fun k h1 _ => coff _ _ _ _ _ (by omega), fun k => World.frozen?_setCell .., by rw [coff _ _ _ _ _ (by omega)]; exact H.c1, World.cell?_setCell_same _ _ _ H.c2⟩

/-- a source that is not too long, read so far -/
structure RdOk (s : ByteArray) (r : Rd) : Prop where
  sz : s.size ≤ 300
  le : r.a ≤ s.size

set_option maxHeartbeats 800000 in
theorem hereR_any (b : Nat) (s : ByteArray) (r : Rd) (w : World) (H : RdAt w b s r) (O : RdOk s r) :
    Calls Tryz.prog 210 #[.pointer (some ⟨b, 0, none⟩)] w fun e w' => e = .returned (.int .u8 (here s r)) ∧ ∃ k, w' = w.drewN k := by
  obtain ⟨a, er⟩ := r
  have c0 := H.c0
  have c1 : w.cell? ⟨b, 1, none⟩ = some (.int .i64 a) := H.c1
  have c2 : w.cell? ⟨b, 2, none⟩ = some (.int .i64 er) := H.c2
  have sz := O.sz
  have le : a ≤ s.size := O.le
  by_cases h0 : er = 0
  · subst h0
    by_cases h1 : a < s.size
    · have hv := bv_nat s a h1
      have hx : here s ⟨a, 0⟩ = bv s a := if_pos ⟨rfl, h1⟩
      rw [hx]
      obtain ⟨x0, x9⟩ := bv_bd s a
      generalize bv s a = x at *
      clear hx H O
      have d1 : decide ((a : Int) < 0) = false := decide_eq_false (by omega)
      have d2 : decide ((s.size : Int) ≤ (a : Int)) = false := decide_eq_false (by omega)
      have hai : (a : Int) < (s.size : Int) := by omega
      go_enter Tryz.func210, Tryz.ntmps210
      go_wp2
      go_quiet (fail)
      go_wp2
      go_quiet (fail)
      go_wp2
      go_ret
      exact ⟨rfl, _, World.drewN_drewN _ _ _⟩
    · have hx : here s ⟨a, 0⟩ = 0 := if_neg fun k => h1 k.2
      rw [hx]
      have d1 : decide ((a : Int) < 0) = false := decide_eq_false (by omega)
      have d2 : decide ((s.size : Int) ≤ (a : Int)) = true := decide_eq_true (by omega)
      have h2 : s.size ≤ a := by omega
      clear hx H O h1 le
      go_enter Tryz.func210, Tryz.ntmps210
      go_wp2
      go_quiet (fail)
      go_wp2
      go_ret
      exact ⟨rfl, _, rfl⟩
  · have hx : here s ⟨a, er⟩ = 0 := here_bad h0
    rw [hx]
    have hk : (er != 0) = true := bne_iff_ne.2 h0
    clear hx H O h0
    go_enter Tryz.func210, Tryz.ntmps210
    go_wp2
    go_quiet (fail)
    go_wp2
    go_ret
    exact ⟨rfl, _, rfl⟩

theorem blk_here {s : ByteArray} {r : Rd} (h : here s r = 32 ∨ here s r = 10) : adv s r = adv s (nx r) := by
  have hp := here_pos (s := s) (r := r) (by omega)
  have hv : here s r = bv s r.a := if_pos hp
  rw [adv_ok hp.1, adv_ok (by rw [nx_er]; exact hp.1)]
  have : (nx r).a = r.a + 1 := by unfold nx; rw [if_pos hp.1]
  rw [this, skp_go hp.2]
  rw [hv] at h
  unfold blk
  rcases h with h | h <;> rw [h] <;> rfl
theorem no_blk_here {s : ByteArray} {r : Rd} (h1 : here s r ≠ 32) (h2 : here s r ≠ 10) : adv s r = r := by
  by_cases he : r.er = 0
  · rw [adv_ok he, skp_no]
    · rw [← he]
    · rintro ⟨a, b⟩
      have hv : here s r = bv s r.a := if_pos ⟨he, a⟩
      rw [hv] at h1 h2
      unfold blk at b
      simp [h1, h2] at b
  · exact adv_bad he

set_option maxHeartbeats 800000 in
theorem peekR_any (b : Nat) (s : ByteArray) (r : Rd) (w : World) (H : RdAt w b s r) (O : RdOk s r) :
    Calls Tryz.prog 158 #[.pointer (some ⟨b, 0, none⟩)] w fun e w' => e = .returned (.int .u8 (tok s r)) ∧ RdTo w w' b (adv s r) := by
  have sz := O.sz
  go_enter Tryz.func158, Tryz.ntmps158
  go_wp2_with fail
  refine (hereR_any b s r w H O).mono ?_
  rintro e w1 ⟨rfl, k1, rfl⟩
  have T0 : Kp (RdTo w (w.drewN k1) b r) := ⟨(RdTo.refl H).drewN k1⟩
  have H' : Kp _ := ⟨H⟩
  have hle : Kp (r.a ≤ s.size) := ⟨O.le⟩
  clear H O
  go_wp2_with fail
  go_loopg [3] (rem s r) (fun g nv wr => ∃ r' : Rd, nv = .int .u8 (here s r') ∧ Kp (adv s r' = adv s r) ∧ Kp (r'.a ≤ s.size) ∧ Kp (RdTo w wr b r') ∧ Kp (g = rem s r'))
  case atStart => exact ⟨r, rfl, ⟨rfl⟩, hle, T0, ⟨rfl⟩⟩
  case round =>
    clear T0 hle
    obtain ⟨r', rfl, ha, hle, hT, hg⟩ := hrel
    by_cases hb : here s r' = 32 ∨ here s r' = 10
    · have hp := here_pos (s := s) (r := r') (by omega)
      have hA := H'.out.to hT.out
      obtain ⟨a, er⟩ := r'
      have he : er = 0 := hp.1
      subst he
      have ha2 : a < s.size := hp.2
      have c1 : wr.cell? ⟨b, 1, none⟩ = some (.int .i64 a) := hA.c1
      have f1 := hA.f1
      have T1 : RdTo wr (wr.setCell ⟨b, 1, none⟩ (.int .i64 ((a : Int) + 1))) b ⟨a + 1, 0⟩ := RdTo.setA hA (a + 1)
      have A1 := hA.to T1
      have hh := hereR_any b s ⟨a + 1, 0⟩ ((wr.setCell ⟨b, 1, none⟩ (.int .i64 ((a : Int) + 1)))) A1 ⟨sz, ha2⟩
      have e1 : Kp (adv s ⟨a + 1, 0⟩ = adv s r) := ⟨by rw [← ha.out, blk_here hb]; rfl⟩
      have hm : Kp (rem s ⟨a + 1, 0⟩ < rem s ⟨a, 0⟩) := ⟨rem_nx_lt (s := s) (r := ⟨a, 0⟩) (by omega)⟩
      have T2 : Kp (RdTo w (wr.setCell ⟨b, 1, none⟩ (.int .i64 ((a : Int) + 1))) b ⟨a + 1, 0⟩) := ⟨hT.out.trans T1⟩
      replace hh : Kp _ := ⟨hh⟩
      clear T1 A1 hA hp hT
      have hbb : here s ⟨a, 0⟩ = 32 ∨ here s ⟨a, 0⟩ = 10 := hb
      generalize here s ⟨a, 0⟩ = x at *
      clear hb
      rcases hbb with rfl | rfl
      all_goals
        go_wp2_with fail
        refine hh.out.mono ?_
        rintro e w2 ⟨rfl, k2, rfl⟩
        go_wp2_with fail
        go_roundg (rem s ⟨a + 1, 0⟩)
        case measure => have h1 := hg.out; have h2 := hm.out; omega
        case rel => exact ⟨⟨a + 1, 0⟩, rfl, e1, ⟨by show a + 1 ≤ s.size; omega⟩, ⟨T2.out.drewN k2⟩, ⟨rfl⟩⟩
    · have h1 : here s r' ≠ 32 := fun c => hb (.inl c)
      have h2 : here s r' ≠ 10 := fun c => hb (.inr c)
      have e1 := no_blk_here h1 h2
      have e2 : Kp (here s r' = tok s r) := ⟨by unfold tok; rw [← ha.out, e1]⟩
      have T2 : Kp (RdTo w wr b (adv s r)) := ⟨by rw [← ha.out, e1]; exact hT.out⟩
      have b1 : (here s r' == 32) = false := beq_eq_false_iff_ne.2 h1
      have b2 : (here s r' == 10) = false := beq_eq_false_iff_ne.2 h2
      clear e1 hT hb h1 h2 hg ha
      generalize here s r' = x at *
      go_wp2_with fail
      go_ret
      exact ⟨by rw [e2.out]; rfl, T2.out⟩

set_option maxHeartbeats 400000 in
theorem skipR_any (b : Nat) (s : ByteArray) (r : Rd) (w : World) (H : RdAt w b s r) (O : RdOk s r) :
    Calls Tryz.prog 160 #[.pointer (some ⟨b, 0, none⟩)] w fun e w' => e = .returned (.tuple #[]) ∧ RdTo w w' b (nx r) := by
  obtain ⟨a, er⟩ := r
  have c1 : w.cell? ⟨b, 1, none⟩ = some (.int .i64 a) := H.c1
  have c2 : w.cell? ⟨b, 2, none⟩ = some (.int .i64 er) := H.c2
  have f1 := H.f1
  have sz := O.sz
  have le : a ≤ s.size := O.le
  by_cases h0 : er = 0
  · subst h0
    have T : Kp (RdTo w (w.setCell ⟨b, 1, none⟩ (.int .i64 ((a : Int) + 1))) b (nx ⟨a, 0⟩)) := ⟨RdTo.setA H (a + 1)⟩
    clear H O
    go_enter Tryz.func160, Tryz.ntmps160
    go_wp2_with fail
    first | go_end0 | refine bodyPost_ret (results_none rfl _ _ _) rfl ?_
    exact ⟨rfl, T.out⟩
  · have T : Kp (RdTo w w b (nx ⟨a, er⟩)) := ⟨by rw [nx_bad h0]; exact RdTo.refl H⟩
    have hk : (er == 0) = false := beq_eq_false_iff_ne.2 h0
    clear H O
    go_enter Tryz.func160, Tryz.ntmps160
    go_wp2_with fail
    first | go_end0 | refine bodyPost_ret (results_none rfl _ _ _) rfl ?_
    exact ⟨rfl, T.out⟩

set_option maxHeartbeats 400000 in
theorem refuseR_any (b : Nat) (s : ByteArray) (r : Rd) (x : Int) (w : World) (H : RdAt w b s r) :
    Calls Tryz.prog 159 #[.pointer (some ⟨b, 0, none⟩), .int .i64 x] w fun e w' => e = .returned (.tuple #[]) ∧ RdTo w w' b (rfs r x) := by
  obtain ⟨a, er⟩ := r
  have c1 : w.cell? ⟨b, 1, none⟩ = some (.int .i64 a) := H.c1
  have c2 : w.cell? ⟨b, 2, none⟩ = some (.int .i64 er) := H.c2
  have f1 := H.f2
  by_cases h0 : er = 0
  · subst h0
    have T : Kp (RdTo w (w.setCell ⟨b, 2, none⟩ (.int .i64 x)) b (rfs ⟨a, 0⟩ x)) := ⟨RdTo.setE H x⟩
    clear H
    go_enter Tryz.func159, Tryz.ntmps159
    go_wp2_with fail
    first | go_end0 | refine bodyPost_ret (results_none rfl _ _ _) rfl ?_
    exact ⟨rfl, T.out⟩
  · have T : Kp (RdTo w w b (rfs ⟨a, er⟩ x)) := ⟨by rw [rfs_bad h0]; exact RdTo.refl H⟩
    have hk : (er == 0) = false := beq_eq_false_iff_ne.2 h0
    clear H
    go_enter Tryz.func159, Tryz.ntmps159
    go_wp2_with fail
    first | go_end0 | refine bodyPost_ret (results_none rfl _ _ _) rfl ?_
    exact ⟨rfl, T.out⟩

theorem RdOk.adv {s : ByteArray} {r : Rd} (O : RdOk s r) : RdOk s (Go.Proofs.YtcnbifdlkalimabGreat.adv s r) := ⟨O.sz, adv_le O.le⟩
theorem RdOk.rfs {s : ByteArray} {r : Rd} (O : RdOk s r) (e : Int) : RdOk s (Go.Proofs.YtcnbifdlkalimabGreat.rfs r e) := ⟨O.sz, by rw [rfs_a]; exact O.le⟩
theorem RdOk.tkIf {s : ByteArray} {r : Rd} {ok : Bool} {e : Int} (O : RdOk s r) (h : ok = true → tok s r ≠ 0) : RdOk s (Go.Proofs.YtcnbifdlkalimabGreat.tkIf s r ok e) := ⟨O.sz, tkIf_le O.le h⟩
theorem RdOk.tk {s : ByteArray} {r : Rd} {c : Int} (O : RdOk s r) (hc : c ≠ 0) : RdOk s (Go.Proofs.YtcnbifdlkalimabGreat.tk s r c) := ⟨O.sz, tk_le O.le hc⟩
theorem RdOk.nx {s : ByteArray} {r : Rd} (O : RdOk s r) (h : here s r ≠ 0) : RdOk s (Go.Proofs.YtcnbifdlkalimabGreat.nx r) := ⟨O.sz, nx_le h⟩

set_option maxHeartbeats 400000 in
theorem takeR_any (b : Nat) (s : ByteArray) (r : Rd) (c : Int) (w : World) (H : RdAt w b s r) (O : RdOk s r) :
    Calls Tryz.prog 92 #[.pointer (some ⟨b, 0, none⟩), .int .u8 c] w fun e w' => e = .returned (.tuple #[]) ∧ RdTo w w' b (tk s r c) := by
  have A1 := fun (w1 : World) (T : RdTo w w1 b (adv s r)) => H.to T
  have O1 := O.adv
  have hP := peekR_any b s r w H O
  by_cases h : tok s r = c
  · have e1 : tk s r c = nx (adv s r) := by unfold tk tkIf; rw [if_pos (by rw [beq_iff_eq]; exact h)]
    rw [e1]
    rw [h] at hP
    replace hP : Kp _ := ⟨hP⟩
    replace A1 : Kp _ := ⟨A1⟩
    clear H O e1 h
    go_enter Tryz.func92, Tryz.ntmps92
    go_wp2_with fail
    refine hP.out.mono ?_
    rintro e w1 ⟨rfl, T1⟩
    have hS := skipR_any b s (adv s r) w1 (A1.out w1 T1) O1
    replace hS : Kp _ := ⟨hS⟩
    replace T1 : Kp _ := ⟨T1⟩
    clear A1 O1
    go_wp2_with fail
    refine hS.out.mono ?_
    rintro e w2 ⟨rfl, T2⟩
    go_wp2_with fail
    first | go_end0 | refine bodyPost_ret (results_none rfl _ _ _) rfl ?_
    exact ⟨rfl, T1.out.trans T2⟩
  · have hk : (tok s r != c) = true := bne_iff_ne.2 h
    have e1 : tk s r c = rfs (adv s r) 11 := by unfold tk tkIf; rw [if_neg (by rw [beq_iff_eq]; exact h)]
    rw [e1]
    generalize tok s r = x at *
    replace hP : Kp _ := ⟨hP⟩
    replace A1 : Kp _ := ⟨A1⟩
    clear H O e1 h
    go_enter Tryz.func92, Tryz.ntmps92
    go_wp2_with fail
    refine hP.out.mono ?_
    rintro e w1 ⟨rfl, T1⟩
    have hS := refuseR_any b s (adv s r) 11 w1 (A1.out w1 T1)
    replace hS : Kp _ := ⟨hS⟩
    replace T1 : Kp _ := ⟨T1⟩
    clear A1 O1
    go_wp2_with fail
    refine hS.out.mono ?_
    rintro e w2 ⟨rfl, T2⟩
    go_wp2_with fail
    first | go_end0 | refine bodyPost_ret (results_none rfl _ _ _) rfl ?_
    exact ⟨rfl, T1.out.trans T2⟩
end Go.Proofs.YtcnbifdlkalimabGreat
