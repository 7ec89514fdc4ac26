/-
  The walks of the document's own answer on what is let through (package sluiceref, P5), sixth part: Heights; for every file whose places are places.
-/
import Derived.Test.YtcnbifdlkalimaaGreatChk3
import Derived.Deep.RegionHeld
import Derived.Deep.Cut
import Derived.Deep.CutRange
namespace Go.Proofs.YtcnbifdlkalimaaGreat
open Go.RowKit Go.Deep
set_option linter.unusedVariables false

/-- the boxes that Heights lays: the unit, the heights, the marks -/
structure HS (n : Int) (t v c : ByteArray) (w wr : World) (h : Nat → Int) (m : Nat → Bool) : Prop where
  b : Below w.heap.size w wr
  o : Own wr w.heap.size [.int .i64 n, .string t, .string v, .string c, .int .i64 (half c)]
  rh : wr.rowIs (w.heap.size + 1) 3 ((half c).toNat + 1) (fun j => .int .i64 (h j))
  rm : wr.rowIs (w.heap.size + 2) 4 ((half c).toNat + 1) (fun j => .bool (m j))

theorem HS.step {n : Int} {t v c : ByteArray} {w wr w1 : World} {h : Nat → Int} {m : Nat → Bool} (H : HS n t v c w wr h m) (hb : Below wr.heap.size wr w1) : HS n t v c w w1 h m :=
  ⟨H.b.trans (hb.mono (Nat.le_of_lt H.o.lt)), H.o.step hb, H.rh.of_block (hb.block _ H.rh.lt), H.rm.of_block (hb.block _ H.rm.lt)⟩

theorem own_far {wr : World} {b : Nat} {vs : List Value} (h : Own wr b vs) (a : Addr) (v : Value) (hne : a.block ≠ b) : Own (wr.setCell a v) b vs := by
  refine ⟨by simpa using h.lt, fun i x hx => ?_, fun i x hx => ?_⟩
  · rw [World.cell?_setCell_other wr a ⟨b, i, none⟩ v (by intro e; exact hne (by rw [e]))]
    exact h.c i x hx
  · rw [World.frozen?_setCell]
    exact h.f i x hx

theorem HS.mark {n : Int} {t v c : ByteArray} {w wr : World} {h : Nat → Int} {m : Nat → Bool} (H : HS n t v c w wr h m) (j : Nat) : HS n t v c w (wr.setCell ⟨w.heap.size + 2, j, none⟩ (.bool true)) h (fun i => if i = j then true else m i) :=
  ⟨H.b.setCell (by simp) _, own_far H.o _ _ (by simp), H.rh.setOther (by simp) _, (H.rm.set j (.bool true)).congr (fun i _ => by split <;> rfl)⟩

theorem HS.lay {n : Int} {t v c : ByteArray} {w wr : World} {h : Nat → Int} {m : Nat → Bool} (H : HS n t v c w wr h m) (j : Nat) (x : Int) : HS n t v c w (wr.setCell ⟨w.heap.size + 1, j, none⟩ (.int .i64 x)) (fun i => if i = j then x else h i) m :=
  ⟨H.b.setCell (by simp) _, own_far H.o _ _ (by simp), (H.rh.set j (.int .i64 x)).congr (fun i _ => by split <;> rfl), H.rm.setOther (by simp) _⟩

theorem HS.begin (n : Int) (t v c : ByteArray) (w : World) : HS n t v c w (((w.alloc (.cells #[.int .i64 n, .string t, .string v, .string c, .int .i64 (half c)] 54)).alloc (.cells (madeCells #[.int .i64 0] ((half c).toNat + 1)) 3)).alloc (.cells ((madeCells #[.bool false] ((half c).toNat + 1)).setIfInBounds 0 (.bool true)) 4)) (fun _ => 0) (fun j => decide (j = 0)) := by
  refine ⟨(((Below.refl _ _).alloc (Nat.le_refl _) _).alloc (by simp) _).alloc (by simp; omega) _, ((Own.new5 w _ _ _ _ _ _).alloc _).alloc _, ?_, ?_⟩
  · have h := (World.rowIs_made (w.alloc (.cells #[.int .i64 n, .string t, .string v, .string c, .int .i64 (half c)] 54)) (.int .i64 0) ((half c).toNat + 1) 3).alloc (.cells ((madeCells #[.bool false] ((half c).toNat + 1)).setIfInBounds 0 (.bool true)) 4)
    simpa using h
  · have h := row_made_set ((w.alloc (.cells #[.int .i64 n, .string t, .string v, .string c, .int .i64 (half c)] 54)).alloc (.cells (madeCells #[.int .i64 0] ((half c).toNat + 1)) 3)) (.bool false) (.bool true) ((half c).toNat + 1) 0 4
    simp only [World.size_alloc] at h
    refine h.congr (fun j hj => ?_)
    by_cases e : j = 0
    · simp [e]
    · simp [e]

/-- .. and beside them a list of numbers that lies elsewhere -/
structure HL (n : Int) (t v c : ByteArray) (gn : Nat) (L : List Int) (w wr : World) (h : Nat → Int) (m : Nat → Bool) : Prop where
  s : HS n t v c w wr h m
  l : ∀ (p : Nat) (x : Int), L[p]? = some x → wr.cell? ⟨gn, p, none⟩ = some (.int .i64 x)
  g : gn < wr.heap.size
  ne : gn ≠ w.heap.size + 2 ∧ gn ≠ w.heap.size + 1

theorem HL.step {n : Int} {t v c : ByteArray} {gn : Nat} {L : List Int} {w wr w1 : World} {h : Nat → Int} {m : Nat → Bool} (H : HL n t v c gn L w wr h m) (hb : Below wr.heap.size wr w1) : HL n t v c gn L w w1 h m :=
  ⟨H.s.step hb, fun p x hx => (hb.cell (p := ⟨gn, p, none⟩) H.g).trans (H.l p x hx), Nat.lt_of_lt_of_le H.g hb.size, H.ne⟩

theorem HL.mark {n : Int} {t v c : ByteArray} {gn : Nat} {L : List Int} {w wr : World} {h : Nat → Int} {m : Nat → Bool} (H : HL n t v c gn L w wr h m) (j : Nat) : HL n t v c gn L w (wr.setCell ⟨w.heap.size + 2, j, none⟩ (.bool true)) h (fun i => if i = j then true else m i) :=
  ⟨H.s.mark j, fun p x hx => by rw [World.cell?_setCell_other wr ⟨w.heap.size + 2, j, none⟩ ⟨gn, p, none⟩ (.bool true) (by intro e; have e2 := congrArg Addr.block e; exact H.ne.1 e2.symm)]; exact H.l p x hx, by simpa using H.g, H.ne⟩

theorem HL.lay {n : Int} {t v c : ByteArray} {gn : Nat} {L : List Int} {w wr : World} {h : Nat → Int} {m : Nat → Bool} (H : HL n t v c gn L w wr h m) (j : Nat) (y : Int) : HL n t v c gn L w (wr.setCell ⟨w.heap.size + 1, j, none⟩ (.int .i64 y)) (fun i => if i = j then y else h i) m :=
  ⟨H.s.lay j y, fun p x hx => by rw [World.cell?_setCell_other wr ⟨w.heap.size + 1, j, none⟩ ⟨gn, p, none⟩ (.int .i64 y) (by intro e; have e2 := congrArg Addr.block e; exact H.ne.2 e2.symm)]; exact H.l p x hx, by simpa using H.g, H.ne⟩

theorem takes_at (n i : Int) (t v c : ByteArray) (w : World) (hc : c.size ≤ maxLen) (h0 : 0 ≤ i) (hi : i < half c) (h11 : bv c (2 * i) ≤ 11) :
    Calls Tryz.prog 50 #[.agg #[.int .i64 n, .string t, .string v, .string c, .int .i64 (half c)], .int .i64 i] w fun e w' => e = .returned (.int .i64 (takesAt c i)) ∧ Below w.heap.size w w' := takes_ref n i t v c w hc h0 hi h11
theorem gives_at (n i : Int) (t v c : ByteArray) (w : World) (hc : c.size ≤ maxLen) (h0 : 0 ≤ i) (hi : i < half c) (h11 : bv c (2 * i) ≤ 11) :
    Calls Tryz.prog 51 #[.agg #[.int .i64 n, .string t, .string v, .string c, .int .i64 (half c)], .int .i64 i] w fun e w' => e = .returned (.int .i64 (givesAt c i)) ∧ Below w.heap.size w w' := gives_ref n i t v c w hc h0 hi h11

theorem keep6 {w w' : World} {x0 x1 x2 x3 x4 y z : Value} {xn k2 : Nat} (hne : ¬ xn = k2) (h0 : w'.cell? ⟨w.heap.size, 0, none⟩ = some x0) (h1 : w'.cell? ⟨w.heap.size, 1, none⟩ = some x1) (h2 : w'.cell? ⟨w.heap.size, 2, none⟩ = some x2) (h3 : w'.cell? ⟨w.heap.size, 3, none⟩ = some x3) (h4 : w'.cell? ⟨w.heap.size, 4, none⟩ = some x4) (h5 : w'.cell? ⟨w.heap.size + 1, k2, none⟩ = some y) :
    (w'.setCell ⟨w.heap.size + 1, xn, none⟩ z).cell? ⟨w.heap.size, 0, none⟩ = some x0 ∧ (w'.setCell ⟨w.heap.size + 1, xn, none⟩ z).cell? ⟨w.heap.size, 1, none⟩ = some x1 ∧ (w'.setCell ⟨w.heap.size + 1, xn, none⟩ z).cell? ⟨w.heap.size, 2, none⟩ = some x2 ∧ (w'.setCell ⟨w.heap.size + 1, xn, none⟩ z).cell? ⟨w.heap.size, 3, none⟩ = some x3 ∧ (w'.setCell ⟨w.heap.size + 1, xn, none⟩ z).cell? ⟨w.heap.size, 4, none⟩ = some x4 ∧ (w'.setCell ⟨w.heap.size + 1, xn, none⟩ z).cell? ⟨w.heap.size + 1, k2, none⟩ = some y := by
  have far : ∀ i : Nat, (⟨w.heap.size + 1, xn, none⟩ : Addr) ≠ ⟨w.heap.size, i, none⟩ := fun i e => by have e2 := congrArg Addr.block e; simp at e2
  have near : (⟨w.heap.size + 1, xn, none⟩ : Addr) ≠ ⟨w.heap.size + 1, k2, none⟩ := fun e => hne (congrArg Addr.off e)
  refine ⟨?_, ?_, ?_, ?_, ?_, ?_⟩
  · rw [World.cell?_setCell_other w' _ _ z (far 0)]; exact h0
  · rw [World.cell?_setCell_other w' _ _ z (far 1)]; exact h1
  · rw [World.cell?_setCell_other w' _ _ z (far 2)]; exact h2
  · rw [World.cell?_setCell_other w' _ _ z (far 3)]; exact h3
  · rw [World.cell?_setCell_other w' _ _ z (far 4)]; exact h4
  · rw [World.cell?_setCell_other w' _ _ z near]; exact h5

theorem hspread_begin (c : ByteArray) : HSpread c (fun j => decide (j = 0)) (fun _ => 0) := by
  have hcnt : ∀ k : Nat, cntF (fun j => decide (j = 0)) k ≤ k := fun k => by
    induction k with
    | zero => simp [cntF]
    | succ k ih => simp only [cntF]; split <;> omega
  refine ⟨fun j hj hm => ?_, ⟨by simp, rfl⟩, fun f hf j hj hm => ?_, fun j hj => ?_⟩
  · have : j = 0 := of_decide_eq_true hm
    subst this
    exact Reach.start rfl (by omega)
  · have : j = 0 := of_decide_eq_true hm
    subst this
    exact hf.zero.symm
  · have := hcnt ((half c).toNat + 1)
    omega

/-- what Heights answers -/
def HRes (c : ByteArray) (w : World) (e : Ending) (w' : World) : Prop :=
  ∃ ok : Bool, e = .returned (.tuple #[.slice (some ⟨w.heap.size + 1, 0, none⟩) ((half c).toNat + 1) ((half c).toNat + 1), .bool ok]) ∧ ∃ h : Nat → Int, w'.rowIs (w.heap.size + 1) 3 ((half c).toNat + 1) (fun j => .int .i64 (h j)) ∧ Kp ((ok = true → HeightsOk c h) ∧ (ok = false → ¬ ∃ f, HeightsOk c f)) ∧ Below w.heap.size w w'

set_option maxRecDepth 100000 in
set_option maxHeartbeats 12800000 in
theorem heights_ref (n : Int) (gl : Nat) (lv : Nat → Bool) (t v c : ByteArray) (w : World) (hc : c.size ≤ maxLen) (hk : half c ≤ 200) (hr : Kp (Ranged c)) (hop : Kp (∀ i : Int, 0 ≤ i → i < half c → bv c (2 * i) ≤ 11)) (hgl : w.rowIs gl 4 ((half c).toNat + 1) (fun j => .bool (lv j))) (hlv : Kp (∀ j : Nat, (j : Int) ≤ half c → (lv j = true ↔ Live c j))) :
    Calls Tryz.prog 19 #[.agg #[.int .i64 n, .string t, .string v, .string c, .int .i64 (half c)], .slice (some ⟨gl, 0, none⟩) ((half c).toNat + 1) ((half c).toNat + 1)] w fun e w' =>
      HRes c w e w' := by
  have hh := (half_bd c).1
  have hgll := hgl.lt
  have hmkB := run_make_row' (P := Tryz.prog) 57 4 (.bool false) 1 Tryz.underlying57 info_bool rfl .i64 .i64 ((half c).toNat + 1) (by omega) (by omega)
  rw [show ((((half c).toNat + 1) : Nat) : Int) = half c + 1 from by omega] at hmkB
  have hmkI := run_make_row' (P := Tryz.prog) 60 3 (.int .i64 0) 8 Tryz.underlying60 info_int rfl .i64 .i64 ((half c).toNat + 1) (by omega) (by omega)
  rw [show ((((half c).toNat + 1) : Nat) : Int) = half c + 1 from by omega] at hmkI
  have hg0 := made_get (.bool false) ((half c).toNat + 1) 0 (by omega)
  replace hgl : Kp _ := ⟨hgl⟩
  go_enter Tryz.func19, Tryz.ntmps19
  go_wp2_with fail
  clear hmkB hmkI hg0
  go_loopg [8] (2 * cntF (fun j => decide (j = 0)) ((half c).toNat + 1) + 1) (fun g a wr => ∃ (ag : Bool) (m : Nat → Bool) (h : Nat → Int), a = .bool ag ∧ g = 2 * cntF m ((half c).toNat + 1) + (if ag then 1 else 0) ∧ HS n t v c w wr h m ∧ Kp (HSpread c m h) ∧ Kp (ag = false → ClosedTo c (-1) m (half c).toNat))
  case atStart => exact ⟨true, _, _, rfl, by simp, HS.begin n t v c w, ⟨hspread_begin c⟩, ⟨fun h => absurd h (by simp)⟩⟩
  case round =>
    obtain ⟨ag, m, h, rfl, hg, hS, hSp, hcl⟩ := hrel
    replace hg : Kp _ := ⟨hg⟩
    have ol := hS.o.lt
    have q0 := hS.o.c 0 _ rfl
    have q1 := hS.o.c 1 _ rfl
    have q2 := hS.o.c 2 _ rfl
    have q3 := hS.o.c 3 _ rfl
    have q4 := hS.o.c 4 _ rfl
    cases ag
    · have hlive : Kp (∀ j : Nat, (j : Int) ≤ half c → (m j = true ↔ Live c j)) := ⟨hspread_done hr.out hSp.out (hcl.out (by simp))⟩
      clear hcl hg
      go_wp2_with fail
      go_loopw [12] (fun i wr => ∃ k : Nat, k ≤ ((half c).toNat + 1) ∧ i = .int .i64 k ∧ HS n t v c w wr h m ∧ Kp (∀ j : Nat, j < k → Live c j → HAt c h j)) (fun i _ => ((half c).toNat + 1) - (intOf i).toNat)
      case atStart => exact ⟨0, by omega, rfl, hS, ⟨fun j hj => absurd hj (by omega)⟩⟩
      case round =>
        clear hS ol q0 q1 q2 q3 q4
        obtain ⟨k, hkn, rfl, hS, hall⟩ := hrel
        have ol := hS.o.lt
        have q0 := hS.o.c 0 _ rfl
        have q1 := hS.o.c 1 _ rfl
        have q2 := hS.o.c 2 _ rfl
        have q3 := hS.o.c 3 _ rfl
        have q4 := hS.o.c 4 _ rfl
        by_cases hlt : (k : Int) ≤ half c
        · have hlc : wr.cell? ⟨gl, k, none⟩ = some (.bool (lv k)) := by rw [hS.b.cell (p := ⟨gl, k, none⟩) hgll]; exact hgl.out.cell (by omega)
          have hkb : (k : Int) < half c + 1 := by omega
          have hmore : Kp ((Live c k → HAt c h k) → ∀ j : Nat, j < k + 1 → Live c j → HAt c h j) := ⟨fun hx j hj hl => by
            by_cases e : j = k
            · subst e; exact hx hl
            · exact hall.out j (by omega) hl⟩
          cases hb : lv k
          · rw [hb] at hlc
            have hnl : Kp (¬ Live c k) := ⟨fun hl => by rw [(hlv.out k hlt).2 hl] at hb; exact absurd hb (by simp)⟩
            clear hb
            go_wp2
            go_roundw
            case rel => exact ⟨k + 1, by omega, by go_num, hS, ⟨hmore.out (fun hl => absurd hl hnl.out)⟩⟩
            case measure => simp [intOf]; omega
          · rw [hb] at hlc
            have hl : Kp (Live c k) := ⟨(hlv.out k hlt).1 hb⟩
            clear hb
            have hhc := hS.rh.cell (i := k) (by omega)
            have hAt : Kp (HAt c h k ↔ ((0 ≤ h k ∧ h k ≤ 8) ∧ ((k : Int) = half c → h k = 0) ∧ ((k : Int) < half c → takesAt c k ≤ h k ∧ ∀ j : Int, j ∈ nxt c k → h j.toNat = h k - takesAt c k + givesAt c k))) := ⟨Iff.rfl⟩
            by_cases c1 : h k < 0
            · have hbad : Kp (¬ HAt c h k) := ⟨fun x => by have := (hAt.out.1 x).1; omega⟩
              go_wp2
              go_ret2
              exact ⟨false, rfl, h, hS.rh, ⟨⟨fun h => absurd h (by simp), fun _ => no_heights hr.out hSp.out hlive.out (by omega) hl.out hbad.out⟩⟩, hS.b⟩
            · by_cases c2 : 8 < h k
              · have hbad : Kp (¬ HAt c h k) := ⟨fun x => by have := (hAt.out.1 x).1; omega⟩
                go_wp2
                go_ret2
                exact ⟨false, rfl, h, hS.rh, ⟨⟨fun h => absurd h (by simp), fun _ => no_heights hr.out hSp.out hlive.out (by omega) hl.out hbad.out⟩⟩, hS.b⟩
              · by_cases c3 : (k : Int) = half c
                · have k3 : ((k : Int) == half c) = true := beq_iff_eq.2 c3
                  by_cases c4 : h k = 0
                  · have k4 : (h k != 0) = false := by rw [c4]; rfl
                    have hok : Kp (HAt c h k) := ⟨hAt.out.2 ⟨by omega, fun _ => c4, fun hx => by omega⟩⟩
                    clear c3 c4
                    go_wp2
                    go_roundw
                    case rel => exact ⟨k + 1, by omega, by go_num, hS, ⟨hmore.out (fun _ => hok.out)⟩⟩
                    case measure => simp [intOf]; omega
                  · have k4 : (h k != 0) = true := bne_iff_ne.2 c4
                    have hbad : Kp (¬ HAt c h k) := ⟨fun x => c4 ((hAt.out.1 x).2.1 c3)⟩
                    clear c3 c4
                    go_wp2
                    go_ret2
                    exact ⟨false, rfl, h, hS.rh, ⟨⟨fun h => absurd h (by simp), fun _ => no_heights hr.out hSp.out hlive.out (by omega) hl.out hbad.out⟩⟩, hS.b⟩
                · have k3 : ((k : Int) == half c) = false := beq_eq_false_iff_ne.2 c3
                  have hkl : (k : Int) < half c := by omega
                  have hop2 : Kp _ := ⟨hop.out k (by omega) hkl⟩
                  obtain ⟨⟨d1, d2⟩, ⟨d3, d4⟩, d5⟩ := delta_bd c k
                  go_upto_region 26 with fail
                  clear hlc
                  go_region_held (fun w' => w'.cell? ⟨w.heap.size, 0, none⟩ = some (.int .i64 n) ∧ w'.cell? ⟨w.heap.size, 1, none⟩ = some (.string t) ∧ w'.cell? ⟨w.heap.size, 2, none⟩ = some (.string v) ∧ w'.cell? ⟨w.heap.size, 3, none⟩ = some (.string c) ∧ w'.cell? ⟨w.heap.size, 4, none⟩ = some (.int .i64 (half c)) ∧ w'.cell? ⟨w.heap.size + 1, k, none⟩ = some (.int .i64 (h k))) (go_keep) ((go_at_call 50; refine (takes_at n k t v c _ hc (by omega) hkl hop2.out).mono ?_; rintro e w4 ⟨rfl, hb4⟩; have hS4 : HS n t v c w w4 h m := hS.step ((Below.refl _ _).drew.trans hb4); have a0 := hS4.o.c 0 _ rfl; have a1 := hS4.o.c 1 _ rfl; have a2 := hS4.o.c 2 _ rfl; have a3 := hS4.o.c 3 _ rfl; have a4 := hS4.o.c 4 _ rfl; have a5 := hS4.rh.cell (i := k) (by omega)))
                  all_goals
                    clear ol q0 q1 q2 q3 q4 a0 a1 a2 a3 a4 a5 hhc
                    by_cases c5 : h k < takesAt c k
                    · have hbad : Kp (¬ HAt c h k) := ⟨fun x => by have := ((hAt.out.1 x).2.2 hkl).1; omega⟩
                      go_wp2
                      go_ret2
                      exact ⟨false, rfl, h, hS4.rh, ⟨⟨fun h => absurd h (by simp), fun _ => no_heights hr.out hSp.out hlive.out (by omega) hl.out hbad.out⟩⟩, hS4.b⟩
                    · have ol := hS4.o.lt
                      have q0 := hS4.o.c 0 _ rfl
                      have q1 := hS4.o.c 1 _ rfl
                      have q2 := hS4.o.c 2 _ rfl
                      have q3 := hS4.o.c 3 _ rfl
                      have q4 := hS4.o.c 4 _ rfl
                      go_wp2_with fail
                      refine (next_ref n k t v c _ hc (by omega) hkl hk).mono ?_
                      rintro e w6 ⟨r, rfl, hI, hb6⟩
                      have hwl := hS4.rm.lt
                      have hS6 := hS4.step hb6
                      obtain ⟨⟨gn, cap, rfl, hgB, hgl2, hcells⟩⟩ := hI
                      have hH : HL n t v c gn (nxt c k) w w6 h m := ⟨hS6, hcells, hgl2, by omega⟩
                      clear hb4 hb6 hwl hS4 hS6 hcells hgl2 hgB ol q0 q1 q2 q3 q4
                      have hrg : Kp (∀ (q : Nat) (x : Int), (nxt c k)[q]? = some x → 0 ≤ x ∧ x ≤ half c ∧ x ∈ nxt c k) := ⟨fun q x hx => by
                        have hm := List.mem_of_getElem? hx
                        have := hr.out k x ⟨by omega, hkl, hm⟩
                        exact ⟨this.1, this.2, hm⟩⟩
                      have hll : Kp (∀ j : Int, j ∈ nxt c k → ∃ q, q < (nxt c k).length ∧ (nxt c k)[q]? = some j) := ⟨fun j hj => by
                        obtain ⟨q, hq, he⟩ := List.getElem_of_mem hj
                        exact ⟨q, hq, by rw [List.getElem?_eq_getElem hq, he]⟩⟩
                      have hlen := nxt_len c k
                      generalize hL : nxt c k = L at *
                      replace hL : Kp _ := ⟨hL⟩
                      go_wp2_with fail
                      go_loopw [123] (fun qv wr => ∃ q : Nat, q ≤ L.length ∧ qv = .int .i64 q ∧ HL n t v c gn L w wr h m ∧ Kp (∀ (p : Nat) (x : Int), p < q → L[p]? = some x → h x.toNat = h k - takesAt c k + givesAt c k)) (fun qv _ => L.length - (intOf qv).toNat)
                      case atStart => exact ⟨0, by omega, rfl, hH, ⟨fun p x hp => absurd hp (by omega)⟩⟩
                      case round =>
                        clear hH
                        obtain ⟨q, hq, rfl, hH, hall2⟩ := hrel
                        have ol := hH.s.o.lt
                        have q0 := hH.s.o.c 0 _ rfl
                        have q1 := hH.s.o.c 1 _ rfl
                        have q2 := hH.s.o.c 2 _ rfl
                        have q3 := hH.s.o.c 3 _ rfl
                        have q4 := hH.s.o.c 4 _ rfl
                        by_cases hlt3 : q < L.length
                        · obtain ⟨x, hx⟩ : ∃ x, L[q]? = some x := ⟨_, List.getElem?_eq_getElem hlt3⟩
                          have hcx := hH.l q x hx
                          obtain ⟨hx0, hx1, hx2⟩ := hrg.out q x hx
                          obtain ⟨xn, rfl⟩ := Int.eq_ofNat_of_zero_le hx0
                          replace hx : Kp _ := ⟨hx⟩
                          replace hx2 : Kp ((xn : Int) ∈ L) := ⟨hx2⟩
                          have wA : IntKind.i64.wrap (h k - takesAt c k) = h k - takesAt c k := by rw [IntKind.wrap_i64]; omega
                          have wB : IntKind.i64.wrap (h k - takesAt c k + givesAt c k) = h k - takesAt c k + givesAt c k := by rw [IntKind.wrap_i64]; omega
                          have hxb : (xn : Int) < half c + 1 := by omega
                          have hq3 : (q : Int) < (L.length : Int) := by omega
                          have z5 := hH.s.rh.cell (i := k) (by omega)
                          have z6 := hH.s.rh.cell (i := xn) (by omega)
                          go_upto_region 31 with fail
                          clear hcx
                          go_region_held (fun w' => w'.cell? ⟨w.heap.size, 0, none⟩ = some (.int .i64 n) ∧ w'.cell? ⟨w.heap.size, 1, none⟩ = some (.string t) ∧ w'.cell? ⟨w.heap.size, 2, none⟩ = some (.string v) ∧ w'.cell? ⟨w.heap.size, 3, none⟩ = some (.string c) ∧ w'.cell? ⟨w.heap.size, 4, none⟩ = some (.int .i64 (half c)) ∧ w'.cell? ⟨w.heap.size + 1, k, none⟩ = some (.int .i64 (h k)) ∧ w'.cell? ⟨w.heap.size + 1, xn, none⟩ = some (.int .i64 (h xn))) (go_keep) (first | (go_at_call 50; refine (takes_at n k t v c _ hc (by omega) hkl hop2.out).mono ?_; rintro e w4 ⟨rfl, hb4⟩; have hL4 : HL n t v c gn L w w4 h m := (by first | exact hH.step ((Below.refl _ _).drew.trans hb4) | exact hL5.step hb4); have a0 := hL4.s.o.c 0 _ rfl; have a1 := hL4.s.o.c 1 _ rfl; have a2 := hL4.s.o.c 2 _ rfl; have a3 := hL4.s.o.c 3 _ rfl; have a4 := hL4.s.o.c 4 _ rfl; have a5 := hL4.s.rh.cell (i := k) (by omega); have a6 := hL4.s.rh.cell (i := xn) (by omega)) | (go_at_call 51; refine (gives_at n k t v c _ hc (by omega) hkl hop2.out).mono ?_; rintro e w5 ⟨rfl, hb5⟩; have hL5 : HL n t v c gn L w w5 h m := (by first | exact hH.step ((Below.refl _ _).drew.trans hb5) | exact hL4.step hb5); have a0 := hL5.s.o.c 0 _ rfl; have a1 := hL5.s.o.c 1 _ rfl; have a2 := hL5.s.o.c 2 _ rfl; have a3 := hL5.s.o.c 3 _ rfl; have a4 := hL5.s.o.c 4 _ rfl; have a5 := hL5.s.rh.cell (i := k) (by omega); have a6 := hL5.s.rh.cell (i := xn) (by omega)))
                          all_goals
                            clear ol q0 q1 q2 q3 q4 a0 a1 a2 a3 a4 a5 a6 z5 z6
                            by_cases c6 : h xn = h k - takesAt c k + givesAt c k
                            · have k6 : (h xn != h k - takesAt c k + givesAt c k) = false := by rw [c6]; simp
                              have hall3 : Kp (∀ (p : Nat) (x : Int), p < q + 1 → L[p]? = some x → h x.toNat = h k - takesAt c k + givesAt c k) := ⟨fun p x hp hpx => by
                                by_cases e : p = q
                                · subst e
                                  rw [hx.out] at hpx
                                  simp only [Option.some.injEq] at hpx
                                  rw [← hpx, Int.toNat_natCast]
                                  exact c6
                                · exact hall2.out p x (by omega) hpx⟩
                              clear c6
                              go_wp2
                              go_roundw
                              case rel => first | exact ⟨q + 1, by omega, by go_num, hL5, hall3⟩ | exact ⟨q + 1, by omega, by go_num, hL4, hall3⟩
                              case measure => simp [intOf]; omega
                            · have k6 : (h xn != h k - takesAt c k + givesAt c k) = true := bne_iff_ne.2 c6
                              have hbad : Kp (¬ HAt c h k) := ⟨fun x => by
                                have h1 := ((hAt.out.1 x).2.2 hkl).2 xn hx2.out
                                rw [Int.toNat_natCast] at h1
                                exact c6 h1⟩
                              clear c6
                              go_wp2
                              go_ret2
                              first | exact ⟨false, rfl, h, hL5.s.rh, ⟨⟨fun h => absurd h (by simp), fun _ => no_heights hr.out hSp.out hlive.out (by omega) hl.out hbad.out⟩⟩, hL5.s.b⟩ | exact ⟨false, rfl, h, hL4.s.rh, ⟨⟨fun h => absurd h (by simp), fun _ => no_heights hr.out hSp.out hlive.out (by omega) hl.out hbad.out⟩⟩, hL4.s.b⟩
                        · have hok : Kp (HAt c h k) := ⟨hAt.out.2 ⟨by omega, fun hx => by omega, fun _ => ⟨by omega, fun j hj => by
                            obtain ⟨p, hp, hpx⟩ := hll.out j hj
                            exact hall2.out p j (by omega) hpx⟩⟩⟩
                          go_wp2
                          go_roundw
                          case rel => exact ⟨k + 1, by omega, by go_num, hH.s, ⟨hmore.out (fun _ => hok.out)⟩⟩
                          case measure => simp [intOf]; omega
        · have hfin : Kp (HeightsOk c h) := ⟨heights_of hSp.out (fun i hi hl => hall.out i (by omega) hl)⟩
          go_wp2
          go_ret2
          exact ⟨true, rfl, h, hS.rh, ⟨⟨fun _ => hfin.out, fun h => absurd h (by simp)⟩⟩, hS.b⟩
    · clear hcl
      go_wp2_with fail
      go_loopw [8, 9] (fun a i wr => ∃ (ag : Bool) (k : Nat) (m' : Nat → Bool) (h' : Nat → Int), a = .bool ag ∧ (k : Int) ≤ half c ∧ i = .int .i64 k ∧ HS n t v c w wr h' m' ∧ Kp (HSpread c m' h') ∧ Kp ((ag = false → m' = m ∧ ClosedTo c (-1) m k) ∧ (ag = true → cntF m' ((half c).toNat + 1) < cntF m ((half c).toNat + 1)))) (fun _ i _ => (half c).toNat - (intOf i).toNat)
      case atStart => exact ⟨false, 0, m, h, rfl, by omega, rfl, hS, hSp, ⟨⟨fun _ => ⟨rfl, fun i hi => absurd hi (by omega)⟩, fun h => absurd h (by simp)⟩⟩⟩
      case round =>
        clear hS hSp ol q0 q1 q2 q3 q4
        obtain ⟨ag, k2, m', h', rfl, hk2, rfl, hS, hSp, hJ⟩ := hrel
        have ol := hS.o.lt
        have q0 := hS.o.c 0 _ rfl
        have q1 := hS.o.c 1 _ rfl
        have q2 := hS.o.c 2 _ rfl
        have q3 := hS.o.c 3 _ rfl
        have q4 := hS.o.c 4 _ rfl
        by_cases hlt2 : (k2 : Int) < half c
        · have hmc := hS.rm.cell (i := k2) (by omega)
          have hkb : (k2 : Int) < half c + 1 := by omega
          cases hb : m' k2
          · rw [hb] at hmc
            have hJ2 : Kp ((ag = false → m' = m ∧ ClosedTo c (-1) m (k2 + 1)) ∧ (ag = true → cntF m' ((half c).toNat + 1) < cntF m ((half c).toNat + 1))) := ⟨⟨fun h => ⟨(hJ.out.1 h).1, fun i hi hm j hj hw => by
              by_cases e : i = k2
              · subst e
                rw [(hJ.out.1 h).1] at hb
                rw [hb] at hm
                exact absurd hm (by simp)
              · exact (hJ.out.1 h).2 i (by omega) hm j hj hw⟩, hJ.out.2⟩⟩
            go_wp2
            go_roundw
            case rel => exact ⟨ag, k2 + 1, m', h', rfl, by omega, by go_num, hS, hSp, hJ2⟩
            case measure => simp [intOf]; omega
          · rw [hb] at hmc
            replace hb : Kp _ := ⟨hb⟩
            go_wp2_with fail
            refine (next_ref n k2 t v c _ hc (by omega) hlt2 hk).mono ?_
            rintro e w1 ⟨r, rfl, hI, hb1⟩
            have hwl := hS.rm.lt
            replace hS := hS.step hb1
            obtain ⟨⟨gn, cap, rfl, hgB, hgl2, hcells⟩⟩ := hI
            have hgne : gn ≠ w.heap.size + 2 ∧ gn ≠ w.heap.size + 1 := by omega
            clear hb1 hwl hmc ol q0 q1 q2 q3 q4
            have hrg : Kp (∀ (q : Nat) (x : Int), (nxt c k2)[q]? = some x → 0 ≤ x ∧ x ≤ half c ∧ x ∈ nxt c k2) := ⟨fun q x hx => by
              have hm := List.mem_of_getElem? hx
              have := hr.out k2 x ⟨by omega, hlt2, hm⟩
              exact ⟨this.1, this.2, hm⟩⟩
            have hll : Kp (∀ j : Int, j ∈ nxt c k2 → ∃ q, q < (nxt c k2).length ∧ (nxt c k2)[q]? = some j) := ⟨fun j hj => by
              obtain ⟨q, hq, he⟩ := List.getElem_of_mem hj
              exact ⟨q, hq, by rw [List.getElem?_eq_getElem hq, he]⟩⟩
            have hlen := nxt_len c k2
            have hop2 : Kp _ := ⟨hop.out k2 (by omega) hlt2⟩
            obtain ⟨⟨d1, d2⟩, ⟨d3, d4⟩, d5⟩ := delta_bd c k2
            generalize hL : nxt c k2 = L at *
            replace hL : Kp _ := ⟨hL⟩
            replace hcells : Kp _ := ⟨hcells⟩
            have hq4 := hS.o.lt
            go_wp2_with fail
            go_loopw [8, 41] (fun a qv wr => ∃ (ag : Bool) (q : Nat) (m2 : Nat → Bool) (h2 : Nat → Int), a = .bool ag ∧ q ≤ L.length ∧ qv = .int .i64 q ∧ HS n t v c w wr h2 m2 ∧ Kp (HSpread c m2 h2) ∧ Kp (m2 k2 = true) ∧ Kp ((ag = false → m2 = m ∧ ClosedTo c (-1) m k2 ∧ ∀ (p : Nat) (x : Int), p < q → L[p]? = some x → m x.toNat = true) ∧ (ag = true → cntF m2 ((half c).toNat + 1) < cntF m ((half c).toNat + 1))) ∧ Kp (∀ (p : Nat) (x : Int), L[p]? = some x → wr.cell? ⟨gn, p, none⟩ = some (.int .i64 x)) ∧ gn < wr.heap.size) (fun _ qv _ => L.length - (intOf qv).toNat)
            case atStart => exact ⟨ag, 0, m', h', rfl, by omega, rfl, hS, hSp, hb, ⟨⟨fun h => ⟨(hJ.out.1 h).1, (hJ.out.1 h).2, fun p x hp => absurd hp (by omega)⟩, hJ.out.2⟩⟩, hcells, hgl2⟩
            case round =>
              clear hS hSp hb hJ hcells hq4 hgl2
              obtain ⟨ag, q, m2, h2, rfl, hq, rfl, hS, hSp, hb, hJ, hcells, hgl2⟩ := hrel
              have ol := hS.o.lt
              have q0 := hS.o.c 0 _ rfl
              have q1 := hS.o.c 1 _ rfl
              have q2 := hS.o.c 2 _ rfl
              have q3 := hS.o.c 3 _ rfl
              have q4 := hS.o.c 4 _ rfl
              by_cases hlt3 : q < L.length
              · obtain ⟨x, hx⟩ : ∃ x, L[q]? = some x := ⟨_, List.getElem?_eq_getElem hlt3⟩
                have hcx := hcells.out q x hx
                obtain ⟨hx0, hx1, hx2⟩ := hrg.out q x hx
                obtain ⟨xn, rfl⟩ := Int.eq_ofNat_of_zero_le hx0
                replace hx : Kp _ := ⟨hx⟩
                have hmx := hS.rm.cell (i := xn) (by omega)
                have hfx := hS.rm.frozen xn
                have hxb : (xn : Int) < half c + 1 := by omega
                have hq3 : (q : Int) < (L.length : Int) := by omega
                replace hx2 : Kp ((xn : Int) ∈ nxt c k2) := ⟨by rw [hL.out]; exact hx2⟩
                cases hm : m2 xn
                · rw [hm] at hmx
                  have hsm := hSp.out.small k2 (by omega)
                  have hcn := cntF_set (k := ((half c).toNat + 1)) (j := xn) (by omega) hm
                  have hbd1 : -201 ≤ h2 k2 := by omega
                  have hbd2 : h2 k2 ≤ 201 := by omega
                  clear hsm hcn
                  have hLm := HL.mark (n := n) (t := t) (v := v) (c := c) ⟨hS, hcells.out, hgl2, hgne⟩ xn
                  have hSp2 : Kp (HSpread c (fun x => if x = xn then true else m2 x) (fun x => if x = xn then h2 k2 - takesAt c k2 + givesAt c k2 else h2 x)) := ⟨hspread_more hr.out hSp.out hlt2 hb.out hx2.out hm⟩
                  have hb2 : Kp ((fun x => if x = xn then true else m2 x) k2 = true) := ⟨by simp [hb.out]⟩
                  have hJ2 : Kp (cntF (fun x => if x = xn then true else m2 x) ((half c).toNat + 1) < cntF m ((half c).toNat + 1)) := ⟨by
                    have h1 := cntF_set (k := ((half c).toNat + 1)) (j := xn) (by omega) hm
                    cases ag with
                    | false => rw [(hJ.out.1 rfl).1] at h1 ⊢; omega
                    | true => have := hJ.out.2 rfl; omega⟩
                  have e0 := hLm.s.o.c 0 _ rfl
                  have e1 := hLm.s.o.c 1 _ rfl
                  have e2 := hLm.s.o.c 2 _ rfl
                  have e3 := hLm.s.o.c 3 _ rfl
                  have e4 := hLm.s.o.c 4 _ rfl
                  have e5 := hLm.s.rh.cell (i := k2) (by omega)
                  have hnek : ¬ xn = k2 := fun e => by rw [e, hb.out] at hm; exact absurd hm (by simp)
                  clear hJ hb hSp hcells hm
                  go_upto_region 16 with fail
                  clear ol q0 q1 q2 q3 q4 hmx hfx hcx
                  go_region_held (fun w' => w'.cell? ⟨w.heap.size, 0, none⟩ = some (.int .i64 n) ∧ w'.cell? ⟨w.heap.size, 1, none⟩ = some (.string t) ∧ w'.cell? ⟨w.heap.size, 2, none⟩ = some (.string v) ∧ w'.cell? ⟨w.heap.size, 3, none⟩ = some (.string c) ∧ w'.cell? ⟨w.heap.size, 4, none⟩ = some (.int .i64 (half c)) ∧ w'.cell? ⟨w.heap.size + 1, k2, none⟩ = some (.int .i64 (h2 k2))) (first | exact keep6 hnek a0 a1 a2 a3 a4 a5 | go_keep) (first | (go_at_call 50; refine (takes_at n k2 t v c _ hc (by omega) hlt2 hop2.out).mono ?_; rintro e w4 ⟨rfl, hb4⟩; have hL4 : HL n t v c gn L w w4 h2 (fun x => if x = xn then true else m2 x) := (by first | exact hLm.step ((Below.refl _ _).drew.trans hb4) | exact hL5.step hb4); have a0 := hL4.s.o.c 0 _ rfl; have a1 := hL4.s.o.c 1 _ rfl; have a2 := hL4.s.o.c 2 _ rfl; have a3 := hL4.s.o.c 3 _ rfl; have a4 := hL4.s.o.c 4 _ rfl; have a5 := hL4.s.rh.cell (i := k2) (by omega); have a6 := hL4.s.rh.cell (i := xn) (by omega); have a7 := hL4.s.rh.frozen xn) | (go_at_call 51; refine (gives_at n k2 t v c _ hc (by omega) hlt2 hop2.out).mono ?_; rintro e w5 ⟨rfl, hb5⟩; have hL5 : HL n t v c gn L w w5 h2 (fun x => if x = xn then true else m2 x) := (by first | exact hLm.step ((Below.refl _ _).drew.trans hb5) | exact hL4.step hb5); have a0 := hL5.s.o.c 0 _ rfl; have a1 := hL5.s.o.c 1 _ rfl; have a2 := hL5.s.o.c 2 _ rfl; have a3 := hL5.s.o.c 3 _ rfl; have a4 := hL5.s.o.c 4 _ rfl; have a5 := hL5.s.rh.cell (i := k2) (by omega); have a6 := hL5.s.rh.cell (i := xn) (by omega); have a7 := hL5.s.rh.frozen xn))
                  all_goals
                    go_wp2
                    go_roundw
                    case rel => first | exact ⟨true, q + 1, _, _, rfl, by omega, by go_num, (hL5.lay xn _).s, hSp2, hb2, ⟨⟨fun h => absurd h (by simp), fun _ => hJ2.out⟩⟩, ⟨(hL5.lay xn _).l⟩, (hL5.lay xn _).g⟩ | exact ⟨true, q + 1, _, _, rfl, by omega, by go_num, (hL4.lay xn _).s, hSp2, hb2, ⟨⟨fun h => absurd h (by simp), fun _ => hJ2.out⟩⟩, ⟨(hL4.lay xn _).l⟩, (hL4.lay xn _).g⟩
                    case measure => simp [intOf]; omega
                · rw [hm] at hmx
                  have hJ2 : Kp ((ag = false → m2 = m ∧ ClosedTo c (-1) m k2 ∧ ∀ (p : Nat) (x : Int), p < q + 1 → L[p]? = some x → m x.toNat = true) ∧ (ag = true → cntF m2 ((half c).toNat + 1) < cntF m ((half c).toNat + 1))) := ⟨⟨fun h => ⟨(hJ.out.1 h).1, (hJ.out.1 h).2.1, fun p x hp hpx => by
                    by_cases e : p = q
                    · subst e
                      rw [hx.out] at hpx
                      simp only [Option.some.injEq] at hpx
                      rw [← hpx, Int.toNat_natCast, ← (hJ.out.1 h).1]
                      exact hm
                    · exact (hJ.out.1 h).2.2 p x (by omega) hpx⟩, hJ.out.2⟩⟩
                  clear hm
                  go_wp2
                  go_roundw
                  case rel => exact ⟨ag, q + 1, m2, h2, rfl, by omega, by go_num, hS, hSp, hb, hJ2, hcells, hgl2⟩
                  case measure => simp [intOf]; omega
              · have hJ2 : Kp ((ag = false → m2 = m ∧ ClosedTo c (-1) m (k2 + 1)) ∧ (ag = true → cntF m2 ((half c).toNat + 1) < cntF m ((half c).toNat + 1))) := ⟨⟨fun h => ⟨(hJ.out.1 h).1, fun i hi hm j hj hjw => by
                  by_cases e : i = k2
                  · subst e
                    rw [hL.out] at hj
                    obtain ⟨p, hp, hpx⟩ := hll.out j hj
                    exact (hJ.out.1 h).2.2 p j (by omega) hpx
                  · exact (hJ.out.1 h).2.1 i (by omega) hm j hj hjw⟩, hJ.out.2⟩⟩
                go_wp2
                go_roundw
                case rel => exact ⟨ag, k2 + 1, m2, h2, rfl, by omega, by go_num, hS, hSp, hJ2⟩
                case measure => simp [intOf]; omega
        · have hke : k2 = (half c).toNat := by omega
          have hcl2 : Kp (ag = false → ClosedTo c (-1) m' (half c).toNat) := ⟨fun h => by rw [(hJ.out.1 h).1, ← hke]; exact (hJ.out.1 h).2⟩
          have hdec : Kp (2 * cntF m' ((half c).toNat + 1) + (if ag then 1 else 0) < 2 * cntF m ((half c).toNat + 1) + 1) := ⟨by
            cases ag with
            | false => rw [(hJ.out.1 rfl).1]; simp
            | true => have := hJ.out.2 rfl; simp; omega⟩
          clear hke
          go_wp2
          go_roundg (2 * cntF m' ((half c).toNat + 1) + (if ag then 1 else 0))
          case measure => have h1 := hg.out; have h2 := hdec.out; simp at h1; omega
          case rel => exact ⟨ag, m', h', rfl, rfl, hS, hSp, hcl2⟩
end Go.Proofs.YtcnbifdlkalimaaGreat
