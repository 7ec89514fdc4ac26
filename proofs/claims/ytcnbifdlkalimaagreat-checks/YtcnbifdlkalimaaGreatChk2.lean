/-
  The walks of the document's own answer on what is let through (package sluiceref, P5), second part: From: what can be reached with a place walled up; for every file whose places are places.
-/
import Derived.Test.YtcnbifdlkalimaaGreatChk1
namespace Go.Proofs.YtcnbifdlkalimaaGreat
open Go.RowKit Go.Deep
set_option linter.unusedVariables false

/-- the boxes that From lays: the unit, and the marks -/
structure FromS (n : Int) (t v c : ByteArray) (w wr : World) (m : Nat → Bool) : Prop where
  b : Below w.heap.size w wr
  o : Own wr w.heap.size [.int .i64 n, .string t, .string v, .string c, .int .i64 (half c)]
  r : wr.rowIs (w.heap.size + 1) 4 ((half c).toNat + 1) (fun j => .bool (m j))

theorem FromS.step {n : Int} {t v c : ByteArray} {w wr w1 : World} {m : Nat → Bool} (h : FromS n t v c w wr m) (hb : Below wr.heap.size wr w1) : FromS n t v c w w1 m :=
  ⟨h.b.trans (hb.mono (Nat.le_of_lt h.o.lt)), h.o.step hb, h.r.of_block (hb.block _ h.r.lt)⟩

theorem FromS.set {n : Int} {t v c : ByteArray} {w wr : World} {m : Nat → Bool} (h : FromS n t v c w wr m) (j : Nat) (x : Bool) : FromS n t v c w (wr.setCell ⟨w.heap.size + 1, j, none⟩ (.bool x)) (fun i => if i = j then x else m i) := by
  refine ⟨h.b.setCell (by simp) _, ?_, (h.r.set j (.bool x)).congr (fun i _ => by split <;> rfl)⟩
  refine ⟨by simpa using h.o.lt, fun i v hv => ?_, fun i v hv => ?_⟩
  · rw [World.cell?_setCell_other wr ⟨w.heap.size + 1, j, none⟩ ⟨w.heap.size, i, none⟩ (.bool x) (by intro e; have e2 := congrArg Addr.block e; simp at e2)]
    exact h.o.c i v hv
  · rw [World.frozen?_setCell]
    exact h.o.f i v hv

theorem FromS.congr {n : Int} {t v c : ByteArray} {w wr : World} {m m' : Nat → Bool} (h : FromS n t v c w wr m) (e : ∀ j, j < ((half c).toNat + 1) → m j = m' j) : FromS n t v c w wr m' :=
  ⟨h.b, h.o, h.r.congr (fun i hi => by rw [e i hi])⟩

theorem FromS.begin (n : Int) (t v c : ByteArray) (w : World) : FromS n t v c w ((w.alloc (.cells #[.int .i64 n, .string t, .string v, .string c, .int .i64 (half c)] 54)).alloc (.cells (madeCells #[.bool false] ((half c).toNat + 1)) 4)) (fun _ => false) :=
  ⟨((Below.refl _ _).alloc (Nat.le_refl _) _).alloc (by simp) _, (Own.new5 w _ _ _ _ _ _).alloc _, by have h := World.rowIs_made (w.alloc (.cells #[.int .i64 n, .string t, .string v, .string c, .int .i64 (half c)] 54)) (.bool false) ((half c).toNat + 1) 4; simpa using h⟩

set_option maxHeartbeats 1600000 in
theorem from_ref (n wall : Int) (gm : Nat) (mk : Nat → Bool) (t v c : ByteArray) (w : World) (hc : c.size ≤ maxLen) (hk : half c ≤ 200) (hr : Kp (Ranged c)) (hgm : w.rowIs gm 4 ((half c).toNat + 1) (fun j => .bool (mk j))) :
    Calls Tryz.prog 17 #[.agg #[.int .i64 n, .string t, .string v, .string c, .int .i64 (half c)], .slice (some ⟨gm, 0, none⟩) ((half c).toNat + 1) ((half c).toNat + 1), .int .i64 wall] w fun e w' =>
      e = .returned (.slice (some ⟨w.heap.size + 1, 0, none⟩) ((half c).toNat + 1) ((half c).toNat + 1)) ∧ ∃ m : Nat → Bool, w'.rowIs (w.heap.size + 1) 4 ((half c).toNat + 1) (fun j => .bool (m j)) ∧ (∀ j : Nat, (j : Int) ≤ half c → (m j = true ↔ Reach c (Marked c mk) wall j)) ∧ Below w.heap.size w w' := by
  have hh := (half_bd c).1
  have hgl := hgm.lt
  have hmk := run_make_row' (P := Tryz.prog) 57 4 (.bool false) 1 Tryz.underlying57 info_bool rfl .i64 .i64 ((half c).toNat + 1) (by omega) (by omega)
  rw [show ((((half c).toNat + 1) : Nat) : Int) = half c + 1 from by omega] at hmk
  have hgmk : Kp (w.rowIs gm 4 ((half c).toNat + 1) (fun j => .bool (mk j))) := ⟨hgm⟩
  clear hgm
  go_enter Tryz.func17, Tryz.ntmps17
  go_wp2_with fail
  clear hmk
  go_loopw [8] (fun i wr => ∃ k : Nat, k ≤ ((half c).toNat + 1) ∧ i = .int .i64 k ∧ FromS n t v c w wr (fun j => decide (j < k) && (mk j && decide ((j : Int) ≠ wall)))) (fun i _ => ((half c).toNat + 1) - (intOf i).toNat)
  case atStart => exact ⟨0, by omega, rfl, (FromS.begin n t v c w).congr (fun j _ => by simp)⟩
  case round =>
    obtain ⟨k, hkn, rfl, hS⟩ := hrel
    have ol := hS.o.lt
    have q0 := hS.o.c 0 _ rfl
    have q1 := hS.o.c 1 _ rfl
    have q2 := hS.o.c 2 _ rfl
    have q3 := hS.o.c 3 _ rfl
    have q4 := hS.o.c 4 _ rfl
    by_cases hlt : (k : Int) ≤ half c
    · have hmc : wr.cell? ⟨gm, k, none⟩ = some (.bool (mk k)) := by rw [hS.b.cell (p := ⟨gm, k, none⟩) hgl]; exact hgmk.out.cell (by omega)
      have hold := hS.r.cell (i := k) (by omega)
      have hfr := hS.r.frozen k
      have hkb : (k : Int) < half c + 1 := by omega
      have hset : ∀ x : Bool, x = (mk k && decide ((k : Int) ≠ wall)) → Kp (FromS n t v c w (wr.setCell ⟨w.heap.size + 1, k, none⟩ (.bool x)) (fun j => decide (j < k + 1) && (mk j && decide ((j : Int) ≠ wall)))) := fun x hx => ⟨(hS.set k x).congr (fun j hj => by
        by_cases e : j = k
        · subst e; simp [hx]
        · rw [if_neg e]
          congr 1
          have : (j < k) ↔ (j < k + 1) := by omega
          simp [this])⟩
      cases hb : mk k
      · rw [hb] at hmc
        have hs2 := hset false (by simp [hb])
        clear hset
        go_wp2
        go_roundw
        case rel => exact ⟨k + 1, by omega, by go_num, hs2.out⟩
        case measure => simp [intOf]; omega
      · rw [hb] at hmc
        by_cases hw : (k : Int) = wall
        · have hw1 : ((k : Int) != wall) = false := by rw [hw]; simp
          have hs2 := hset false (by simp [hw])
          clear hset hw
          go_wp2
          go_roundw
          case rel => exact ⟨k + 1, by omega, by go_num, hs2.out⟩
          case measure => simp [intOf]; omega
        · have hw1 : ((k : Int) != wall) = true := bne_iff_ne.2 hw
          have hs2 := hset true (by simp [hb, hw])
          clear hset hw
          go_wp2
          go_roundw
          case rel => exact ⟨k + 1, by omega, by go_num, hs2.out⟩
          case measure => simp [intOf]; omega
    · have hS0 : Kp (FromS n t v c w wr (fun j => mk j && decide ((j : Int) ≠ wall))) := ⟨hS.congr (fun j hj => by
        have : j < k := by omega
        simp [this])⟩
      have hSp : Kp (Spreads c mk wall (fun j => mk j && decide ((j : Int) ≠ wall))) := ⟨⟨fun j hj hm => by
        simp only [Bool.and_eq_true, decide_eq_true_eq] at hm
        exact Reach.start ⟨by omega, hj, by simpa using hm.1⟩ hm.2, fun j hj hm hw => by simp [hm, hw]⟩⟩
      generalize (fun j => mk j && decide ((j : Int) ≠ wall)) = m0 at hS0 hSp
      clear hS
      go_wp2_with fail
      go_loopg [9] (2 * cntF m0 ((half c).toNat + 1) + 1) (fun g a wr => ∃ (ag : Bool) (m : Nat → Bool), a = .bool ag ∧ g = 2 * cntF m ((half c).toNat + 1) + (if ag then 1 else 0) ∧ FromS n t v c w wr m ∧ Kp (Spreads c mk wall m) ∧ Kp (ag = false → ClosedTo c wall m (half c).toNat))
      case atStart => exact ⟨true, m0, rfl, by simp, hS0.out, hSp, ⟨fun h => absurd h (by simp)⟩⟩
      case round =>
        clear hS0 hSp ol q0 q1 q2 q3 q4
        obtain ⟨ag, m, rfl, hg, hS, hSp, hcl⟩ := hrel
        replace hg : Kp _ := ⟨hg⟩
        have ol := hS.o.lt
        have q0 := hS.o.c 0 _ rfl
        have q1 := hS.o.c 1 _ rfl
        have q2 := hS.o.c 2 _ rfl
        have q3 := hS.o.c 3 _ rfl
        have q4 := hS.o.c 4 _ rfl
        cases ag
        · go_wp2
          go_ret
          exact ⟨rfl, m, hS.r, spread_done hr.out hSp.out (hcl.out (by simp)), hS.b⟩
        · clear hcl
          go_wp2_with fail
          go_loopw [9, 10] (fun a i wr => ∃ (ag : Bool) (k : Nat) (m' : Nat → Bool), a = .bool ag ∧ (k : Int) ≤ half c ∧ i = .int .i64 k ∧ FromS n t v c w wr m' ∧ Kp (Spreads c mk wall m') ∧ Kp ((ag = false → m' = m ∧ ClosedTo c wall m k) ∧ (ag = true → cntF m' ((half c).toNat + 1) < cntF m ((half c).toNat + 1)))) (fun _ i _ => (half c).toNat - (intOf i).toNat)
          case atStart => exact ⟨false, 0, m, rfl, by omega, rfl, hS, hSp, ⟨⟨fun _ => ⟨rfl, fun i hi => absurd hi (by omega)⟩, fun h => absurd h (by simp)⟩⟩⟩
          case round =>
            clear hS hSp ol q0 q1 q2 q3 q4
            obtain ⟨ag, k2, m', rfl, hk2, rfl, hS, hSp, hJ⟩ := hrel
            have ol := hS.o.lt
            have q0 := hS.o.c 0 _ rfl
            have q1 := hS.o.c 1 _ rfl
            have q2 := hS.o.c 2 _ rfl
            have q3 := hS.o.c 3 _ rfl
            have q4 := hS.o.c 4 _ rfl
            by_cases hlt2 : (k2 : Int) < half c
            · have hmc := hS.r.cell (i := k2) (by omega)
              have hkb : (k2 : Int) < half c + 1 := by omega
              cases hb : m' k2
              · rw [hb] at hmc
                have hJ2 : Kp ((ag = false → m' = m ∧ ClosedTo c wall m (k2 + 1)) ∧ (ag = true → cntF m' ((half c).toNat + 1) < cntF m ((half c).toNat + 1))) := ⟨⟨fun h => ⟨(hJ.out.1 h).1, fun i hi hm j hj hw => by
                  by_cases e : i = k2
                  · subst e
                    rw [(hJ.out.1 h).1] at hb
                    rw [hb] at hm
                    exact absurd hm (by simp)
                  · exact (hJ.out.1 h).2 i (by omega) hm j hj hw⟩, hJ.out.2⟩⟩
                go_wp2
                go_roundw
                case rel => exact ⟨ag, k2 + 1, m', rfl, by omega, by go_num, hS, hSp, hJ2⟩
                case measure => simp [intOf]; omega
              · rw [hb] at hmc
                replace hb : Kp _ := ⟨hb⟩
                go_wp2_with fail
                refine (next_ref n k2 t v c _ hc (by omega) hlt2 hk).mono ?_
                rintro e w1 ⟨r, rfl, hI, hb1⟩
                have hwl := hS.r.lt
                replace hS := hS.step hb1
                obtain ⟨⟨gn, cap, rfl, hgB, hgl2, hcells⟩⟩ := hI
                have hgne : gn ≠ w.heap.size + 1 := by omega
                clear hb1 hwl hmc ol q0 q1 q2 q3 q4
                have hrg : Kp (∀ (q : Nat) (x : Int), (nxt c k2)[q]? = some x → 0 ≤ x ∧ x ≤ half c ∧ x ∈ nxt c k2) := ⟨fun q x hx => by
                  have hm := List.mem_of_getElem? hx
                  have := hr.out k2 x ⟨by omega, hlt2, hm⟩
                  exact ⟨this.1, this.2, hm⟩⟩
                have hll : Kp (∀ j : Int, j ∈ nxt c k2 → ∃ q, q < (nxt c k2).length ∧ (nxt c k2)[q]? = some j) := ⟨fun j hj => by
                  obtain ⟨q, hq, he⟩ := List.getElem_of_mem hj
                  exact ⟨q, hq, by rw [List.getElem?_eq_getElem hq, he]⟩⟩
                have hlen := nxt_len c k2
                generalize hL : nxt c k2 = L at *
                replace hL : Kp _ := ⟨hL⟩
                replace hcells : Kp _ := ⟨hcells⟩
                have hq4 := hS.o.lt
                go_wp2_with fail
                go_loopw [9, 51] (fun a qv wr => ∃ (ag : Bool) (q : Nat) (m2 : Nat → Bool), a = .bool ag ∧ q ≤ L.length ∧ qv = .int .i64 q ∧ FromS n t v c w wr m2 ∧ Kp (Spreads c mk wall m2) ∧ Kp (m2 k2 = true) ∧ Kp ((ag = false → m2 = m ∧ ClosedTo c wall m k2 ∧ ∀ (p : Nat) (x : Int), p < q → L[p]? = some x → x ≠ wall → m x.toNat = true) ∧ (ag = true → cntF m2 ((half c).toNat + 1) < cntF m ((half c).toNat + 1))) ∧ Kp (∀ (p : Nat) (x : Int), L[p]? = some x → wr.cell? ⟨gn, p, none⟩ = some (.int .i64 x))) (fun _ qv _ => L.length - (intOf qv).toNat)
                case atStart => exact ⟨ag, 0, m', rfl, by omega, rfl, hS, hSp, hb, ⟨⟨fun h => ⟨(hJ.out.1 h).1, (hJ.out.1 h).2, fun p x hp => absurd hp (by omega)⟩, hJ.out.2⟩⟩, hcells⟩
                case round =>
                  clear hS hSp hb hJ hcells hq4
                  obtain ⟨ag, q, m2, rfl, hq, rfl, hS, hSp, hb, hJ, hcells⟩ := hrel
                  have ol := hS.o.lt
                  have q0 := hS.o.c 0 _ rfl
                  have q1 := hS.o.c 1 _ rfl
                  have q2 := hS.o.c 2 _ rfl
                  have q3 := hS.o.c 3 _ rfl
                  have q4 := hS.o.c 4 _ rfl
                  by_cases hlt3 : q < L.length
                  · obtain ⟨x, hx⟩ : ∃ x, L[q]? = some x := ⟨_, List.getElem?_eq_getElem hlt3⟩
                    have hcx := hcells.out q x hx
                    obtain ⟨hx0, hx1, hx2⟩ := hrg.out q x hx
                    obtain ⟨xn, rfl⟩ := Int.eq_ofNat_of_zero_le hx0
                    replace hx : Kp _ := ⟨hx⟩
                    have hmx := hS.r.cell (i := xn) (by omega)
                    have hfx := hS.r.frozen xn
                    have hxb : (xn : Int) < half c + 1 := by omega
                    have hq3 : (q : Int) < (L.length : Int) := by omega
                    replace hx2 : Kp ((xn : Int) ∈ nxt c k2) := ⟨by rw [hL.out]; exact hx2⟩
                    by_cases hw : (xn : Int) = wall
                    · have hw1 : ((xn : Int) != wall) = false := by rw [hw]; simp
                      have hJ2 : Kp ((ag = false → m2 = m ∧ ClosedTo c wall m k2 ∧ ∀ (p : Nat) (x : Int), p < q + 1 → L[p]? = some x → x ≠ wall → m x.toNat = true) ∧ (ag = true → cntF m2 ((half c).toNat + 1) < cntF m ((half c).toNat + 1))) := ⟨⟨fun h => ⟨(hJ.out.1 h).1, (hJ.out.1 h).2.1, fun p x hp hpx hpw => by
                        by_cases e : p = q
                        · subst e
                          rw [hx.out] at hpx
                          simp only [Option.some.injEq] at hpx
                          exact absurd (hpx.symm.trans hw) hpw
                        · exact (hJ.out.1 h).2.2 p x (by omega) hpx hpw⟩, hJ.out.2⟩⟩
                      clear hw
                      go_wp2
                      go_roundw
                      case rel => exact ⟨ag, q + 1, m2, rfl, by omega, by go_num, hS, hSp, hb, hJ2, hcells⟩
                      case measure => simp [intOf]; omega
                    · have hw1 : ((xn : Int) != wall) = true := bne_iff_ne.2 hw
                      cases hm : m2 xn
                      · rw [hm] at hmx
                        have hS2 := hS.set xn true
                        have hSp2 : Kp (Spreads c mk wall (fun x => if x = xn then true else m2 x)) := ⟨spread_more hSp.out hlt2 hb.out hx2.out hw⟩
                        have hb2 : Kp ((fun x => if x = xn then true else m2 x) k2 = true) := ⟨by simp [hb.out]⟩
                        have hJ2 : Kp ((true = false → (fun x => if x = xn then true else m2 x) = m ∧ ClosedTo c wall m k2 ∧ ∀ (p : Nat) (x : Int), p < q + 1 → L[p]? = some x → x ≠ wall → m x.toNat = true) ∧ (true = true → cntF (fun x => if x = xn then true else m2 x) ((half c).toNat + 1) < cntF m ((half c).toNat + 1))) := ⟨⟨fun h => absurd h (by simp), fun _ => by
                          have h1 := cntF_set (k := ((half c).toNat + 1)) (j := xn) (by omega) hm
                          cases ag with
                          | false => rw [(hJ.out.1 rfl).1] at h1 ⊢; omega
                          | true => have := hJ.out.2 rfl; omega⟩⟩
                        have hcells2 : Kp (∀ (p : Nat) (x : Int), L[p]? = some x → (wr.setCell ⟨w.heap.size + 1, xn, none⟩ (.bool true)).cell? ⟨gn, p, none⟩ = some (.int .i64 x)) := ⟨fun p x hpx => by
                          rw [World.cell?_setCell_other wr ⟨w.heap.size + 1, xn, none⟩ ⟨gn, p, none⟩ (.bool true) (by intro e; have e2 := congrArg Addr.block e; exact hgne e2.symm)]
                          exact hcells.out p x hpx⟩
                        clear hJ hb hSp hcells hw hm
                        go_wp2
                        go_roundw
                        case rel => exact ⟨true, q + 1, _, rfl, by omega, by go_num, hS2, hSp2, hb2, hJ2, hcells2⟩
                        case measure => simp [intOf]; omega
                      · rw [hm] at hmx
                        have hJ2 : Kp ((ag = false → m2 = m ∧ ClosedTo c wall m k2 ∧ ∀ (p : Nat) (x : Int), p < q + 1 → L[p]? = some x → x ≠ wall → m x.toNat = true) ∧ (ag = true → cntF m2 ((half c).toNat + 1) < cntF m ((half c).toNat + 1))) := ⟨⟨fun h => ⟨(hJ.out.1 h).1, (hJ.out.1 h).2.1, fun p x hp hpx hpw => by
                          by_cases e : p = q
                          · subst e
                            rw [hx.out] at hpx
                            simp only [Option.some.injEq] at hpx
                            rw [← hpx, Int.toNat_natCast, ← (hJ.out.1 h).1]
                            exact hm
                          · exact (hJ.out.1 h).2.2 p x (by omega) hpx hpw⟩, hJ.out.2⟩⟩
                        clear hw hm
                        go_wp2
                        go_roundw
                        case rel => exact ⟨ag, q + 1, m2, rfl, by omega, by go_num, hS, hSp, hb, hJ2, hcells⟩
                        case measure => simp [intOf]; omega
                  · have hJ2 : Kp ((ag = false → m2 = m ∧ ClosedTo c wall m (k2 + 1)) ∧ (ag = true → cntF m2 ((half c).toNat + 1) < cntF m ((half c).toNat + 1))) := ⟨⟨fun h => ⟨(hJ.out.1 h).1, fun i hi hm j hj hjw => by
                      by_cases e : i = k2
                      · subst e
                        rw [hL.out] at hj
                        obtain ⟨p, hp, hpx⟩ := hll.out j hj
                        exact (hJ.out.1 h).2.2 p j (by omega) hpx hjw
                      · exact (hJ.out.1 h).2.1 i (by omega) hm j hj hjw⟩, hJ.out.2⟩⟩
                    go_wp2
                    go_roundw
                    case rel => exact ⟨ag, k2 + 1, m2, rfl, by omega, by go_num, hS, hSp, hJ2⟩
                    case measure => simp [intOf]; omega
            · have hke : k2 = (half c).toNat := by omega
              have hcl2 : Kp (ag = false → ClosedTo c wall m' (half c).toNat) := ⟨fun h => by rw [(hJ.out.1 h).1, ← hke]; exact (hJ.out.1 h).2⟩
              have hdec : Kp (2 * cntF m' ((half c).toNat + 1) + (if ag then 1 else 0) < 2 * cntF m ((half c).toNat + 1) + 1) := ⟨by
                cases ag with
                | false => rw [(hJ.out.1 rfl).1]; simp
                | true => have := hJ.out.2 rfl; simp; omega⟩
              clear hke
              go_wp2
              go_roundg (2 * cntF m' ((half c).toNat + 1) + (if ag then 1 else 0))
              case measure => have h1 := hg.out; have h2 := hdec.out; simp at h1; omega
              case rel => exact ⟨ag, m', rfl, rfl, hS, hSp, hcl2⟩
end Go.Proofs.YtcnbifdlkalimaaGreat
