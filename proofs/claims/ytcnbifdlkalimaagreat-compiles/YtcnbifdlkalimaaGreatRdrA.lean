import Derived.Test.YtcnbifdlkalimaaGreatTrn21
import Derived.Test.YtcnbifdlkalimaaGreatTrn5
import Derived.Test.YtcnbifdlkalimaaGreatSrcB

/-
  The walks of the document's reading, first part: skip, sees, takes; for every text of at most 300 bytes, wherever one stands.
-/
namespace Go.Proofs.YtcnbifdlkalimaaGreat
open Go.RowKit
set_option linter.unusedVariables false
set_option maxRecDepth 100000

theorem bl_get {s : ByteArray} {i : Nat} (h : i < s.size) : (bl s)[i]? = some (bv s i) := by
  unfold bl
  rw [List.getElem?_map, Array.getElem?_toList]
  have h2 : i < s.data.size := h
  rw [Array.getElem?_eq_getElem h2]
  show some ((s.data[i].toNat : Nat) : Int) = some (bv s i)
  rw [← bv_nat s i h]
  rfl

set_option maxHeartbeats 1600000 in
theorem skipP_any (b : Nat) (s : ByteArray) (r : Rd) (w : World) (H : RdAt w b s r) (O : RdOk s r) :
    Calls Tryz.prog 137 #[.pointer (some ⟨b, 0, none⟩)] w fun e w' => e = .returned (.tuple #[]) ∧ RdTo w w' b ⟨skp s r.a, r.er⟩ := by
  have sz := O.sz
  have T0 : Kp (RdTo w w b r) := ⟨RdTo.refl H⟩
  have H' : Kp _ := ⟨H⟩
  have hle : Kp (r.a ≤ s.size) := ⟨O.le⟩
  clear H O
  go_enter Tryz.func137, Tryz.ntmps137
  go_wp2_with fail
  go_loopg [2] (s.size - r.a) (fun g pv wr => ∃ a : Nat, Kp (skp s a = skp s r.a) ∧ Kp (a ≤ s.size) ∧ Kp (RdTo w wr b ⟨a, r.er⟩) ∧ Kp (g = s.size - a))
  case atStart => exact ⟨r.a, ⟨rfl⟩, hle, T0, ⟨rfl⟩⟩
  case round =>
    clear T0 hle
    obtain ⟨a, ha, hle, hT, hg⟩ := hrel
    have hA := H'.out.to hT.out
    have c0 := hA.c0
    have c1 : wr.cell? ⟨b, 1, none⟩ = some (.int .i64 a) := hA.c1
    have f1 := hA.f1
    by_cases h1 : a < s.size
    · have d1 : decide ((a : Int) < (s.size : Int)) = true := decide_eq_true (by omega)
      have hai : (a : Int) < (s.size : Int) := by omega
      have hv := bv_nat s a h1
      obtain ⟨x, hx⟩ : ∃ x, bv s a = x := ⟨_, rfl⟩
      rw [hx] at hv
      by_cases h2 : x = 32 ∨ x = 10
      · have hb : blk (bv s a) = true := by rw [hx]; unfold blk; rcases h2 with h | h <;> rw [h] <;> rfl
        have e1 : Kp (skp s (a + 1) = skp s r.a) := ⟨by rw [← ha.out, skp_go h1 hb]⟩
        have T1 := RdTo.setA hA (a + 1)
        have T2 : Kp (RdTo w (wr.setCell ⟨b, 1, none⟩ (.int .i64 ((a : Int) + 1))) b ⟨a + 1, r.er⟩) := ⟨hT.out.trans T1⟩
        clear hA T1 hT hb hx
        rcases h2 with rfl | rfl
        · go_wp2_with fail
          go_quiet (fail)
          go_wp2_with fail
          go_roundg (s.size - (a + 1))
          case measure => have := hg.out; omega
          case rel => exact ⟨a + 1, e1, ⟨by omega⟩, ⟨T2.out.drewN _⟩, ⟨rfl⟩⟩
        · go_wp2_with fail
          go_quiet (fail)
          go_wp2_with fail
          go_roundg (s.size - (a + 1))
          case measure => have := hg.out; omega
          case rel => exact ⟨a + 1, e1, ⟨by omega⟩, ⟨T2.out.drewN _⟩, ⟨rfl⟩⟩
      · have hb : ¬ (a < s.size ∧ blk (bv s a) = true) := fun c => by
          have := c.2
          rw [hx] at this
          unfold blk at this
          simp at this
          exact h2 this
        have e1 : Kp (skp s r.a = a) := ⟨by rw [← ha.out, skp_no hb]⟩
        have k1 : (x == 32) = false := beq_eq_false_iff_ne.2 fun c => h2 (.inl c)
        have k2 : (x == 10) = false := beq_eq_false_iff_ne.2 fun c => h2 (.inr c)
        clear hA hb h2 hx
        go_wp2_with fail
        go_quiet (fail)
        go_wp2_with fail
        first | go_end0 | refine bodyPost_ret (results_none rfl _ _ _) rfl ?_
        exact ⟨rfl, by rw [e1.out]; exact hT.out.drewN _⟩
    · have d1 : decide ((a : Int) < (s.size : Int)) = false := decide_eq_false (by omega)
      have d1n : decide (a < s.size) = false := decide_eq_false (by omega)
      have h2 : s.size ≤ a := by omega
      have e1 : Kp (skp s r.a = a) := ⟨by rw [← ha.out, skp_no (fun c => h1 c.1)]⟩
      clear hA h1
      go_wp2_with fail
      go_quiet (fail)
      go_wp2_with fail
      first | go_end0 | refine bodyPost_ret (results_none rfl _ _ _) rfl ?_
      exact ⟨rfl, by rw [e1.out]; exact hT.out.drewN _⟩

/-- does one of these bytes stand there? -/
def seeB (s set : ByteArray) (r : Rd) : Bool := fnB (tok s r) (bl set)
/-- no byte of these is 0 -/
def NoZ (set : ByteArray) : Prop := ∀ x, x ∈ bl set → x ≠ 0
theorem fnB_zero {set : ByteArray} (h : NoZ set) : fnB 0 (bl set) = false := by
  refine decide_eq_false fun c => ?_
  exact h 0 (List.mem_of_getElem? (fnd_at c)) rfl

set_option maxHeartbeats 1600000 in
theorem sees_any (b : Nat) (s set : ByteArray) (r : Rd) (w : World) (H : RdAt w b s r) (O : RdOk s r) (hz : NoZ set) (hl : set.size ≤ 300) :
    Calls Tryz.prog 174 #[.pointer (some ⟨b, 0, none⟩), .string set] w fun e w' => e = .returned (.bool (seeB s set r)) ∧ RdTo w w' b (adv s r) := by
  unfold seeB
  by_cases h0 : r.er = 0
  · have hS := skipP_any b s r w H O
    have ea : adv s r = ⟨skp s r.a, r.er⟩ := by rw [adv_ok h0, h0]
    have hA := fun (w1 : World) (T : RdTo w w1 b ⟨skp s r.a, r.er⟩) => H.to T
    have ht : tok s r = here s (adv s r) := rfl
    have hle := skp_le O.le
    have sz := O.sz
    have c2 := H.c2
    rw [h0] at c2
    rw [ht, ea]
    obtain ⟨a, ha⟩ : ∃ a, skp s r.a = a := ⟨_, rfl⟩
    rw [ha] at hS hA hle ⊢
    rw [h0] at hS hA ⊢
    clear ht ea H O ha h0
    obtain ⟨x, hx⟩ : ∃ x, here s ⟨a, 0⟩ = x := ⟨_, rfl⟩
    rw [hx]
    replace hS : Kp _ := ⟨hS⟩
    replace hA : Kp _ := ⟨hA⟩
    go_enter Tryz.func174, Tryz.ntmps174
    go_wp2_with fail
    refine hS.out.mono ?_
    rintro e w1 ⟨rfl, T1⟩
    replace T1 : Kp _ := ⟨T1⟩
    clear hS c2
    go_wp2_with fail
    go_loopw [5] (fun iv wr => ∃ i : Nat, i ≤ set.size ∧ iv = .int .i64 i ∧ Kp (∀ j, j < i → (bl set)[j]? ≠ some x) ∧ Kp (RdTo w wr b ⟨a, 0⟩)) (fun iv _ => set.size - (intOf iv).toNat)
    case atStart => exact ⟨0, by omega, rfl, ⟨fun j hj => by omega⟩, T1⟩
    case round =>
      clear T1
      obtain ⟨i, hi, rfl, hb, hT⟩ := hrel
      have A1 := hA.out wr hT.out
      have c0 : wr.cell? ⟨b, 0, none⟩ = some (.string s) := A1.c0
      have c1 : wr.cell? ⟨b, 1, none⟩ = some (.int .i64 a) := A1.c1
      clear A1
      have hsi : (set.size : Int) ≤ 300 := by omega
      by_cases h1 : i < set.size
      · have d1 : decide ((i : Int) < (set.size : Int)) = true := decide_eq_true (by omega)
        have hii : (i : Int) < (set.size : Int) := by omega
        by_cases h2 : a < s.size
        · have d2 : decide ((a : Int) < (s.size : Int)) = true := decide_eq_true (by omega)
          have hai : (a : Int) < (s.size : Int) := by omega
          have hv := bv_nat s a h2
          have hxv : bv s a = x := by rw [← hx]; exact (if_pos ⟨rfl, h2⟩).symm
          rw [hxv] at hv
          have hu := bv_nat set i h1
          have hg := bl_get h1
          obtain ⟨y, hy⟩ : ∃ y, bv set i = y := ⟨_, rfl⟩
          rw [hy] at hu hg
          replace hg : Kp _ := ⟨hg⟩
          by_cases h3 : x = y
          · subst h3
            have e1 : Kp (fnB x (bl set) = true) := ⟨(fn_yes (fnd_eq hg.out hb.out) (by rw [bl_len]; exact h1)).2⟩
            clear hb hy hxv hx
            go_wp2_with fail
            go_quiet (fail)
            go_wp2_with fail
            go_quiet (fail)
            go_wp2_with fail
            go_ret
            exact ⟨by rw [e1.out]; rfl, (hT.out.drewN _).drewN _⟩
          · have k3 : (x == y) = false := beq_eq_false_iff_ne.2 h3
            have hb2 : Kp (∀ j, j < i + 1 → (bl set)[j]? ≠ some x) := ⟨fun j hj => by
              by_cases e : j = i
              · rw [e, hg.out]; intro h; exact h3 (Option.some.inj h).symm
              · exact hb.out j (by omega)⟩
            clear hb hy hxv hx h3
            go_wp2_with fail
            go_quiet (fail)
            go_wp2_with fail
            go_quiet (fail)
            go_wp2_with fail
            go_roundw
            case rel => exact ⟨i + 1, by omega, by go_num, hb2, ⟨by first | exact (hT.out.drewN _).drewN _ | exact hT.out.drewN _⟩⟩
            case measure => simp [intOf]; omega
        · have d2 : decide ((a : Int) < (s.size : Int)) = false := decide_eq_false (by omega)
          have d2n : decide (a < s.size) = false := decide_eq_false (by omega)
          have h2n : s.size ≤ a := by omega
          have hx0 : x = 0 := by rw [← hx]; exact if_neg fun c => h2 c.2
          have e1 : Kp (fnB x (bl set) = false) := ⟨by rw [hx0]; exact fnB_zero hz⟩
          clear hb hx h2 hx0
          go_wp2_with fail
          go_quiet (fail)
          go_wp2_with fail
          go_ret
          exact ⟨by rw [e1.out]; rfl, hT.out.drewN _⟩
      · have d1 : decide ((i : Int) < (set.size : Int)) = false := decide_eq_false (by omega)
        have d1n : decide (i < set.size) = false := decide_eq_false (by omega)
        have h1n : set.size ≤ i := by omega
        have e1 : Kp (fnB x (bl set) = false) := ⟨(fn_no (fnd_none fun j hj => hb.out j (by rw [bl_len] at hj; omega))).2⟩
        clear hb h1 hx
        go_wp2_with fail
        go_quiet (fail)
        go_wp2_with fail
        go_ret
        exact ⟨by rw [e1.out]; rfl, hT.out.drewN _⟩
  · have c2 := H.c2
    have e1 : fnB (tok s r) (bl set) = false := by rw [tok_bad h0]; exact fnB_zero hz
    have T : Kp (RdTo w w b (adv s r)) := ⟨by rw [adv_bad h0]; exact RdTo.refl H⟩
    rw [e1]
    have hk : (r.er != 0) = true := bne_iff_ne.2 h0
    generalize r.er = er at *
    clear H O e1 h0
    go_enter Tryz.func174, Tryz.ntmps174
    go_wp2_with fail
    go_ret
    exact ⟨rfl, T.out⟩
end Go.Proofs.YtcnbifdlkalimaaGreat

/-
  The walks of the document's reading, second part: takes, number; for every text of at most 300 bytes, wherever one stands.
-/
namespace Go.Proofs.YtcnbifdlkalimaaGreat
open Go.RowKit
set_option linter.unusedVariables false
set_option maxRecDepth 100000

set_option maxHeartbeats 1600000 in
theorem takesP_any (b : Nat) (s set : ByteArray) (r : Rd) (w : World) (H : RdAt w b s r) (O : RdOk s r) (hz : NoZ set) (hl : set.size ≤ 300) :
    Calls Tryz.prog 173 #[.pointer (some ⟨b, 0, none⟩), .string set] w fun e w' => e = .returned (.int .i64 (fnI (tok s r) (bl set) : Nat)) ∧ RdTo w w' b (tkIf s r (seeB s set r) 11) := by
  have hS := sees_any b s set r w H O hz hl
  have sz := O.sz
  have hsi : (set.size : Int) ≤ 300 := by omega
  cases hc : seeB s set r with
  | true =>
    rw [hc] at hS
    have hfd : fnd (tok s r) (bl set) < (bl set).length := of_decide_eq_true hc
    have ht0 : tok s r ≠ 0 := fun c => by
      have h1 := fnB_zero hz
      unfold seeB at hc
      rw [c, h1] at hc
      simp at hc
    have hpos := tok_pos ht0
    have e1 : tkIf s r true 11 = nx (adv s r) := if_pos rfl
    rw [e1]
    have hA := fun (w1 : World) (T : RdTo w w1 b (adv s r)) => H.to T
    have hxv : bv s (adv s r).a = tok s r := (if_pos ⟨by rw [adv_er]; exact hpos.1, hpos.2⟩ : here s (adv s r) = _).symm
    have hi : fnI (tok s r) (bl set) = fnd (tok s r) (bl set) := if_pos hfd
    rw [hi]
    have hgt := fnd_at hfd
    have hbf : ∀ j, j < fnd (tok s r) (bl set) → (bl set)[j]? ≠ some (tok s r) := fun j hj => fnd_before hj
    rw [bl_len] at hfd
    have ha2 := hpos.2
    have her : (adv s r).er = 0 := by rw [adv_er]; exact hpos.1
    obtain ⟨r1, hr1⟩ : ∃ r1, adv s r = r1 := ⟨_, rfl⟩
    rw [hr1] at hS hA hxv ha2 her ⊢
    obtain ⟨a, er⟩ := r1
    have her : er = 0 := her
    subst her
    have ha2 : a < s.size := ha2
    have hxv : bv s a = tok s r := hxv
    have hv := bv_nat s a ha2
    rw [hxv] at hv
    obtain ⟨i, hie⟩ : ∃ i, fnd (tok s r) (bl set) = i := ⟨_, rfl⟩
    rw [hie] at hgt hbf hfd ⊢
    have hgi := bl_get hfd
    obtain ⟨x, hx⟩ : ∃ x, tok s r = x := ⟨_, rfl⟩
    rw [hx] at hv hgt hbf
    have hsx : bv set i = x := Option.some.inj (hgi.symm.trans hgt)
    have hai : (a : Int) < (s.size : Int) := by omega
    replace hS : Kp _ := ⟨hS⟩
    replace hA : Kp _ := ⟨hA⟩
    replace hbf : Kp _ := ⟨hbf⟩
    clear hc ht0 hpos e1 hxv hi hr1 hie hx H O hgt hgi
    go_enter Tryz.func173, Tryz.ntmps173
    go_wp2_with fail
    refine hS.out.mono ?_
    rintro e w1 ⟨rfl, T1⟩
    have A1 := hA.out _ T1
    have c0 := A1.c0
    have c1 : w1.cell? ⟨b, 1, none⟩ = some (.int .i64 a) := A1.c1
    have f1 := A1.f1
    have T2 := RdTo.setA A1 (a + 1)
    have T3 : Kp (RdTo w (w1.setCell ⟨b, 1, none⟩ (.int .i64 ((a : Int) + 1))) b (nx ⟨a, 0⟩)) := ⟨T1.trans T2⟩
    clear hS hA A1 T1 T2
    go_wp2_with fail
    go_quiet (fail)
    go_wp2_with fail
    go_loop [7] (fun iv => ∃ j : Nat, j ≤ i ∧ iv = .int .i64 j) (fun iv => set.size - (intOf iv).toNat)
    case atStart => exact ⟨0, by omega, rfl⟩
    case round =>
      obtain ⟨j, hj, rfl⟩ := hrel
      have hjs : j < set.size := by omega
      have hji : (j : Int) < (set.size : Int) := by omega
      have hu := bv_nat set j hjs
      by_cases hje : j = i
      · subst hje
        rw [hsx] at hu
        go_wp2_with fail
        go_ret
        exact ⟨rfl, T3.out.drewN _⟩
      · have hb := hbf.out j (by omega)
        rw [bl_get hjs] at hb
        obtain ⟨y, hy⟩ : ∃ y, bv set j = y := ⟨_, rfl⟩
        rw [hy] at hu hb
        have k3 : (y == x) = false := beq_eq_false_iff_ne.2 fun c => hb (by rw [c])
        clear hb hy
        go_wp2_with fail
        go_round
        case rel => exact ⟨j + 1, by omega, by go_num⟩
        case measure => simp [intOf]; omega
  | false =>
    rw [hc] at hS
    have e1 : tkIf s r false 11 = rfs (adv s r) 11 := if_neg (by simp)
    rw [e1]
    have hi : fnI (tok s r) (bl set) = 0 := if_neg (of_decide_eq_false hc)
    rw [hi]
    have hA := fun (w1 : World) (T : RdTo w w1 b (adv s r)) => H.to T
    obtain ⟨r1, hr1⟩ : ∃ r1, adv s r = r1 := ⟨_, rfl⟩
    rw [hr1] at hS hA ⊢
    obtain ⟨a, er⟩ := r1
    replace hS : Kp _ := ⟨hS⟩
    replace hA : Kp _ := ⟨hA⟩
    clear hc e1 hi hr1 H O
    by_cases h0 : er = 0
    · subst h0
      go_enter Tryz.func173, Tryz.ntmps173
      go_wp2_with fail
      refine hS.out.mono ?_
      rintro e w1 ⟨rfl, T1⟩
      have A1 := hA.out _ T1
      have c2 : w1.cell? ⟨b, 2, none⟩ = some (.int .i64 0) := A1.c2
      have f2 := A1.f2
      have T2 := RdTo.setE A1 11
      have T3 : Kp (RdTo w (w1.setCell ⟨b, 2, none⟩ (.int .i64 11)) b (rfs ⟨a, 0⟩ 11)) := ⟨T1.trans T2⟩
      clear hS hA A1 T1 T2
      go_wp2_with fail
      go_ret
      exact ⟨rfl, T3.out⟩
    · have hk : (er == 0) = false := beq_eq_false_iff_ne.2 h0
      have e2 : Kp (rfs ⟨a, er⟩ 11 = ⟨a, er⟩) := ⟨rfs_bad h0⟩
      clear h0
      go_enter Tryz.func173, Tryz.ntmps173
      go_wp2_with fail
      refine hS.out.mono ?_
      rintro e w1 ⟨rfl, T1⟩
      have A1 := hA.out _ T1
      have c2 : w1.cell? ⟨b, 2, none⟩ = some (.int .i64 er) := A1.c2
      replace T1 : Kp _ := ⟨T1⟩
      clear hS hA A1
      go_wp2_with fail
      go_ret
      exact ⟨rfl, by rw [e2.out]; exact T1.out⟩

set_option maxHeartbeats 3200000 in
theorem numberP_any (b : Nat) (s : ByteArray) (r : Rd) (w : World) (H : RdAt w b s r) (O : RdOk s r) (he : r.er = 0) :
    Calls Tryz.prog 213 #[.pointer (some ⟨b, 0, none⟩)] w fun e w' => e = .returned (.int .i64 (num s r).1) ∧ RdTo w w' b (num s r).2 := by
  have sz := O.sz
  have T0 : Kp (RdTo w w b r) := ⟨RdTo.refl H⟩
  have H' : Kp _ := ⟨H⟩
  have hle : Kp (r.a ≤ s.size) := ⟨O.le⟩
  obtain ⟨a0, er⟩ := r
  have he : er = 0 := he
  subst he
  have hrm : Kp (rem s ⟨a0, 0⟩ = s.size - a0) := ⟨if_pos rfl⟩
  clear H O
  go_enter Tryz.func213, Tryz.ntmps213
  go_wp2_with fail
  go_loopg [3] (s.size - a0) (fun g vv wr => ∃ (a : Nat) (v : Int), vv = .int .i64 v ∧ 0 ≤ v ∧ v ≤ 255 ∧ Kp (num s ⟨a0, 0⟩ = numF s g ⟨a, 0⟩ v) ∧ Kp (a ≤ s.size) ∧ Kp (RdTo w wr b ⟨a, 0⟩) ∧ Kp (g = s.size - a))
  case atStart => exact ⟨a0, 0, rfl, by omega, by omega, ⟨by unfold num; rw [hrm.out]⟩, hle, T0, ⟨rfl⟩⟩
  case round =>
    clear T0 hle hrm
    obtain ⟨a, v, rfl, v0, v9, hn, hle, hT, hg⟩ := hrel
    have hA := H'.out.to hT.out
    have c0 := hA.c0
    have c1 : wr.cell? ⟨b, 1, none⟩ = some (.int .i64 a) := hA.c1
    have c2 : wr.cell? ⟨b, 2, none⟩ = some (.int .i64 0) := hA.c2
    have f1 := hA.f1
    have f2 := hA.f2
    by_cases h1 : a < s.size
    · have d1 : decide ((a : Int) < (s.size : Int)) = true := decide_eq_true (by omega)
      have hai : (a : Int) < (s.size : Int) := by omega
      have hv := bv_nat s a h1
      have hh : here s ⟨a, 0⟩ = bv s a := if_pos ⟨rfl, h1⟩
      obtain ⟨x0, x9⟩ := bv_bd s a
      obtain ⟨x, hx⟩ : ∃ x, bv s a = x := ⟨_, rfl⟩
      rw [hx] at hv hh x0 x9
      have hgs := hg.out
      obtain ⟨g, rfl⟩ : ∃ g, gk = g + 1 := ⟨gk - 1, by omega⟩
      by_cases h2 : 48 ≤ x ∧ x ≤ 57
      · obtain ⟨y1, y2⟩ := h2
        have d2 : decide (48 ≤ x) = true := decide_eq_true y1
        have d3 : decide (x ≤ 57) = true := decide_eq_true y2
        obtain ⟨wm1, wm2⟩ := i64w (x := v * 10) (by omega) (by omega)
        obtain ⟨wa1, wa2⟩ := i64w (x := v * 10 + x) (by omega) (by omega)
        obtain ⟨ws1, ws2⟩ := i64w (x := v * 10 + x - 48) (by omega) (by omega)
        by_cases h3 : 255 < v * 10 + x - 48
        · have e1 : Kp (num s ⟨a0, 0⟩ = (0, ⟨a, 11⟩)) := ⟨by
            rw [hn.out]
            simp only [numF]
            rw [hh, if_pos ⟨y1, y2⟩, if_pos (by omega)]
            rfl⟩
          have T2 : Kp (∀ k, RdTo w ((wr.drewN k).setCell ⟨b, 2, none⟩ (.int .i64 11)) b ⟨a, 11⟩) := ⟨fun k => (hT.out.drewN k).trans (RdTo.setE (H'.out.to (hT.out.drewN k)) 11)⟩
          clear hA hT hx hh hn hg hgs
          go_wp2_with fail
          go_quiet (fail)
          go_wp2_with fail
          go_quiet (fail)
          go_wp2_with fail
          go_ret
          exact ⟨by rw [e1.out]; rfl, by rw [e1.out]; exact T2.out _⟩
        · have e1 : Kp (num s ⟨a0, 0⟩ = numF s g ⟨a + 1, 0⟩ (v * 10 + x - 48)) := ⟨by
            rw [hn.out]
            simp only [numF]
            rw [hh, if_pos ⟨y1, y2⟩, if_neg (by omega), show 10 * v + x - 48 = v * 10 + x - 48 from by omega]
            rfl⟩
          have T2 : Kp (∀ k, RdTo w ((wr.drewN k).setCell ⟨b, 1, none⟩ (.int .i64 ((a : Int) + 1))) b ⟨a + 1, 0⟩) := ⟨fun k => (hT.out.drewN k).trans (RdTo.setA (H'.out.to (hT.out.drewN k)) (a + 1))⟩
          clear hA hT hx hh hn hg
          go_wp2_with fail
          go_quiet (fail)
          go_wp2_with fail
          go_quiet (fail)
          go_wp2_with fail
          go_roundg g
          case measure => omega
          case rel => exact ⟨a + 1, v * 10 + x - 48, rfl, by omega, by omega, e1, ⟨by omega⟩, ⟨T2.out _⟩, ⟨by omega⟩⟩
      · have e1 : Kp (num s ⟨a0, 0⟩ = (v, ⟨a, 0⟩)) := ⟨by
          rw [hn.out]
          simp only [numF]
          rw [hh, if_neg h2]⟩
        clear hA hx hh hn hg
        by_cases h3 : 48 ≤ x
        · have d2 : decide (48 ≤ x) = true := decide_eq_true h3
          have d3 : decide (x ≤ 57) = false := decide_eq_false (fun c => h2 ⟨h3, c⟩)
          clear h2
          go_wp2_with fail
          go_quiet (fail)
          go_wp2_with fail
          go_ret
          exact ⟨by rw [e1.out]; rfl, by rw [e1.out]; exact hT.out.drewN _⟩
        · have d2 : decide (48 ≤ x) = false := decide_eq_false h3
          clear h2 h3
          go_wp2_with fail
          go_quiet (fail)
          go_wp2_with fail
          go_ret
          exact ⟨by rw [e1.out]; rfl, by rw [e1.out]; exact hT.out.drewN _⟩
    · have d1 : decide ((a : Int) < (s.size : Int)) = false := decide_eq_false (by omega)
      have d1n : decide (a < s.size) = false := decide_eq_false (by omega)
      have h1n : s.size ≤ a := by omega
      have e1 : Kp (num s ⟨a0, 0⟩ = (v, ⟨a, 0⟩)) := ⟨by
        rw [hn.out]
        exact numF_dead s _ _ _ (by unfold rem; rw [if_pos rfl]; show s.size - a = 0; omega)⟩
      clear hA h1
      go_wp2_with fail
      go_quiet (fail)
      go_wp2_with fail
      go_ret
      exact ⟨by rw [e1.out]; rfl, by rw [e1.out]; exact hT.out.drewN _⟩
end Go.Proofs.YtcnbifdlkalimaaGreat

/-
  The walks of the document's reading: a level; for every text of at most 300 bytes, wherever one stands.
-/
namespace Go.Proofs.YtcnbifdlkalimaaGreat
open Go.RowKit
set_option linter.unusedVariables false
set_option maxRecDepth 100000

/-- the first n digits -/
def dgL (n : Nat) : List Int := (List.range n).map fun i => ((48 + i : Nat) : Int)
theorem dgL_get {n i : Nat} (h : i < n) : (dgL n)[i]? = some ((48 + i : Nat) : Int) := by simp [dgL, h]
theorem dgL_len (n : Nat) : (dgL n).length = n := by simp [dgL]
theorem dgL_yes {n : Nat} {t : Int} (h0 : 48 ≤ t) (h1 : t < 48 + n) : fnd t (dgL n) = (t - 48).toNat := by
  refine fnd_eq ?_ fun j hj => ?_
  · rw [dgL_get (by omega)]
    congr 1
    omega
  · rw [dgL_get (by omega)]
    intro e
    have := Option.some.inj e
    omega
theorem dgL_no {n : Nat} {t : Int} (h : ¬ (48 ≤ t ∧ t < 48 + n)) : fnd t (dgL n) = (dgL n).length := by
  refine fnd_none fun j hj => ?_
  rw [dgL_len] at hj
  rw [dgL_get hj]
  intro e
  have := Option.some.inj e
  omega

theorem dg_set {n : Nat} (h1 : 1 ≤ n) (h6 : n ≤ 6) : bl ((ByteArray.mk #[48, 49, 50, 51, 52, 53, 54, 55, 56, 57]).extract 0 n) = dgL n := by
  have hc : n = 1 ∨ n = 2 ∨ n = 3 ∨ n = 4 ∨ n = 5 ∨ n = 6 := by omega
  rcases hc with rfl | rfl | rfl | rfl | rfl | rfl <;> decide

theorem lev_see {s set : ByteArray} {r : Rd} {n : Nat} (hb : bl set = dgL n) : seeB s set r = isD s r 0 ((n : Int) - 1) ∧ ((fnI (tok s r) (bl set) : Nat) : Int) = dig s r 0 ((n : Int) - 1) := by
  unfold seeB
  rw [hb]
  by_cases h : 48 ≤ tok s r ∧ tok s r < 48 + n
  · have e := dgL_yes h.1 h.2
    have hy := fn_yes e (by rw [dgL_len]; omega)
    have hd : isD s r 0 ((n : Int) - 1) = true := decide_eq_true ⟨by omega, by omega⟩
    refine ⟨by rw [hy.2, hd], ?_⟩
    rw [hy.1]
    unfold dig
    rw [if_pos hd]
    omega
  · have e := dgL_no h
    have hn := fn_no e
    have hd : isD s r 0 ((n : Int) - 1) = false := decide_eq_false (fun k => h ⟨by omega, by omega⟩)
    refine ⟨by rw [hn.2, hd], ?_⟩
    rw [hn.1]
    unfold dig
    rw [if_neg (by rw [hd]; simp)]
    rfl

set_option maxHeartbeats 800000 in
theorem levelP_any (b sb : Nat) (s : ByteArray) (r : Rd) (n : Nat) (w : World) (H : RdAt w b s r) (O : RdOk s r) (c3 : w.cell? ⟨b, 3, none⟩ = some (.pointer (some ⟨sb, 0, none⟩))) (cN : w.cell? ⟨sb, 0, none⟩ = some (.int .i64 n)) (h1 : 1 ≤ n) (h6 : n ≤ 6) :
    Calls Tryz.prog 175 #[.pointer (some ⟨b, 0, none⟩)] w fun e w' => e = .returned (.int .i64 (dig s r 0 ((n : Int) - 1))) ∧ RdTo w w' b (digR s r 0 ((n : Int) - 1)) := by
  have hb := dg_set h1 h6
  have hz : NoZ ((ByteArray.mk #[48, 49, 50, 51, 52, 53, 54, 55, 56, 57]).extract 0 n) := fun x hx => by
    rw [hb] at hx
    obtain ⟨i, _, rfl⟩ := List.mem_map.1 hx
    omega
  have hsz : ((ByteArray.mk #[48, 49, 50, 51, 52, 53, 54, 55, 56, 57]).extract 0 n).size ≤ 300 := by
    rw [← bl_len, hb, dgL_len]; omega
  have hT := takesP_any b s _ r w H O hz hsz
  have hl := lev_see (s := s) (r := r) hb
  rw [hl.2, hl.1] at hT
  have hT : Calls Tryz.prog 173 #[.pointer (some ⟨b, 0, none⟩), .string ((ByteArray.mk #[48, 49, 50, 51, 52, 53, 54, 55, 56, 57]).extract 0 n)] w fun e w' => e = .returned (.int .i64 (dig s r 0 ((n : Int) - 1))) ∧ RdTo w w' b (digR s r 0 ((n : Int) - 1)) := hT
  generalize dig s r 0 ((n : Int) - 1) = d at *
  generalize digR s r 0 ((n : Int) - 1) = r2 at *
  replace hT : Kp _ := ⟨hT⟩
  have hni : (n : Int) ≤ 10 := by omega
  have hn10 : n ≤ 10 := by omega
  clear hb hz hsz hl H O h1 h6
  go_enter Tryz.func175, Tryz.ntmps175
  go_wp2_with fail
  refine hT.out.mono ?_
  rintro e w1 ⟨rfl, T⟩
  go_wp2_with fail
  go_ret
  exact ⟨rfl, T⟩
end Go.Proofs.YtcnbifdlkalimaaGreat

/-
  The walks of the document's reading: a variable; for every text of at most 300 bytes, wherever one stands.
-/
namespace Go.Proofs.YtcnbifdlkalimaaGreat
open Go.RowKit
set_option linter.unusedVariables false
set_option maxRecDepth 100000

theorem bl_bs {l : List Int} (h : ∀ x ∈ l, 0 ≤ x ∧ x ≤ 255) : bl (bs l) = l := by
  apply List.ext_getElem?
  intro i
  by_cases hi : i < l.length
  · have e : l[i]? = some l[i] := List.getElem?_eq_getElem hi
    obtain ⟨h0, h1⟩ := h l[i] (List.getElem_mem hi)
    rw [bl_get (by rw [bs_size]; exact hi), bv_bs e h0 h1, e]
  · rw [List.getElem?_eq_none (by rw [bl_len, bs_size]; omega), List.getElem?_eq_none (by omega)]

/-- letters -/
def Lets (ls : List Int) : Prop := ls.length ≤ 8 ∧ ∀ x ∈ ls, 97 ≤ x ∧ x ≤ 104
theorem Lets.bl {ls : List Int} (h : Lets ls) : bl (bs ls) = ls := bl_bs fun x hx => by have := h.2 x hx; omega
theorem Lets.noz {ls : List Int} (h : Lets ls) : NoZ (bs ls) := fun x hx => by rw [h.bl] at hx; have := h.2 x hx; omega

theorem lets_all : bl ⟨#[97, 98, 99, 100, 101, 102, 103, 104]⟩ = [97, 98, 99, 100, 101, 102, 103, 104] := by decide
theorem see_let (s : ByteArray) (r : Rd) : seeB s ⟨#[97, 98, 99, 100, 101, 102, 103, 104]⟩ r = isL (tok s r) := by
  unfold seeB
  rw [lets_all]
  generalize tok s r = t
  by_cases h : 97 ≤ t ∧ t ≤ 104
  · have hc : t = 97 ∨ t = 98 ∨ t = 99 ∨ t = 100 ∨ t = 101 ∨ t = 102 ∨ t = 103 ∨ t = 104 := by omega
    rcases hc with rfl | rfl | rfl | rfl | rfl | rfl | rfl | rfl <;> decide
  · have h2 : isL t = false := decide_eq_false h
    rw [h2]
    refine (fn_no (fnd_none fun j hj e => ?_)).2
    have := List.mem_of_getElem? e
    simp at this
    omega
theorem see_ls {s : ByteArray} {r : Rd} {ls : List Int} (h : Lets ls) : seeB s (bs ls) r = varOk s r ls ∧ fnI (tok s r) (bl (bs ls)) = varI s r ls := by
  unfold seeB varI
  rw [h.bl]
  by_cases hf : fnd (tok s r) ls < ls.length
  · have h1 := h.2 _ (List.mem_of_getElem? (fnd_at hf))
    have h2 : isL (tok s r) = true := decide_eq_true h1
    have h3 : varOk s r ls = true := by unfold varOk; rw [h2]; simpa using hf
    rw [h3]
    exact ⟨decide_eq_true hf, by unfold fnI; rw [if_pos hf]; rfl⟩
  · have h3 : varOk s r ls = false := by unfold varOk; simp [hf]
    rw [h3]
    exact ⟨decide_eq_false hf, by unfold fnI; rw [if_neg hf]; rfl⟩
theorem letsZ : NoZ ⟨#[97, 98, 99, 100, 101, 102, 103, 104]⟩ := fun x hx => by rw [lets_all] at hx; simp at hx; omega
theorem emptyZ : NoZ ⟨#[]⟩ := fun x hx => by simp [bl] at hx

set_option maxHeartbeats 1600000 in
theorem variableP_any (b sb : Nat) (s : ByteArray) (r : Rd) (ls : List Int) (w : World) (H : RdAt w b s r) (O : RdOk s r) (c3 : w.cell? ⟨b, 3, none⟩ = some (.pointer (some ⟨sb, 0, none⟩))) (hne : sb ≠ b) (cL : w.cell? ⟨sb, 2, none⟩ = some (.string (bs ls))) (hl : Lets ls) :
    Calls Tryz.prog 198 #[.pointer (some ⟨b, 0, none⟩)] w fun e w' => e = .returned (.int .i64 (varI s r ls : Nat)) ∧ RdTo w w' b (varR s r ls) := by
  have hv := see_ls (s := s) (r := r) hl
  have hsz : (bs ls).size ≤ 300 := by rw [bs_size]; have := hl.1; omega
  have hS := sees_any b s (bs ls) r w H O hl.noz hsz
  rw [hv.1] at hS
  replace hS : Kp _ := ⟨hS⟩
  have key : Kp (∀ w1, RdTo w w1 b (adv s r) → RdAt w1 b s (adv s r) ∧ w1.cell? ⟨b, 3, none⟩ = some (.pointer (some ⟨sb, 0, none⟩)) ∧ w1.cell? ⟨sb, 2, none⟩ = some (.string (bs ls))) := ⟨fun w1 T => ⟨H.to T, (T.cell 3 (by omega) (by omega)).trans c3, by rw [World.cell?_of_block (w := w) (T.block sb hne)]; exact cL⟩⟩
  have hZ : Kp (NoZ (bs ls)) := ⟨hl.noz⟩
  have hsz' : Kp _ := ⟨hsz⟩
  have O1 : Kp (RdOk s (adv s r)) := ⟨O.adv⟩
  have hvR : Kp _ := ⟨hv⟩
  clear hv hsz
  obtain ⟨V, hV⟩ : ∃ V, bs ls = V := ⟨_, rfl⟩
  rw [hV] at cL hS key hZ hsz' hvR
  clear hV
  go_enter Tryz.func198, Tryz.ntmps198
  go_wp2_with fail
  refine hS.out.mono ?_
  rintro e w1 ⟨rfl, T1⟩
  obtain ⟨H1, c31, cL1⟩ := key.out w1 T1
  have hS2 := sees_any b s ⟨#[97, 98, 99, 100, 101, 102, 103, 104]⟩ (adv s r) w1 H1 O1.out letsZ (by decide)
  rw [see_let, tok_adv, adv_adv] at hS2
  replace hS2 : Kp _ := ⟨hS2⟩
  replace T1 : Kp _ := ⟨T1⟩
  clear H1 hS c3 cL
  by_cases ho : varOk s r ls = true
  · rw [ho]
    go_wp2_with fail
    refine hS2.out.mono ?_
    rintro e w2 ⟨rfl, T2⟩
    have T12 := T1.out.trans T2
    obtain ⟨H2, c32, cL2⟩ := key.out w2 T12
    have hT := takesP_any b s V (adv s r) w2 H2 O1.out hZ.out hsz'.out
    have e1 : seeB s V (adv s r) = varOk s r ls := by unfold seeB; rw [tok_adv]; exact hvR.out.1
    rw [e1, tok_adv, hvR.out.2, ho, tkIf_adv] at hT
    have e2 : varR s r ls = tkIf s r true 11 := by unfold varR; rw [ho]; rfl
    replace e2 : Kp _ := ⟨e2⟩
    replace hT : Kp _ := ⟨hT⟩
    replace T12 : Kp _ := ⟨T12⟩
    clear H2 T2 c31 cL1 e1 hvR
    generalize isL (tok s r) = il at *
    go_wp2_with fail
    refine hT.out.mono ?_
    rintro e w3 ⟨rfl, T3⟩
    go_wp2_with fail
    go_ret
    exact ⟨rfl, by rw [e2.out]; exact T12.out.trans T3⟩
  · have ho : varOk s r ls = false := by simpa using ho
    rw [ho]
    have e0 : varI s r ls = 0 := by unfold varI; rw [ho]; rfl
    replace e0 : Kp _ := ⟨e0⟩
    cases hi : isL (tok s r) with
    | true =>
      rw [hi] at hS2
      have he : r.er = 0 := (tok_pos (s := s) (r := r) (by have := of_decide_eq_true hi; omega)).1
      have e2 : varR s r ls = ⟨(adv s r).a, 12⟩ := by
        unfold varR tkIf
        rw [ho, hi, if_neg (by simp), if_pos rfl]
        unfold rfs
        rw [if_pos (by rw [adv_er]; exact he)]
      replace e2 : Kp _ := ⟨e2⟩
      go_wp2_with fail
      refine hS2.out.mono ?_
      rintro e w2 ⟨rfl, T2⟩
      have T12 := T1.out.trans T2
      obtain ⟨H2, c32, cL2⟩ := key.out w2 T12
      have c2 := H2.c2
      have f2 := H2.f2
      have hlt := H2.lt
      have T3 := RdTo.setE H2 12
      clear T2 c31 cL1 c32 cL2
      replace H2 : Kp _ := ⟨H2⟩
      replace T3 : Kp _ := ⟨T3⟩
      replace T12 : Kp _ := ⟨T12⟩
      go_wp2_with fail
      go_ret
      exact ⟨by rw [e0.out]; rfl, by rw [e2.out]; exact T12.out.trans T3.out⟩
    | false =>
      rw [hi] at hS2
      have e2 : varR s r ls = tkIf s r false 11 := by unfold varR; rw [ho, hi]; rfl
      replace e2 : Kp _ := ⟨e2⟩
      go_wp2_with fail
      refine hS2.out.mono ?_
      rintro e w2 ⟨rfl, T2⟩
      have T12 := T1.out.trans T2
      obtain ⟨H2, c32, cL2⟩ := key.out w2 T12
      have hT := takesP_any b s ⟨#[]⟩ (adv s r) w2 H2 O1.out emptyZ (by decide)
      have e1 : seeB s ⟨#[]⟩ (adv s r) = false := rfl
      have e3 : fnI (tok s (adv s r)) (bl ⟨#[]⟩) = 0 := rfl
      rw [e1, e3, tkIf_adv] at hT
      replace hT : Kp _ := ⟨hT⟩
      replace T12 : Kp _ := ⟨T12⟩
      clear H2 T2 c31 cL1 e1 e3 c32 cL2
      go_wp2_with fail
      refine hT.out.mono ?_
      rintro e w3 ⟨rfl, T3⟩
      go_wp2_with fail
      go_ret
      exact ⟨by rw [e0.out]; rfl, by rw [e2.out]; exact T12.out.trans T3⟩
end Go.Proofs.YtcnbifdlkalimaaGreat
