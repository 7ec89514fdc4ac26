import Derived.Test.YtcnbifdlkalimabGreatLat1
import Derived.Test.YtcnbifdlkalimabGreatPlain2

/-
  The walks of the package lattice, second part: the searches over a table that is an order, a join, a meet, a lattice; for every table, the levels within it.
-/
namespace Go.Proofs.YtcnbifdlkalimabGreat
open Go.RowKit

set_option maxHeartbeats 400000 in
theorem refl_any {s : ByteArray} {n : Int} (ht : Tab s n) (w : World) :
    Calls Tryz.prog 175 #[.agg #[.int .i64 n, .string s]] w fun e w' => e = .returned (.bool (pRefl s n)) ∧ Below w.heap.size w w' := by
  obtain ⟨t1, t2, -⟩ := id ht
  go_enter Tryz.func175, Tryz.ntmps175
  go_wp2
  go_loopw [3] (fun c wr => ∃ k : Nat, (k : Int) ≤ n ∧ c = .int .i64 k ∧ Hid (∀ i : Nat, i < k → le s n i i = true) ∧ Box2 w wr (.int .i64 n) (.string s)) (fun c _ => n.toNat - (intOf c).toNat)
  case atStart => exact ⟨0, by omega, rfl, fun i hi => absurd hi (by omega), Box2.mk' w _ _ _⟩
  case round =>
    obtain ⟨k, hk, rfl, hall, hbox⟩ := hrel
    obtain ⟨q0, q1, q2, q3⟩ := id hbox
    by_cases hlt : (k : Int) < n
    · go_wp2_with fail
      refine (below_any ht k k wr (by omega) hlt (by omega) hlt).mono ?_
      rintro e w1 ⟨rfl, hb1⟩
      replace hbox := hbox.step hb1
      clear q0 q1 q2 q3 hb1
      obtain ⟨q0, q1, q2, q3⟩ := id hbox
      generalize hx : le s n k k = x
      have hx : Hid _ := hx
      cases x <;> go_wp2
      · go_ret
        exact ⟨ret_bool (allTo_false (f := fun a => le s n a a) (i := k) (by omega) hx.out).symm, q0⟩
      · go_roundw
        case rel => exact ⟨k + 1, by omega, by go_num, all_more (p := fun a => le s n a a) hall.out hx.out, hbox⟩
        case measure => simp [intOf]; omega
    · go_wp2
      go_ret
      exact ⟨ret_bool (allTo_true.2 (fun i hi => hall.out i (by omega))).symm, q0⟩

set_option maxHeartbeats 800000 in
theorem anti_any {s : ByteArray} {n : Int} (ht : Tab s n) (w : World) :
    Calls Tryz.prog 176 #[.agg #[.int .i64 n, .string s]] w fun e w' => e = .returned (.bool (pAnti s n)) ∧ Below w.heap.size w w' := by
  obtain ⟨t1, t2, -⟩ := id ht
  go_enter Tryz.func176, Tryz.ntmps176
  go_wp2
  go_loopw [3] (fun c wr => ∃ k : Nat, (k : Int) ≤ n ∧ c = .int .i64 k ∧ Hid (∀ i : Nat, i < k → allTo (fun b => decide (b ≤ (i : Int)) || !(le s n i b && le s n b i)) n.toNat = true) ∧ Box2 w wr (.int .i64 n) (.string s)) (fun c _ => n.toNat - (intOf c).toNat)
  case atStart => exact ⟨0, by omega, rfl, fun i hi => absurd hi (by omega), Box2.mk' w _ _ _⟩
  case round =>
    obtain ⟨k, hk, rfl, hall, hbox⟩ := hrel
    obtain ⟨q0, q1, q2, q3⟩ := id hbox
    by_cases hlt : (k : Int) < n
    · go_wp2_with fail
      go_loopw [4] (fun c wr => ∃ m : Nat, k + 1 ≤ m ∧ (m : Int) ≤ n ∧ c = .int .i64 m ∧ Hid (∀ i : Nat, i < m → (fun b => decide (b ≤ (k : Int)) || !(le s n k b && le s n b k)) i = true) ∧ Box2 w wr (.int .i64 n) (.string s)) (fun c _ => n.toNat - (intOf c).toNat)
      case atStart =>
        refine ⟨k + 1, by omega, by omega, by go_num, fun i hi => ?_, hbox⟩
        have : (i : Int) ≤ k := by omega
        simp [this]
      case round =>
        clear hbox q0 q1 q2 q3
        obtain ⟨m, hm0, hm, rfl, hin, hbox⟩ := hrel
        obtain ⟨q0, q1, q2, q3⟩ := id hbox
        by_cases hlt2 : (m : Int) < n
        · go_wp2_with fail
          refine (below_any ht k m _ (by omega) hlt (by omega) hlt2).mono ?_
          rintro e w1 ⟨rfl, hb1⟩
          replace hbox := hbox.step hb1
          clear q0 q1 q2 q3 hb1
          obtain ⟨q0, q1, q2, q3⟩ := id hbox
          go_wp2_with fail
          refine (below_any ht m k _ (by omega) hlt2 (by omega) hlt).mono ?_
          rintro e w1 ⟨rfl, hb1⟩
          replace hbox := hbox.step hb1
          clear q0 q1 q2 q3 hb1
          obtain ⟨q0, q1, q2, q3⟩ := id hbox
          generalize hx : le s n k m = x
          generalize hy : le s n m k = y
          have hx : Hid _ := hx
          have hy : Hid _ := hy
          have done : Hid ((!(x && y)) = true → ∀ i : Nat, i < m + 1 → (fun b => decide (b ≤ (k : Int)) || !(le s n k b && le s n b k)) i = true) :=
            fun h => all_more (p := (fun b => decide (b ≤ (k : Int)) || !(le s n k b && le s n b k))) hin.out (by rw [hx.out, hy.out, h]; simp)
          cases x <;> cases y <;> go_wp2
          rotate_left 3
          · go_ret
            refine ⟨ret_bool ?_, q0⟩
            refine (allTo_false (i := k) (by omega) ?_).symm
            refine allTo_false (i := m) (by omega) ?_
            have : ¬ (m : Int) ≤ k := by omega
            simp [hx.out, hy.out, this]
          all_goals
            go_roundw
            case rel => exact ⟨m + 1, by omega, by omega, by go_num, done.out rfl, hbox⟩
            case measure => simp [intOf]; omega
        · have done : Hid (∀ i : Nat, i < k + 1 → allTo (fun b => decide (b ≤ (i : Int)) || !(le s n i b && le s n b i)) n.toNat = true) :=
            all_more (p := fun a => allTo (fun b => decide (b ≤ a) || !(le s n a b && le s n b a)) n.toNat) hall.out (allTo_true.2 (fun i hi => hin.out i (by omega)))
          go_wp2
          go_roundw
          case rel => exact ⟨k + 1, by omega, by go_num, done, hbox⟩
          case measure => simp [intOf]; omega
    · go_wp2
      go_ret
      exact ⟨ret_bool (allTo_true.2 (fun i hi => hall.out i (by omega))).symm, q0⟩

set_option maxHeartbeats 800000 in
theorem trans_any {s : ByteArray} {n : Int} (ht : Tab s n) (w : World) :
    Calls Tryz.prog 177 #[.agg #[.int .i64 n, .string s]] w fun e w' => e = .returned (.bool (pTrans s n)) ∧ Below w.heap.size w w' := by
  obtain ⟨t1, t2, -⟩ := id ht
  go_enter Tryz.func177, Tryz.ntmps177
  go_wp2
  go_loopw [3] (fun c wr => ∃ k : Nat, (k : Int) ≤ n ∧ c = .int .i64 k ∧ Hid (∀ i : Nat, i < k → allTo (fun b => !(le s n i b) || pReach s n i b) n.toNat = true) ∧ Box2 w wr (.int .i64 n) (.string s)) (fun c _ => n.toNat - (intOf c).toNat)
  case atStart => exact ⟨0, by omega, rfl, fun i hi => absurd hi (by omega), Box2.mk' w _ _ _⟩
  case round =>
    obtain ⟨k, hk, rfl, hall, hbox⟩ := hrel
    obtain ⟨q0, q1, q2, q3⟩ := id hbox
    by_cases hlt : (k : Int) < n
    · go_wp2_with fail
      go_loopw [4] (fun c wr => ∃ m : Nat, (m : Int) ≤ n ∧ c = .int .i64 m ∧ Hid (∀ i : Nat, i < m → (fun b => !(le s n k b) || pReach s n k b) i = true) ∧ Box2 w wr (.int .i64 n) (.string s)) (fun c _ => n.toNat - (intOf c).toNat)
      case atStart => exact ⟨0, by omega, rfl, fun i hi => absurd hi (by omega), hbox⟩
      case round =>
        clear hbox q0 q1 q2 q3
        obtain ⟨m, hm, rfl, hin, hbox⟩ := hrel
        obtain ⟨q0, q1, q2, q3⟩ := id hbox
        by_cases hlt2 : (m : Int) < n
        · go_wp2_with fail
          refine (below_any ht k m _ (by omega) hlt (by omega) hlt2).mono ?_
          rintro e w1 ⟨rfl, hb1⟩
          replace hbox := hbox.step hb1
          clear q0 q1 q2 q3 hb1
          obtain ⟨q0, q1, q2, q3⟩ := id hbox
          generalize hx : le s n k m = x
          have hx : Hid _ := hx
          cases x
          · go_wp2
            go_roundw
            case rel => exact ⟨m + 1, by omega, by go_num, all_more (p := (fun b => !(le s n k b) || pReach s n k b)) hin.out (by simp [hx.out]), hbox⟩
            case measure => simp [intOf]; omega
          · go_wp2_with fail
            refine (reaches_any ht k m _ (by omega) hlt (by omega) hlt2).mono ?_
            rintro e w1 ⟨rfl, hb1⟩
            replace hbox := hbox.step hb1
            clear q0 q1 q2 q3 hb1
            obtain ⟨q0, q1, q2, q3⟩ := id hbox
            generalize hy : pReach s n k m = y
            have hy : Hid _ := hy
            cases y <;> go_wp2
            · go_ret
              refine ⟨ret_bool ?_, q0⟩
              refine (allTo_false (i := k) (by omega) ?_).symm
              exact allTo_false (i := m) (by omega) (by simp [hx.out, hy.out])
            · go_roundw
              case rel => exact ⟨m + 1, by omega, by go_num, all_more (p := (fun b => !(le s n k b) || pReach s n k b)) hin.out (by simp [hy.out]), hbox⟩
              case measure => simp [intOf]; omega
        · have done : Hid (∀ i : Nat, i < k + 1 → allTo (fun b => !(le s n i b) || pReach s n i b) n.toNat = true) :=
            all_more (p := fun a => allTo (fun b => !(le s n a b) || pReach s n a b) n.toNat) hall.out (allTo_true.2 (fun i hi => hin.out i (by omega)))
          go_wp2
          go_roundw
          case rel => exact ⟨k + 1, by omega, by go_num, done, hbox⟩
          case measure => simp [intOf]; omega
    · go_wp2
      go_ret
      exact ⟨ret_bool (allTo_true.2 (fun i hi => hall.out i (by omega))).symm, q0⟩

set_option maxHeartbeats 400000 in
theorem order_any {s : ByteArray} {n : Int} (ht : Tab s n) (w : World) :
    Calls Tryz.prog 112 #[.agg #[.int .i64 n, .string s]] w fun e w' => e = .returned (.bool (pOrder s n)) ∧ Below w.heap.size w w' := by
  have hbox := Box2.mk' w (.int .i64 n) (.string s) 54
  obtain ⟨q0, q1, q2, q3⟩ := id hbox
  go_enter Tryz.func112, Tryz.ntmps112
  go_wp2_with fail
  refine (refl_any ht _).mono ?_
  rintro e w1 ⟨rfl, hb1⟩
  replace hbox := hbox.step hb1
  clear q0 q1 q2 q3 hb1
  obtain ⟨q0, q1, q2, q3⟩ := id hbox
  generalize hx : pRefl s n = x
  have hx : Hid _ := hx
  cases x
  · go_wp2
    go_ret
    exact ⟨ret_bool (by unfold pOrder; rw [hx.out]; rfl), q0⟩
  · go_wp2_with fail
    refine (anti_any ht _).mono ?_
    rintro e w1 ⟨rfl, hb1⟩
    replace hbox := hbox.step hb1
    clear q0 q1 q2 q3 hb1
    obtain ⟨q0, q1, q2, q3⟩ := id hbox
    generalize hy : pAnti s n = y
    have hy : Hid _ := hy
    cases y
    · go_wp2
      go_ret
      exact ⟨ret_bool (by unfold pOrder; rw [hx.out, hy.out]; rfl), q0⟩
    · go_wp2_with fail
      refine (trans_any ht _).mono ?_
      rintro e w1 ⟨rfl, hb1⟩
      replace hbox := hbox.step hb1
      clear q0 q1 q2 q3 hb1
      obtain ⟨q0, q1, q2, q3⟩ := id hbox
      go_wp2
      go_ret
      exact ⟨ret_bool (by unfold pOrder; rw [hx.out, hy.out]; simp), q0⟩

set_option maxHeartbeats 400000 in
theorem above_any {s : ByteArray} {n : Int} (ht : Tab s n) (a b c : Int) (w : World) (ha : 0 ≤ a) (ha' : a < n) (hb : 0 ≤ b) (hb' : b < n) (hc : 0 ≤ c) (hc' : c < n) :
    Calls Tryz.prog 170 #[.agg #[.int .i64 n, .string s], .int .i64 a, .int .i64 b, .int .i64 c] w fun e w' => e = .returned (.bool (pAbove s n a b c)) ∧ Below w.heap.size w w' := by
  have hbox := Box2.mk' w (.int .i64 n) (.string s) 54
  obtain ⟨q0, q1, q2, q3⟩ := id hbox
  go_enter Tryz.func170, Tryz.ntmps170
  go_wp2_with fail
  refine (below_any ht a c _ ha ha' hc hc').mono ?_
  rintro e w1 ⟨rfl, hb1⟩
  replace hbox := hbox.step hb1
  clear q0 q1 q2 q3 hb1
  obtain ⟨q0, q1, q2, q3⟩ := id hbox
  go_wp2_with fail
  refine (below_any ht b c _ hb hb' hc hc').mono ?_
  rintro e w1 ⟨rfl, hb1⟩
  replace hbox := hbox.step hb1
  clear q0 q1 q2 q3 hb1
  obtain ⟨q0, q1, q2, q3⟩ := id hbox
  have hd : pAbove s n a b c = (le s n a c && le s n b c) := rfl
  generalize le s n a c = x at hd ⊢
  generalize le s n b c = y at hd ⊢
  have hd' : Hid _ := hd
  clear hd
  cases x <;> cases y <;> go_wp2 <;> go_ret <;> exact ⟨ret_bool hd'.out.symm, q0⟩

set_option maxHeartbeats 400000 in
theorem under_any {s : ByteArray} {n : Int} (ht : Tab s n) (a b c : Int) (w : World) (ha : 0 ≤ a) (ha' : a < n) (hb : 0 ≤ b) (hb' : b < n) (hc : 0 ≤ c) (hc' : c < n) :
    Calls Tryz.prog 226 #[.agg #[.int .i64 n, .string s], .int .i64 a, .int .i64 b, .int .i64 c] w fun e w' => e = .returned (.bool (pBelow s n a b c)) ∧ Below w.heap.size w w' := by
  have hbox := Box2.mk' w (.int .i64 n) (.string s) 54
  obtain ⟨q0, q1, q2, q3⟩ := id hbox
  go_enter Tryz.func226, Tryz.ntmps226
  go_wp2_with fail
  refine (below_any ht c a _ hc hc' ha ha').mono ?_
  rintro e w1 ⟨rfl, hb1⟩
  replace hbox := hbox.step hb1
  clear q0 q1 q2 q3 hb1
  obtain ⟨q0, q1, q2, q3⟩ := id hbox
  go_wp2_with fail
  refine (below_any ht c b _ hc hc' hb hb').mono ?_
  rintro e w1 ⟨rfl, hb1⟩
  replace hbox := hbox.step hb1
  clear q0 q1 q2 q3 hb1
  obtain ⟨q0, q1, q2, q3⟩ := id hbox
  have hd : pBelow s n a b c = (le s n c a && le s n c b) := rfl
  generalize le s n c a = x at hd ⊢
  generalize le s n c b = y at hd ⊢
  have hd' : Hid _ := hd
  clear hd
  cases x <;> cases y <;> go_wp2 <;> go_ret <;> exact ⟨ret_bool hd'.out.symm, q0⟩

set_option maxHeartbeats 800000 in
theorem isJoin_any {s : ByteArray} {n : Int} (ht : Tab s n) (a b c : Int) (w : World) (ha : 0 ≤ a) (ha' : a < n) (hb : 0 ≤ b) (hb' : b < n) (hc : 0 ≤ c) (hc' : c < n) :
    Calls Tryz.prog 100 #[.agg #[.int .i64 n, .string s], .int .i64 a, .int .i64 b, .int .i64 c] w fun e w' => e = .returned (.bool (pIsJoin s n a b c)) ∧ Below w.heap.size w w' := by
  obtain ⟨t1, t2, -⟩ := id ht
  have hbox := Box2.mk' w (.int .i64 n) (.string s) 54
  obtain ⟨q0, q1, q2, q3⟩ := id hbox
  go_enter Tryz.func100, Tryz.ntmps100
  go_wp2_with fail
  refine (above_any ht a b c _ ha ha' hb hb' hc hc').mono ?_
  rintro e w1 ⟨rfl, hb1⟩
  replace hbox := hbox.step hb1
  clear q0 q1 q2 q3 hb1
  obtain ⟨q0, q1, q2, q3⟩ := id hbox
  generalize hz : pAbove s n a b c = z
  have hz : Hid _ := hz
  cases z
  · go_wp2
    go_ret
    exact ⟨ret_bool (by unfold pIsJoin; rw [hz.out]; rfl), q0⟩
  · go_wp2_with fail
    go_loopw [9] (fun c' wr => ∃ k : Nat, (k : Int) ≤ n ∧ c' = .int .i64 k ∧ Hid (∀ i : Nat, i < k → (fun d => d == c || (!(pAbove s n a b d) || le s n c d)) i = true) ∧ Box2 w wr (.int .i64 n) (.string s)) (fun c' _ => n.toNat - (intOf c').toNat)
    case atStart => exact ⟨0, by omega, rfl, fun i hi => absurd hi (by omega), hbox⟩
    case round =>
      clear hbox q0 q1 q2 q3
      obtain ⟨k, hk, rfl, hall, hbox⟩ := hrel
      obtain ⟨q0, q1, q2, q3⟩ := id hbox
      by_cases hlt : (k : Int) < n
      · go_wp2_with fail
        refine (above_any ht a b k _ ha ha' hb hb' (by omega) hlt).mono ?_
        rintro e w1 ⟨rfl, hb1⟩
        replace hbox := hbox.step hb1
        clear q0 q1 q2 q3 hb1
        obtain ⟨q0, q1, q2, q3⟩ := id hbox
        go_wp2_with fail
        refine (below_any ht c k _ hc hc' (by omega) hlt).mono ?_
        rintro e w1 ⟨rfl, hb1⟩
        replace hbox := hbox.step hb1
        clear q0 q1 q2 q3 hb1
        obtain ⟨q0, q1, q2, q3⟩ := id hbox
        generalize hx : pAbove s n a b k = x
        generalize hy : le s n c k = y
        have hx : Hid _ := hx
        have hy : Hid _ := hy
        by_cases hkc : (k : Int) = c
        · have hkc1 : ((k : Int) != c) = false := by simpa using hkc
          have done : Hid (∀ i : Nat, i < k + 1 → (fun d => d == c || (!(pAbove s n a b d) || le s n c d)) i = true) := all_more (p := (fun d => d == c || (!(pAbove s n a b d) || le s n c d))) hall.out (by simp [hkc])
          clear hkc
          cases x <;> cases y <;> go_wp2
          all_goals
            go_roundw
            case rel => exact ⟨k + 1, by omega, by go_num, done, hbox⟩
            case measure => simp [intOf]; omega
        · have hkc1 : ((k : Int) != c) = true := by simpa using hkc
          have hkc2 : Hid _ := hkc
          clear hkc
          have done : Hid ((!x || y) = true → ∀ i : Nat, i < k + 1 → (fun d => d == c || (!(pAbove s n a b d) || le s n c d)) i = true) :=
            fun h => all_more (p := (fun d => d == c || (!(pAbove s n a b d) || le s n c d))) hall.out (by rw [hx.out, hy.out, h]; simp)
          cases x <;> cases y <;> go_wp2
          rotate_left 2
          · go_ret
            refine ⟨ret_bool ?_, q0⟩
            unfold pIsJoin
            rw [hz.out, allTo_false (i := k) (by omega) (by simp [hx.out, hy.out]; exact hkc2.out)]
            rfl
          all_goals
            go_roundw
            case rel => exact ⟨k + 1, by omega, by go_num, done.out rfl, hbox⟩
            case measure => simp [intOf]; omega
      · go_wp2
        go_ret
        refine ⟨ret_bool ?_, q0⟩
        unfold pIsJoin
        rw [hz.out, allTo_true.2 (fun i hi => hall.out i (by omega))]
        rfl

set_option maxHeartbeats 800000 in
theorem join_any {s : ByteArray} {n : Int} (ht : Tab s n) (a b : Int) (w : World) (ha : 0 ≤ a) (ha' : a < n) (hb : 0 ≤ b) (hb' : b < n) :
    Calls Tryz.prog 45 #[.agg #[.int .i64 n, .string s], .int .i64 a, .int .i64 b] w fun e w' => e = .returned (.tuple #[.int .i64 ((pJoin s n a b).getD 0), .bool (pJoin s n a b).isSome]) ∧ Below w.heap.size w w' := by
  obtain ⟨t1, t2, -⟩ := id ht
  go_enter Tryz.func45, Tryz.ntmps45
  go_wp2
  go_loopw [8] (fun c wr => ∃ k : Nat, (k : Int) ≤ n ∧ c = .int .i64 k ∧ Hid (∀ i : Nat, i < k → pIsJoin s n a b i = false) ∧ Box2 w wr (.int .i64 n) (.string s)) (fun c _ => n.toNat - (intOf c).toNat)
  case atStart => exact ⟨0, by omega, rfl, fun i hi => absurd hi (by omega), Box2.mk' w _ _ _⟩
  case round =>
    obtain ⟨k, hk, rfl, hall, hbox⟩ := hrel
    obtain ⟨q0, q1, q2, q3⟩ := id hbox
    by_cases hlt : (k : Int) < n
    · go_wp2_with fail
      refine (isJoin_any ht a b k _ ha ha' hb hb' (by omega) hlt).mono ?_
      rintro e w1 ⟨rfl, hb1⟩
      replace hbox := hbox.step hb1
      clear q0 q1 q2 q3 hb1
      obtain ⟨q0, q1, q2, q3⟩ := id hbox
      generalize hx : pIsJoin s n a b k = x
      have hx : Hid _ := hx
      cases x <;> go_wp2
      · go_roundw
        case rel => exact ⟨k + 1, by omega, by go_num, none_more hall.out hx.out, hbox⟩
        case measure => simp [intOf]; omega
      · go_ret2
        have e : pJoin s n a b = some (k : Int) := firstTo_some (by omega) hall.out hx.out
        rw [e]
        exact ⟨rfl, q0⟩
    · go_wp2
      go_ret2
      have e : pJoin s n a b = none := firstTo_none (fun i hi => hall.out i (by omega))
      rw [e]
      exact ⟨rfl, q0⟩

set_option maxHeartbeats 800000 in
theorem isMeet_any {s : ByteArray} {n : Int} (ht : Tab s n) (a b c : Int) (w : World) (ha : 0 ≤ a) (ha' : a < n) (hb : 0 ≤ b) (hb' : b < n) (hc : 0 ≤ c) (hc' : c < n) :
    Calls Tryz.prog 199 #[.agg #[.int .i64 n, .string s], .int .i64 a, .int .i64 b, .int .i64 c] w fun e w' => e = .returned (.bool (pIsMeet s n a b c)) ∧ Below w.heap.size w w' := by
  obtain ⟨t1, t2, -⟩ := id ht
  have hbox := Box2.mk' w (.int .i64 n) (.string s) 54
  obtain ⟨q0, q1, q2, q3⟩ := id hbox
  go_enter Tryz.func199, Tryz.ntmps199
  go_wp2_with fail
  refine (under_any ht a b c _ ha ha' hb hb' hc hc').mono ?_
  rintro e w1 ⟨rfl, hb1⟩
  replace hbox := hbox.step hb1
  clear q0 q1 q2 q3 hb1
  obtain ⟨q0, q1, q2, q3⟩ := id hbox
  generalize hz : pBelow s n a b c = z
  have hz : Hid _ := hz
  cases z
  · go_wp2
    go_ret
    exact ⟨ret_bool (by unfold pIsMeet; rw [hz.out]; rfl), q0⟩
  · go_wp2_with fail
    go_loopw [9] (fun c' wr => ∃ k : Nat, (k : Int) ≤ n ∧ c' = .int .i64 k ∧ Hid (∀ i : Nat, i < k → (fun d => d == c || (!(pBelow s n a b d) || le s n d c)) i = true) ∧ Box2 w wr (.int .i64 n) (.string s)) (fun c' _ => n.toNat - (intOf c').toNat)
    case atStart => exact ⟨0, by omega, rfl, fun i hi => absurd hi (by omega), hbox⟩
    case round =>
      clear hbox q0 q1 q2 q3
      obtain ⟨k, hk, rfl, hall, hbox⟩ := hrel
      obtain ⟨q0, q1, q2, q3⟩ := id hbox
      by_cases hlt : (k : Int) < n
      · go_wp2_with fail
        refine (under_any ht a b k _ ha ha' hb hb' (by omega) hlt).mono ?_
        rintro e w1 ⟨rfl, hb1⟩
        replace hbox := hbox.step hb1
        clear q0 q1 q2 q3 hb1
        obtain ⟨q0, q1, q2, q3⟩ := id hbox
        go_wp2_with fail
        refine (below_any ht k c _ (by omega) hlt hc hc').mono ?_
        rintro e w1 ⟨rfl, hb1⟩
        replace hbox := hbox.step hb1
        clear q0 q1 q2 q3 hb1
        obtain ⟨q0, q1, q2, q3⟩ := id hbox
        generalize hx : pBelow s n a b k = x
        generalize hy : le s n k c = y
        have hx : Hid _ := hx
        have hy : Hid _ := hy
        by_cases hkc : (k : Int) = c
        · have hkc1 : ((k : Int) != c) = false := by simpa using hkc
          have done : Hid (∀ i : Nat, i < k + 1 → (fun d => d == c || (!(pBelow s n a b d) || le s n d c)) i = true) := all_more (p := (fun d => d == c || (!(pBelow s n a b d) || le s n d c))) hall.out (by simp [hkc])
          clear hkc
          cases x <;> cases y <;> go_wp2
          all_goals
            go_roundw
            case rel => exact ⟨k + 1, by omega, by go_num, done, hbox⟩
            case measure => simp [intOf]; omega
        · have hkc1 : ((k : Int) != c) = true := by simpa using hkc
          have hkc2 : Hid _ := hkc
          clear hkc
          have done : Hid ((!x || y) = true → ∀ i : Nat, i < k + 1 → (fun d => d == c || (!(pBelow s n a b d) || le s n d c)) i = true) :=
            fun h => all_more (p := (fun d => d == c || (!(pBelow s n a b d) || le s n d c))) hall.out (by rw [hx.out, hy.out, h]; simp)
          cases x <;> cases y <;> go_wp2
          rotate_left 2
          · go_ret
            refine ⟨ret_bool ?_, q0⟩
            unfold pIsMeet
            rw [hz.out, allTo_false (i := k) (by omega) (by simp [hx.out, hy.out]; exact hkc2.out)]
            rfl
          all_goals
            go_roundw
            case rel => exact ⟨k + 1, by omega, by go_num, done.out rfl, hbox⟩
            case measure => simp [intOf]; omega
      · go_wp2
        go_ret
        refine ⟨ret_bool ?_, q0⟩
        unfold pIsMeet
        rw [hz.out, allTo_true.2 (fun i hi => hall.out i (by omega))]
        rfl

set_option maxHeartbeats 800000 in
theorem meet_any {s : ByteArray} {n : Int} (ht : Tab s n) (a b : Int) (w : World) (ha : 0 ≤ a) (ha' : a < n) (hb : 0 ≤ b) (hb' : b < n) :
    Calls Tryz.prog 146 #[.agg #[.int .i64 n, .string s], .int .i64 a, .int .i64 b] w fun e w' => e = .returned (.tuple #[.int .i64 ((pMeet s n a b).getD 0), .bool (pMeet s n a b).isSome]) ∧ Below w.heap.size w w' := by
  obtain ⟨t1, t2, -⟩ := id ht
  go_enter Tryz.func146, Tryz.ntmps146
  go_wp2
  go_loopw [8] (fun c wr => ∃ k : Nat, (k : Int) ≤ n ∧ c = .int .i64 k ∧ Hid (∀ i : Nat, i < k → pIsMeet s n a b i = false) ∧ Box2 w wr (.int .i64 n) (.string s)) (fun c _ => n.toNat - (intOf c).toNat)
  case atStart => exact ⟨0, by omega, rfl, fun i hi => absurd hi (by omega), Box2.mk' w _ _ _⟩
  case round =>
    obtain ⟨k, hk, rfl, hall, hbox⟩ := hrel
    obtain ⟨q0, q1, q2, q3⟩ := id hbox
    by_cases hlt : (k : Int) < n
    · go_wp2_with fail
      refine (isMeet_any ht a b k _ ha ha' hb hb' (by omega) hlt).mono ?_
      rintro e w1 ⟨rfl, hb1⟩
      replace hbox := hbox.step hb1
      clear q0 q1 q2 q3 hb1
      obtain ⟨q0, q1, q2, q3⟩ := id hbox
      generalize hx : pIsMeet s n a b k = x
      have hx : Hid _ := hx
      cases x <;> go_wp2
      · go_roundw
        case rel => exact ⟨k + 1, by omega, by go_num, none_more hall.out hx.out, hbox⟩
        case measure => simp [intOf]; omega
      · go_ret2
        have e : pMeet s n a b = some (k : Int) := firstTo_some (by omega) hall.out hx.out
        rw [e]
        exact ⟨rfl, q0⟩
    · go_wp2
      go_ret2
      have e : pMeet s n a b = none := firstTo_none (fun i hi => hall.out i (by omega))
      rw [e]
      exact ⟨rfl, q0⟩

set_option maxHeartbeats 800000 in
theorem lat_any {s : ByteArray} {n : Int} (ht : Tab s n) (w : World) :
    Calls Tryz.prog 113 #[.agg #[.int .i64 n, .string s]] w fun e w' => e = .returned (.bool (pLat s n)) ∧ Below w.heap.size w w' := by
  obtain ⟨t1, t2, -⟩ := id ht
  go_enter Tryz.func113, Tryz.ntmps113
  go_wp2
  go_loopw [3] (fun c wr => ∃ k : Nat, (k : Int) ≤ n ∧ c = .int .i64 k ∧ Hid (∀ i : Nat, i < k → allTo (fun b => (pJoin s n i b).isSome && (pMeet s n i b).isSome) n.toNat = true) ∧ Box2 w wr (.int .i64 n) (.string s)) (fun c _ => n.toNat - (intOf c).toNat)
  case atStart => exact ⟨0, by omega, rfl, fun i hi => absurd hi (by omega), Box2.mk' w _ _ _⟩
  case round =>
    obtain ⟨k, hk, rfl, hall, hbox⟩ := hrel
    obtain ⟨q0, q1, q2, q3⟩ := id hbox
    by_cases hlt : (k : Int) < n
    · go_wp2_with fail
      go_loopw [4] (fun c wr => ∃ m : Nat, (m : Int) ≤ n ∧ c = .int .i64 m ∧ Hid (∀ i : Nat, i < m → (fun b => (pJoin s n k b).isSome && (pMeet s n k b).isSome) i = true) ∧ Box2 w wr (.int .i64 n) (.string s)) (fun c _ => n.toNat - (intOf c).toNat)
      case atStart => exact ⟨0, by omega, rfl, fun i hi => absurd hi (by omega), hbox⟩
      case round =>
        clear hbox q0 q1 q2 q3
        obtain ⟨m, hm, rfl, hin, hbox⟩ := hrel
        obtain ⟨q0, q1, q2, q3⟩ := id hbox
        by_cases hlt2 : (m : Int) < n
        · go_wp2_with fail
          refine (join_any ht k m _ (by omega) hlt (by omega) hlt2).mono ?_
          rintro e w1 ⟨rfl, hb1⟩
          replace hbox := hbox.step hb1
          clear q0 q1 q2 q3 hb1
          obtain ⟨q0, q1, q2, q3⟩ := id hbox
          go_wp2_with fail
          refine (meet_any ht k m _ (by omega) hlt (by omega) hlt2).mono ?_
          rintro e w1 ⟨rfl, hb1⟩
          replace hbox := hbox.step hb1
          clear q0 q1 q2 q3 hb1
          obtain ⟨q0, q1, q2, q3⟩ := id hbox
          generalize hx : (pJoin s n k m).isSome = x
          generalize hy : (pMeet s n k m).isSome = y
          have hx : Hid _ := hx
          have hy : Hid _ := hy
          have done : Hid ((x && y) = true → ∀ i : Nat, i < m + 1 → (fun b => (pJoin s n k b).isSome && (pMeet s n k b).isSome) i = true) :=
            fun h => all_more (p := (fun b => (pJoin s n k b).isSome && (pMeet s n k b).isSome)) hin.out (by rw [hx.out, hy.out, h])
          have bad : Hid ((x && y) = false → pLat s n = false) := by
            intro h
            refine allTo_false (i := k) (by omega) ?_
            exact allTo_false (i := m) (by omega) (by rw [hx.out, hy.out, h])
          cases x <;> cases y <;> go_wp2
          rotate_left 3
          · go_roundw
            case rel => exact ⟨m + 1, by omega, by go_num, done.out rfl, hbox⟩
            case measure => simp [intOf]; omega
          all_goals
            go_ret
            exact ⟨ret_bool (bad.out rfl).symm, q0⟩
        · have done : Hid (∀ i : Nat, i < k + 1 → allTo (fun b => (pJoin s n i b).isSome && (pMeet s n i b).isSome) n.toNat = true) :=
            all_more (p := fun a => allTo (fun b => (pJoin s n a b).isSome && (pMeet s n a b).isSome) n.toNat) hall.out (allTo_true.2 (fun i hi => hin.out i (by omega)))
          go_wp2
          go_roundw
          case rel => exact ⟨k + 1, by omega, by go_num, done, hbox⟩
          case measure => simp [intOf]; omega
    · go_wp2
      go_ret
      exact ⟨ret_bool (allTo_true.2 (fun i hi => hall.out i (by omega))).symm, q0⟩

set_option maxHeartbeats 400000 in
theorem judge_any {s : ByteArray} {n : Int} (ht : Tab s n) (w : World) :
    Calls Tryz.prog 58 #[.agg #[.int .i64 n, .string s]] w fun e w' => e = .returned (.int .i64 (judgeE s n)) ∧ Below w.heap.size w w' := by
  have hbox := Box2.mk' w (.int .i64 n) (.string s) 54
  obtain ⟨q0, q1, q2, q3⟩ := id hbox
  go_enter Tryz.func58, Tryz.ntmps58
  go_wp2_with fail
  refine (order_any ht _).mono ?_
  rintro e w1 ⟨rfl, hb1⟩
  replace hbox := hbox.step hb1
  clear q0 q1 q2 q3 hb1
  obtain ⟨q0, q1, q2, q3⟩ := id hbox
  generalize hx : pOrder s n = x
  have hx : Hid _ := hx
  cases x
  · go_wp2
    go_ret
    exact ⟨ret_int (by unfold judgeE; rw [hx.out]; rfl), q0⟩
  · go_wp2_with fail
    refine (lat_any ht _).mono ?_
    rintro e w1 ⟨rfl, hb1⟩
    replace hbox := hbox.step hb1
    clear q0 q1 q2 q3 hb1
    obtain ⟨q0, q1, q2, q3⟩ := id hbox
    generalize hy : pLat s n = y
    have hy : Hid _ := hy
    cases y <;> go_wp2 <;> go_ret <;> exact ⟨ret_int (by unfold judgeE; rw [hx.out, hy.out]; rfl), q0⟩
end Go.Proofs.YtcnbifdlkalimabGreat

/-
  The walks of the package lattice, last part, and of sluice.Levels, Join and Meet: each answers what the document's own answer gives; for every text and all numbers.
-/
namespace Go.Proofs.YtcnbifdlkalimabGreat
open Go.RowKit

set_option maxHeartbeats 400000 in
theorem read_any (s : ByteArray) (w : World) (hsm : s.size ≤ maxLen) :
    Calls Tryz.prog 97 #[.string s] w fun e w' => e = .returned (.tuple #[.agg #[.int .i64 (tabN s), .string (tabS s)], .bool (!(tabN s == 0))]) ∧ Below w.heap.size w w' := by
  go_enter Tryz.func97, Tryz.ntmps97
  go_wp2_with fail
  refine (side_any s.size _ (by omega)).mono ?_
  rintro e w1 ⟨rfl, rfl⟩
  by_cases h0 : sideF s.size = 0
  · have hT : tabN s = 0 := by unfold tabN; rw [h0]; split <;> rfl
    have hS : Hid (tabN s = 0 ∧ tabS s = { data := #[] }) := ⟨hT, by unfold tabS; rw [if_pos hT]⟩
    rw [h0]
    clear h0 hT
    go_wp2
    exact bodyPost_ret (v := .tuple #[.agg #[.int .i64 0, .string { data := #[] }], .bool false]) (by simp [results, Tryz.results97, go_sem]) rfl ⟨by rw [hS.out.1, hS.out.2]; rfl, (Below.refl _ _).alloc (Nat.le_refl _) _⟩
  · have h00 : (sideF s.size == 0) = false := by simpa using h0
    have hS : Hid (bits s = true → tabN s = sideF s.size ∧ tabS s = s ∧ (tabN s == 0) = false) := by
      intro h
      have e : tabN s = sideF s.size := by unfold tabN; rw [if_pos h]
      exact ⟨e, by unfold tabS; rw [if_neg (by omega)], by rw [e]; exact h00⟩
    have hN : Hid (bits s = false → tabN s = 0 ∧ tabS s = { data := #[] }) := by
      intro h
      have e : tabN s = 0 := by unfold tabN; rw [h]; rfl
      exact ⟨e, by unfold tabS; rw [if_pos e]⟩
    clear h0
    generalize sideF s.size = n at *
    go_wp2_with fail
    refine (bits_any s _ hsm).mono ?_
    rintro e w1 ⟨rfl, rfl⟩
    generalize hx : bits s = x
    have hx : Hid _ := hx
    cases x
    · go_wp2
      exact bodyPost_ret (v := .tuple #[.agg #[.int .i64 0, .string { data := #[] }], .bool false]) (by simp [results, Tryz.results97, go_sem]) rfl ⟨by rw [(hN.out hx.out).1, (hN.out hx.out).2]; rfl, (Below.refl _ _).alloc (Nat.le_refl _) _⟩
    · go_wp2
      exact bodyPost_ret (v := .tuple #[.agg #[.int .i64 n, .string s], .bool true]) (by simp [results, Tryz.results97, go_sem]) rfl ⟨by rw [(hS.out hx.out).2.1, (hS.out hx.out).2.2, (hS.out hx.out).1]; rfl, (Below.refl _ _).alloc (Nat.le_refl _) _⟩
end Go.Proofs.YtcnbifdlkalimabGreat

/-
  The walks of the package lattice, last part, and of sluice.Levels, Join, Meet: each answers what the plain functions give; for every text.
-/
namespace Go.Proofs.YtcnbifdlkalimabGreat
open Go.RowKit

set_option maxHeartbeats 800000 in
theorem open_any (s : ByteArray) (w : World) (hsm : s.size ≤ maxLen) :
    Calls Tryz.prog 41 #[.string s] w fun e w' => e = .returned (.tuple #[.agg #[.int .i64 (levN s), .string (levS s)], .int .i64 (levE s)]) ∧ Below w.heap.size w w' := by
  have o0 := Own2.new w (.int .i64 0) (.string { data := #[] }) 54
  have b0 : Below w.heap.size w (w.alloc (.cells #[.int .i64 0, .string { data := #[] }] 54)) := (Below.refl _ _).alloc (Nat.le_refl _) _
  go_enter Tryz.func41, Tryz.ntmps41
  go_wp2_with fail
  refine (read_any s _ hsm).mono ?_
  rintro e w1 ⟨rfl, hb1⟩
  replace o0 := o0.step hb1
  replace b0 := b0.trans (hb1.mono (by simp))
  clear hb1
  by_cases h0 : tabN s = 0
  · have hE : Hid (levE s = 3) := by unfold Hid levE; rw [if_pos h0]
    have hS : Hid (levN s = 0 ∧ levS s = { data := #[] }) := ⟨lev_err hE.out (by omega), by unfold levS; rw [if_neg (by rw [hE.out]; omega)]⟩
    have hS2 : tabS s = { data := #[] } := by unfold tabS; rw [if_pos h0]
    rw [hS2, h0]
    clear h0 hS2
    obtain ⟨o1, o2, o3, o4, o5⟩ := id o0
    go_wp2
    exact bodyPost_ret (v := .tuple #[.agg #[.int .i64 0, .string { data := #[] }], .int .i64 3]) (by simp [results, Tryz.results41, go_sem, o1, o2, o3]) rfl ⟨by rw [hS.out.1, hS.out.2, hE.out], ((b0.setCell (Nat.le_refl _) _).setCell (Nat.le_refl _) _).alloc (by simp; omega) _⟩
  · have ht := (tabN_tab h0).1
    have h00 : (tabN s == 0) = false := by simpa using h0
    have hS2 : tabS s = s := by unfold tabS; rw [if_neg h0]
    have hE : Hid (levE s = judgeE s (tabN s)) := by
      have := levE_same s
      unfold openE at this
      rw [if_neg h0] at this
      exact this.symm
    rw [hS2, h00]
    clear h0 hS2 h00
    have hN : Hid (levE s = 0 → levN s = tabN s ∧ levS s = s) := fun h => ⟨lev_ok h, by unfold levS; rw [if_pos h]⟩
    have hM : Hid (levE s ≠ 0 → levN s = 0 ∧ levS s = { data := #[] }) := fun h => ⟨lev_err rfl h, by unfold levS; rw [if_neg h]⟩
    generalize tabN s = n at *
    have p0 := Own2.new w1 (.int .i64 n) (.string s) 54
    replace b0 := b0.alloc (Nat.le_of_lt o0.lt) (.cells #[.int .i64 n, .string s] 54)
    have o1 := o0.lt
    replace o0 := o0.alloc (.cells #[.int .i64 n, .string s] 54)
    go_wp2_with fail
    refine (judge_any ht _).mono ?_
    rintro e w2 ⟨rfl, hb1⟩
    rw [← hE.out]
    replace o0 := o0.step hb1
    replace p0 := p0.step hb1
    replace b0 := b0.trans (hb1.mono (by simp; omega))
    clear hb1
    obtain ⟨o1, o2, o3, o4, o5⟩ := id o0
    obtain ⟨p1, p2, p3, p4, p5⟩ := id p0
    by_cases h1 : levE s = 0
    · have hv : Hid _ := hN.out h1
      have he : Hid _ := h1
      rw [h1]
      clear h1
      go_wp2
      exact bodyPost_ret (v := .tuple #[.agg #[.int .i64 n, .string s], .int .i64 0]) (by simp [results, Tryz.results41, go_sem, o2, o3]) rfl ⟨by rw [hv.out.1, hv.out.2, he.out], ((b0.setCell (Nat.le_refl _) _).setCell (Nat.le_refl _) _)⟩
    · have hv : Hid _ := hM.out h1
      have he : (levE s != 0) = true := by simpa using h1
      clear h1
      go_wp2
      exact bodyPost_ret (v := .tuple #[.agg #[.int .i64 0, .string { data := #[] }], .int .i64 (levE s)]) (by simp [results, Tryz.results41, go_sem, o2, o3]) rfl ⟨by rw [hv.out.1, hv.out.2], ((b0.setCell (Nat.le_refl _) _).setCell (Nat.le_refl _) _)⟩
end Go.Proofs.YtcnbifdlkalimabGreat
