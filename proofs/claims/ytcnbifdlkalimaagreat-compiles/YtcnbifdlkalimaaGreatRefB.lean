import Derived.Test.YtcnbifdlkalimaaGreatPlain
import Derived.Test.YtcnbifdlkalimaaGreatPlain2

/-
  The walks of the document's own answer on tables (package sluiceref, P3): each call answers what the plain function of the same work gives and leaves the world as it was; for every text, the levels within a table that has them.
-/
namespace Go.Proofs.YtcnbifdlkalimaaGreat
open Go.RowKit

set_option maxHeartbeats 400000 in
theorem under_ref {s : ByteArray} {n : Int} (ht : Tab s n) (a b : Int) (w : World) (ha : 0 ≤ a) (ha' : a < n) (hb : 0 ≤ b) (hb' : b < n) :
    Calls Tryz.prog 57 #[.string s, .int .i64 n, .int .i64 a, .int .i64 b] w fun e w' => e = .returned (.bool (le s n a b)) ∧ w' = w := by
  obtain ⟨t1, t2, t3⟩ := ht
  obtain ⟨h1, h2⟩ := ix_lt n a b ha ha' hb'
  have h3 : a * n + b < s.size := by omega
  have h4 := sq_le n t1 t2
  have HL := le_get s n a b (by omega)
  have HH : Hid _ := HL
  clear HL
  go_enter Tryz.func57, Tryz.ntmps57
  go_wp2
  go_ret
  exact ⟨ret_bool HH.out, rfl⟩

set_option maxHeartbeats 400000 in
theorem above_ref {s : ByteArray} {n : Int} (ht : Tab s n) (a b c : Int) (w : World) (ha : 0 ≤ a) (ha' : a < n) (hb : 0 ≤ b) (hb' : b < n) (hc : 0 ≤ c) (hc' : c < n) :
    Calls Tryz.prog 139 #[.string s, .int .i64 n, .int .i64 a, .int .i64 b, .int .i64 c] w fun e w' => e = .returned (.bool (pAbove s n a b c)) ∧ w' = w := by
  go_enter Tryz.func139, Tryz.ntmps139
  go_wp2_with fail
  refine (under_ref ht a c _ ha ha' hc hc').mono ?_
  rintro e w1 ⟨rfl, rfl⟩
  go_wp2_with fail
  refine (under_ref ht b c _ hb hb' hc hc').mono ?_
  rintro e w1 ⟨rfl, rfl⟩
  have hd : pAbove s n a b c = (le s n a c && le s n b c) := rfl
  generalize le s n a c = x at hd ⊢
  generalize le s n b c = y at hd ⊢
  have hd' : Hid _ := hd
  clear hd
  cases x <;> cases y <;> go_wp2 <;> go_ret <;> exact ⟨ret_bool hd'.out.symm, rfl⟩

set_option maxHeartbeats 800000 in
theorem joinOf_ref {s : ByteArray} {n : Int} (ht : Tab s n) (a b : Int) (w : World) (ha : 0 ≤ a) (ha' : a < n) (hb : 0 ≤ b) (hb' : b < n) :
    Calls Tryz.prog 79 #[.string s, .int .i64 n, .int .i64 a, .int .i64 b] w fun e w' => e = .returned (.int .i64 ((rJoin s n a b).getD (-1))) ∧ w' = w := by
  obtain ⟨t1, t2, -⟩ := id ht
  go_enter Tryz.func79, Tryz.ntmps79
  go_wp2
  go_loop [9] (fun c => ∃ k : Nat, (k : Int) ≤ n ∧ c = .int .i64 k ∧ Hid (∀ i : Nat, i < k → rIsJoin s n a b i = false)) (fun c => n.toNat - (intOf c).toNat)
  case atStart => exact ⟨0, by omega, rfl, fun i hi => absurd hi (by omega)⟩
  case round =>
    obtain ⟨k, hk, rfl, hall⟩ := hrel
    by_cases hlt : (k : Int) < n
    · go_wp2_with fail
      refine (above_ref ht a b k _ ha ha' hb hb' (by omega) hlt).mono ?_
      rintro e w1 ⟨rfl, rfl⟩
      go_wp2_with fail
      go_loop [10, 11] (fun o c => ∃ m : Nat, (m : Int) ≤ n ∧ c = .int .i64 m ∧ ∃ x : Bool, o = .bool x ∧ Hid (x = (pAbove s n a b k && allTo (fun c => !(pAbove s n a b c) || le s n k c) m))) (fun _ c => n.toNat - (intOf c).toNat)
      case atStart => exact ⟨0, by omega, rfl, _, rfl, by simp [Hid, allTo]⟩
      case round =>
        obtain ⟨m, hm, rfl, x, rfl, hx⟩ := hrel
        by_cases hlt2 : (m : Int) < n
        · cases x
          · have done : Hid (rIsJoin s n a b k = false) := by
              have h := hx.out.symm
              unfold rIsJoin
              cases e : pAbove s n a b k with
              | false => rfl
              | true => rw [e, Bool.true_and] at h; rw [Bool.true_and]; exact allTo_less (by omega) h
            go_wp2
            go_round
            case rel => exact ⟨k + 1, by omega, by go_num, none_more hall.out done.out⟩
            case measure => simp [intOf]; omega
          · have hab : Hid (pAbove s n a b k = true ∧ allTo (fun c => !(pAbove s n a b c) || le s n k c) m = true) := by
              have h := hx.out.symm
              rw [Bool.and_eq_true] at h
              exact h
            go_wp2_with fail
            refine (above_ref ht a b m _ ha ha' hb hb' (by omega) hlt2).mono ?_
            rintro e w1 ⟨rfl, rfl⟩
            generalize hz : pAbove s n a b m = z
            have hz : Hid _ := hz
            cases z
            · go_wp2
              go_round
              case rel => exact ⟨m + 1, by omega, by go_num, true, rfl, by simp only [Hid, allTo, hab.out.1, hab.out.2, hz.out]; rfl⟩
              case measure => simp [intOf]; omega
            · go_wp2_with fail
              refine (under_ref ht k m _ (by omega) hlt (by omega) hlt2).mono ?_
              rintro e w1 ⟨rfl, rfl⟩
              go_wp2
              go_round
              case rel => exact ⟨m + 1, by omega, by go_num, le s n k m, rfl, by simp only [Hid, allTo, hab.out.1, hab.out.2, hz.out]; simp⟩
              case measure => simp [intOf]; omega
        · have hmn : m = n.toNat := by omega
          have hx2 : Hid (x = rIsJoin s n a b k) := by unfold rIsJoin; rw [← hmn]; exact hx
          clear hmn
          cases x
          · go_wp2
            go_round
            case rel => exact ⟨k + 1, by omega, by go_num, none_more hall.out hx2.out.symm⟩
            case measure => simp [intOf]; omega
          · go_wp2
            go_ret
            have e : rJoin s n a b = some (k : Int) := firstTo_some (by omega) hall.out hx2.out.symm
            rw [e]
            exact ⟨rfl, rfl⟩
    · go_wp2
      go_ret
      have e : rJoin s n a b = none := firstTo_none (fun i hi => hall.out i (by omega))
      rw [e]
      exact ⟨rfl, rfl⟩

set_option maxHeartbeats 800000 in
theorem size_ref (s : ByteArray) (w : World) (hs : s.size ≤ maxLen) :
    Calls Tryz.prog 105 #[.string s] w fun e w' => e = .returned (.int .i64 (tabN s)) ∧ w' = w := by
  unfold maxLen at hs
  go_enter Tryz.func105, Tryz.ntmps105
  go_wp2
  go_loop [3, 4] (fun v c => ∃ k : Int, 1 ≤ k ∧ k ≤ 7 ∧ c = .int .i64 k ∧ v = .int .i64 (sideTo s.size k)) (fun _ c => (7 - intOf c).toNat)
  case atStart => exact ⟨1, by omega, by omega, rfl, by have := sideF_bd s.size; unfold sideTo; split <;> first | rfl | (congr 1; omega)⟩
  case round =>
    obtain ⟨k, hk1, hk2, rfl, rfl⟩ := hrel
    by_cases hlt : k ≤ 6
    · have hsq := sq_le k hk1 hlt
      have hsq0 : 0 ≤ k * k := Int.mul_nonneg (by omega) (by omega)
      by_cases hq : (s.size : Int) = k * k
      · have hq1 : ((s.size : Int) == k * k) = true := by simpa using hq
        have hq2 : Hid _ := hq
        clear hq
        go_wp2
        go_round
        case rel => exact ⟨k + 1, by omega, by omega, by go_num, by rw [sideTo_yes hk1 hlt hq2.out]⟩
        case measure => simp [intOf]; omega
      · have hq1 : ((s.size : Int) == k * k) = false := by simpa using hq
        have hq2 : Hid _ := hq
        clear hq
        go_wp2
        go_round
        case rel => exact ⟨k + 1, by omega, by omega, by go_num, by rw [sideTo_no hk1 hq2.out]⟩
        case measure => simp [intOf]; omega
    · obtain rfl : k = 7 := by omega
      have h7 := sideTo_end s.size
      have hb7 := sideF_bd s.size
      rw [h7]
      clear h7
      have hb8 : 0 ≤ sideF s.size ∧ sideF s.size ≤ 6 := ⟨hb7.1, hb7.2.1⟩
      clear hb7
      go_wp2
      go_loop [3, 5] (fun v c => ∃ m : Nat, m ≤ s.size ∧ c = .int .i64 m ∧ ∃ x : Int, 0 ≤ x ∧ x ≤ 6 ∧ v = .int .i64 x ∧ Hid (x = if allTo (isBit s) m then sideF s.size else 0)) (fun _ c => s.size - (intOf c).toNat)
      case atStart => exact ⟨0, by omega, rfl, _, hb8.1, hb8.2, rfl, by simp [Hid, allTo]⟩
      case round =>
        obtain ⟨m, hm, rfl, x, hx0, hx6, rfl, hx⟩ := hrel
        by_cases hlt2 : m < s.size
        · by_cases hpos : 0 < x
          · have hall : Hid (allTo (isBit s) m = true ∧ x = sideF s.size) := by
              have h := hx.out
              split at h
              · exact ⟨by assumption, h⟩
              · omega
            go_wp2
            · go_round
              case rel => exact ⟨m + 1, by omega, by go_num, x, by omega, by omega, rfl, by simp only [Hid, allTo, hall.out.1, (isBit_iff hlt2).2 (.inl (by assumption))]; exact hall.out.2⟩
              case measure => simp [intOf]; omega
            · go_round
              case rel => exact ⟨m + 1, by omega, by go_num, 0, by omega, by omega, rfl, by simp only [Hid, allTo, isBit_no hlt2 (by assumption)]; simp⟩
              case measure => simp [intOf]; omega
            · go_round
              case rel => exact ⟨m + 1, by omega, by go_num, x, by omega, by omega, rfl, by simp only [Hid, allTo, hall.out.1, isBit_or hlt2 (by assumption)]; exact hall.out.2⟩
              case measure => simp [intOf]; omega
          · have fin : Hid (tabN s = x) := by
              have h := hx.out
              unfold tabN bits
              cases e : allTo (isBit s) m with
              | false => rw [allTo_less (by omega) e]; rw [e] at h; exact h.symm
              | true =>
                rw [e, if_pos rfl] at h
                have h0 : x = 0 := by omega
                rw [← h, h0]
                split <;> rfl
            go_wp2
            go_ret
            exact ⟨ret_int fin.out.symm, rfl⟩
        · have hmn : m = s.size := by omega
          have fin : Hid (tabN s = x) := by unfold tabN bits; rw [← hmn]; rw [← hmn] at hx; exact hx.out.symm
          clear hmn
          go_wp2
          go_ret
          exact ⟨ret_int fin.out.symm, rfl⟩
end Go.Proofs.YtcnbifdlkalimaaGreat

/-
  The walks of the document's own answer on tables (package sluiceref, P3), second part: whether a table is an order; for every table.
-/
namespace Go.Proofs.YtcnbifdlkalimaaGreat
open Go.RowKit

set_option maxHeartbeats 1600000 in
theorem ordered_ref {s : ByteArray} {n : Int} (ht : Tab s n) (w : World) :
    Calls Tryz.prog 106 #[.string s, .int .i64 n] w fun e w' => e = .returned (.bool (rOrder s n)) ∧ w' = w := by
  obtain ⟨t1, t2, -⟩ := id ht
  go_enter Tryz.func106, Tryz.ntmps106
  go_wp2
  go_loop [5] (fun c => ∃ k : Nat, (k : Int) ≤ n ∧ c = .int .i64 k ∧ Hid (∀ i : Nat, i < k → allTo (fun b => rOrdAt s n i b) n.toNat = true)) (fun c => n.toNat - (intOf c).toNat)
  case atStart => exact ⟨0, by omega, rfl, fun i hi => absurd hi (by omega)⟩
  case round =>
    obtain ⟨k, hk, rfl, hall⟩ := hrel
    by_cases hlt : (k : Int) < n
    · go_wp2_with fail
      go_loop [6] (fun c => ∃ m : Nat, (m : Int) ≤ n ∧ c = .int .i64 m ∧ Hid (∀ i : Nat, i < m → rOrdAt s n k i = true)) (fun c => n.toNat - (intOf c).toNat)
      case atStart => exact ⟨0, by omega, rfl, fun i hi => absurd hi (by omega)⟩
      case round =>
        obtain ⟨m, hm, rfl, hin⟩ := hrel
        by_cases hlt2 : (m : Int) < n
        · go_wp2_with fail
          refine (under_ref ht k m _ (by omega) hlt (by omega) hlt2).mono ?_
          rintro e w1 ⟨rfl, rfl⟩
          go_wp2_with fail
          refine (under_ref ht m k _ (by omega) hlt2 (by omega) hlt).mono ?_
          rintro e w1 ⟨rfl, rfl⟩
          generalize hx : le s n k m = x
          generalize hy : le s n m k = y
          have hx : Hid _ := hx
          have hy : Hid _ := hy
          generalize hz : ((k : Int) == (m : Int)) = z
          have hzn : ((k : Int) != (m : Int)) = !z := by rw [← hz]; rfl
          have hz2 : Hid _ := hz
          have bad : Hid (((z && !x) || (!z && (x && y))) = true → rOrder s n = false) := by
            intro h
            refine allTo_false (i := k) (by omega) ?_
            refine allTo_false (i := m) (by omega) ?_
            unfold rOrdAt
            rw [hx.out, hy.out, hzn, hz, h]
            rfl
          have good : Hid (((z && !x) || (!z && (x && y))) = false → (∀ i : Nat, i < n.toNat → (fun c => !(le s n k m && (le s n m c && !(le s n k c)))) i = true) → ∀ i : Nat, i < m + 1 → rOrdAt s n k i = true) := by
            intro h h2
            refine all_more (p := fun b => rOrdAt s n k b) hin.out ?_
            unfold rOrdAt
            rw [allTo_true.2 h2, hx.out, hy.out, hzn, hz, h]
            rfl
          have worse : Hid (∀ i : Nat, (i : Int) < n → (fun c => !(le s n k m && (le s n m c && !(le s n k c)))) i = false → rOrder s n = false) := by
            intro i hi h
            refine allTo_false (i := k) (by omega) ?_
            refine allTo_false (i := m) (by omega) ?_
            unfold rOrdAt
            rw [allTo_false (f := (fun c => !(le s n k m && (le s n m c && !(le s n k c))))) (i := i) (by omega) h, Bool.and_false]
          cases x <;> cases y <;> cases z <;> go_wp2
          all_goals first
            | (go_ret; exact ⟨ret_bool (bad.out rfl).symm, rfl⟩)
            | skip
          all_goals
            go_loop [9] (fun c => ∃ j : Nat, (j : Int) ≤ n ∧ c = .int .i64 j ∧ Hid (∀ i : Nat, i < j → (fun c => !(le s n k m && (le s n m c && !(le s n k c)))) i = true)) (fun c => n.toNat - (intOf c).toNat)
            case atStart => exact ⟨0, by omega, rfl, fun i hi => absurd hi (by omega)⟩
            case round =>
              obtain ⟨j, hj, rfl, hjn⟩ := hrel
              by_cases hlt3 : (j : Int) < n
              · go_wp2_with fail
                refine (under_ref ht m j _ (by omega) hlt2 (by omega) hlt3).mono ?_
                rintro e w1 ⟨rfl, rfl⟩
                go_wp2_with fail
                refine (under_ref ht k j _ (by omega) hlt (by omega) hlt3).mono ?_
                rintro e w1 ⟨rfl, rfl⟩
                generalize hu : le s n m j = u
                generalize hv : le s n k j = v
                have hu : Hid _ := hu
                have hv : Hid _ := hv
                cases u <;> cases v <;> go_wp2
                all_goals first
                  | (go_ret; exact ⟨ret_bool (worse.out j hlt3 (by rw [hx.out, hu.out, hv.out]; rfl)).symm, rfl⟩)
                  | skip
                all_goals
                  go_round
                  case rel => exact ⟨j + 1, by omega, by go_num, all_more (p := (fun c => !(le s n k m && (le s n m c && !(le s n k c))))) hjn.out (by rw [hx.out, hu.out, hv.out]; rfl)⟩
                  case measure => simp [intOf]; omega
              · go_wp2
                go_round
                case rel => exact ⟨m + 1, by omega, by go_num, good.out rfl (fun i hi => hjn.out i (by omega))⟩
                case measure => simp [intOf]; omega
        · have done : Hid (∀ i : Nat, i < k + 1 → allTo (fun b => rOrdAt s n i b) n.toNat = true) :=
            all_more (p := fun a => allTo (fun b => rOrdAt s n a b) n.toNat) hall.out (allTo_true.2 (fun i hi => hin.out i (by omega)))
          go_wp2
          go_round
          case rel => exact ⟨k + 1, by omega, by go_num, done⟩
          case measure => simp [intOf]; omega
    · go_wp2
      go_ret
      exact ⟨ret_bool (allTo_true.2 (fun i hi => hall.out i (by omega))).symm, rfl⟩
end Go.Proofs.YtcnbifdlkalimaaGreat

/-
  The walks of the document's own answer on tables (package sluiceref, P3), third part: the table upside down, the meet, Levels, Join and Meet; for every text and all numbers.
-/
namespace Go.Proofs.YtcnbifdlkalimaaGreat
open Go.RowKit

set_option maxHeartbeats 800000 in
theorem turned_ref {s : ByteArray} {n : Int} (ht : Tab s n) (hsm : s.size ≤ maxLen) (w : World) :
    Calls Tryz.prog 159 #[.string s, .int .i64 n] w fun e w' => ∃ t : ByteArray, e = .returned (.string t) ∧ Turned s t n n.toNat 0 ∧ w' = w := by
  obtain ⟨t1, t2, t3⟩ := id ht
  unfold maxLen at hsm
  have h36 := sq_le n t1 t2
  go_enter Tryz.func159, Tryz.ntmps159
  go_wp2
  go_loop [5, 6] (fun v c => ∃ k : Nat, (k : Int) ≤ n ∧ c = .int .i64 k ∧ ∃ t : ByteArray, v = .string t ∧ Turned s t n k 0) (fun _ c => n.toNat - (intOf c).toNat)
  case atStart => exact ⟨0, by omega, rfl, _, rfl, Turned.start s n⟩
  case round =>
    obtain ⟨k, hk, rfl, t, rfl, hT⟩ := hrel
    by_cases hlt : (k : Int) < n
    · go_wp2_with fail
      go_loop [5, 7] (fun v c => ∃ m : Nat, (m : Int) ≤ n ∧ c = .int .i64 m ∧ ∃ t : ByteArray, v = .string t ∧ Turned s t n k m) (fun _ c => n.toNat - (intOf c).toNat)
      case atStart => exact ⟨0, by omega, rfl, t, rfl, hT⟩
      case round =>
        clear hT
        obtain ⟨m, hm, rfl, t, rfl, hT⟩ := hrel
        by_cases hlt2 : (m : Int) < n
        · obtain ⟨h1, h2⟩ := ix_lt n m k (by omega) hlt2 hlt
          have h3 : (m : Int) * n + k < s.size := by omega
          have h4 : t.size ≤ 36 := hT.small h36 (by omega) (by omega)
          have hT2 := hT.more hlt hlt2 h3
          go_wp2
          go_round
          case rel => exact ⟨m + 1, by omega, by go_num, _, rfl, hT2⟩
          case measure => simp [intOf]; omega
        · have hT2 := hT.row (by omega)
          go_wp2
          go_round
          case rel => exact ⟨k + 1, by omega, by go_num, _, rfl, hT2⟩
          case measure => simp [intOf]; omega
    · obtain rfl : k = n.toNat := by omega
      go_wp2
      go_ret
      exact ⟨_, rfl, hT, rfl⟩

set_option maxHeartbeats 400000 in
theorem meetOf_ref {s : ByteArray} {n : Int} (ht : Tab s n) (hsm : s.size ≤ maxLen) (a b : Int) (w : World) (ha : 0 ≤ a) (ha' : a < n) (hb : 0 ≤ b) (hb' : b < n) :
    Calls Tryz.prog 107 #[.string s, .int .i64 n, .int .i64 a, .int .i64 b] w fun e w' => e = .returned (.int .i64 ((rMeet s n a b).getD (-1))) ∧ w' = w := by
  go_enter Tryz.func107, Tryz.ntmps107
  go_wp2_with fail
  refine (turned_ref ht hsm _).mono ?_
  rintro e w1 ⟨t, rfl, hT, rfl⟩
  have hm : Hid _ := hT.meet ht a b ha ha' hb hb'
  have htt := hT.tab ht
  clear hT
  go_wp2_with fail
  refine (joinOf_ref htt a b _ ha ha' hb hb').mono ?_
  rintro e w2 ⟨rfl, rfl⟩
  rw [hm.out]
  go_wp2
  go_ret
  exact ⟨rfl, rfl⟩

theorem joinD (o : Option Int) (n : Nat) (h : ∀ x, o = some x → 0 ≤ x ∧ x < n) : (o.isSome = true → 0 ≤ o.getD (-1) ∧ o.getD (-1) < n) ∧ (o.isSome = false → o.getD (-1) = -1) := by
  cases o with
  | none => exact ⟨fun h => absurd h (by simp), fun _ => rfl⟩
  | some x => exact ⟨fun _ => h x rfl, fun h => absurd h (by simp)⟩

set_option maxHeartbeats 800000 in
theorem levels_ref (s : ByteArray) (w : World) (hsm : s.size ≤ maxLen) :
    Calls Tryz.prog 46 #[.string s] w fun e w' => e = .returned (.tuple #[.int .i64 (levN s), .int .i64 (levE s)]) ∧ w' = w := by
  go_enter Tryz.func46, Tryz.ntmps46
  go_wp2_with fail
  refine (size_ref s _ hsm).mono ?_
  rintro e w1 ⟨rfl, rfl⟩
  by_cases h0 : tabN s = 0
  · have hE : Hid (levE s = 3) := by unfold Hid levE; rw [if_pos h0]
    rw [h0]
    clear h0
    go_wp2
    go_ret2
    rw [lev_err hE.out (by omega), hE.out]
    exact ⟨rfl, rfl⟩
  · have ht := (tabN_tab h0).1
    have h00 : (tabN s == 0) = false := by simpa using h0
    have hE : Hid (levE s = if rOrder s (tabN s) then (if rLat s (tabN s) then 0 else 5) else 4) := by unfold Hid levE; rw [if_neg h0]
    clear h0
    generalize hn : tabN s = n at *
    have hn2 : Hid _ := hn
    clear hn
    obtain ⟨t1, t2, -⟩ := id ht
    go_wp2_with fail
    refine (ordered_ref ht _).mono ?_
    rintro e w1 ⟨rfl, rfl⟩
    generalize hx : rOrder s n = x
    have hx : Hid _ := hx
    cases x
    · go_wp2
      go_ret2
      have h4 : levE s = 4 := by rw [hE.out, hx.out]; rfl
      rw [lev_err h4 (by omega), h4]
      exact ⟨rfl, rfl⟩
    · go_wp2_with fail
      go_loop [6] (fun c => ∃ k : Nat, (k : Int) ≤ n ∧ c = .int .i64 k ∧ Hid (∀ i : Nat, i < k → allTo (fun b => (rJoin s n i b).isSome && (rMeet s n i b).isSome) n.toNat = true)) (fun c => n.toNat - (intOf c).toNat)
      case atStart => exact ⟨0, by omega, rfl, fun i hi => absurd hi (by omega)⟩
      case round =>
        obtain ⟨k, hk, rfl, hall⟩ := hrel
        by_cases hlt : (k : Int) < n
        · go_wp2_with fail
          go_loop [7] (fun c => ∃ m : Nat, (m : Int) ≤ n ∧ c = .int .i64 m ∧ Hid (∀ i : Nat, i < m → ((rJoin s n k i).isSome && (rMeet s n k i).isSome) = true)) (fun c => n.toNat - (intOf c).toNat)
          case atStart => exact ⟨0, by omega, rfl, fun i hi => absurd hi (by omega)⟩
          case round =>
            obtain ⟨m, hm, rfl, hin⟩ := hrel
            by_cases hlt2 : (m : Int) < n
            · go_wp2_with fail
              refine (joinOf_ref ht k m _ (by omega) hlt (by omega) hlt2).mono ?_
              rintro e w1 ⟨rfl, rfl⟩
              go_wp2_with fail
              refine (meetOf_ref ht hsm k m _ (by omega) hlt (by omega) hlt2).mono ?_
              rintro e w1 ⟨rfl, rfl⟩
              have hj := joinD (rJoin s n k m) n.toNat (fun x h => ⟨(firstTo_lt h).1, (firstTo_lt h).2.1⟩)
              have hmm := joinD (rMeet s n k m) n.toNat (fun x h => ⟨(firstTo_lt h).1, (firstTo_lt h).2.1⟩)
              generalize (rJoin s n k m).getD (-1) = jv at hj ⊢
              generalize (rMeet s n k m).getD (-1) = mv at hmm ⊢
              generalize hu : (rJoin s n k m).isSome = u at hj
              generalize hv : (rMeet s n k m).isSome = v at hmm
              have bad : Hid ((u && v) = false → rLat s n = false) := by
                intro h
                refine allTo_false (i := k) (by omega) ?_
                exact allTo_false (i := m) (by omega) (by rw [hu, hv, h])
              have done : Hid ((u && v) = true → ∀ i : Nat, i < m + 1 → ((rJoin s n k i).isSome && (rMeet s n k i).isSome) = true) :=
                fun h => all_more (p := fun b => (rJoin s n k b).isSome && (rMeet s n k b).isSome) hin.out (by rw [hu, hv, h])
              clear hu hv
              cases u <;> cases v
              case true.true =>
                have a1 := hj.1 rfl
                have a2 := hmm.1 rfl
                clear hj hmm
                obtain ⟨a3, a4⟩ := a1
                obtain ⟨a5, a6⟩ := a2
                go_wp2
                go_round
                case rel => exact ⟨m + 1, by omega, by go_num, done.out rfl⟩
                case measure => simp [intOf]; omega
              case true.false =>
                have a1 := hj.1 rfl
                have a2 := hmm.2 rfl
                clear hj hmm
                obtain ⟨a3, a4⟩ := a1
                subst a2
                go_wp2
                go_ret2
                have h5 : levE s = 5 := by rw [hE.out, hx.out, bad.out rfl]; rfl
                rw [lev_err h5 (by omega), h5]
                exact ⟨rfl, rfl⟩
              case false.true =>
                have a1 := hj.2 rfl
                clear hj hmm
                subst a1
                go_wp2
                go_ret2
                have h5 : levE s = 5 := by rw [hE.out, hx.out, bad.out rfl]; rfl
                rw [lev_err h5 (by omega), h5]
                exact ⟨rfl, rfl⟩
              case false.false =>
                have a1 := hj.2 rfl
                clear hj hmm
                subst a1
                go_wp2
                go_ret2
                have h5 : levE s = 5 := by rw [hE.out, hx.out, bad.out rfl]; rfl
                rw [lev_err h5 (by omega), h5]
                exact ⟨rfl, rfl⟩
            · have done : Hid (∀ i : Nat, i < k + 1 → allTo (fun b => (rJoin s n i b).isSome && (rMeet s n i b).isSome) n.toNat = true) :=
                all_more (p := fun a => allTo (fun b => (rJoin s n a b).isSome && (rMeet s n a b).isSome) n.toNat) hall.out (allTo_true.2 (fun i hi => hin.out i (by omega)))
              go_wp2
              go_round
              case rel => exact ⟨k + 1, by omega, by go_num, done⟩
              case measure => simp [intOf]; omega
        · have hl : Hid (rLat s n = true) := allTo_true.2 (fun i hi => hall.out i (by omega))
          go_wp2
          go_ret2
          have h1 : levE s = 0 := by rw [hE.out, hx.out, hl.out]; rfl
          rw [lev_ok h1, hn2.out, h1]
          exact ⟨rfl, rfl⟩
end Go.Proofs.YtcnbifdlkalimaaGreat
