/-
  The walks of the document's own answer on tables (package sluiceref, P3), second part: whether a table is an order; for every table.
-/
import Derived.Test.YtcnbifdlkalimaaGreatRef1
namespace Go.Proofs.YtcnbifdlkalimaaGreat
open Go.RowKit

set_option maxHeartbeats 1600000 in
theorem ordered_ref {s : ByteArray} {n : Int} (ht : Tab s n) (w : World) :
    Calls Tryz.prog 106 #[.string s, .int .i64 n] w fun e w' => e = .returned (.bool (rOrder s n)) ∧ w' = w := by
  obtain ⟨t1, t2, -⟩ := id ht
  go_enter Tryz.func106, Tryz.ntmps106
  go_wp2
  go_loop [5] (fun c => ∃ k : Nat, (k : Int) ≤ n ∧ c = .int .i64 k ∧ Hid (∀ i : Nat, i < k → allTo (fun b => rOrdAt s n i b) n.toNat = true)) (fun c => n.toNat - (intOf c).toNat)
  case atStart => exact ⟨0, by omega, rfl, fun i hi => absurd hi (by omega)⟩
  case round =>
    obtain ⟨k, hk, rfl, hall⟩ := hrel
    by_cases hlt : (k : Int) < n
    · go_wp2_with fail
      go_loop [6] (fun c => ∃ m : Nat, (m : Int) ≤ n ∧ c = .int .i64 m ∧ Hid (∀ i : Nat, i < m → rOrdAt s n k i = true)) (fun c => n.toNat - (intOf c).toNat)
      case atStart => exact ⟨0, by omega, rfl, fun i hi => absurd hi (by omega)⟩
      case round =>
        obtain ⟨m, hm, rfl, hin⟩ := hrel
        by_cases hlt2 : (m : Int) < n
        · go_wp2_with fail
          refine (under_ref ht k m _ (by omega) hlt (by omega) hlt2).mono ?_
          rintro e w1 ⟨rfl, rfl⟩
          go_wp2_with fail
          refine (under_ref ht m k _ (by omega) hlt2 (by omega) hlt).mono ?_
          rintro e w1 ⟨rfl, rfl⟩
          generalize hx : le s n k m = x
          generalize hy : le s n m k = y
          have hx : Hid _ := hx
          have hy : Hid _ := hy
          generalize hz : ((k : Int) == (m : Int)) = z
          have hzn : ((k : Int) != (m : Int)) = !z := by rw [← hz]; rfl
          have hz2 : Hid _ := hz
          have bad : Hid (((z && !x) || (!z && (x && y))) = true → rOrder s n = false) := by
            intro h
            refine allTo_false (i := k) (by omega) ?_
            refine allTo_false (i := m) (by omega) ?_
            unfold rOrdAt
            rw [hx.out, hy.out, hzn, hz, h]
            rfl
          have good : Hid (((z && !x) || (!z && (x && y))) = false → (∀ i : Nat, i < n.toNat → (fun c => !(le s n k m && (le s n m c && !(le s n k c)))) i = true) → ∀ i : Nat, i < m + 1 → rOrdAt s n k i = true) := by
            intro h h2
            refine all_more (p := fun b => rOrdAt s n k b) hin.out ?_
            unfold rOrdAt
            rw [allTo_true.2 h2, hx.out, hy.out, hzn, hz, h]
            rfl
          have worse : Hid (∀ i : Nat, (i : Int) < n → (fun c => !(le s n k m && (le s n m c && !(le s n k c)))) i = false → rOrder s n = false) := by
            intro i hi h
            refine allTo_false (i := k) (by omega) ?_
            refine allTo_false (i := m) (by omega) ?_
            unfold rOrdAt
            rw [allTo_false (f := (fun c => !(le s n k m && (le s n m c && !(le s n k c))))) (i := i) (by omega) h, Bool.and_false]
          cases x <;> cases y <;> cases z <;> go_wp2
          all_goals first
            | (go_ret; exact ⟨ret_bool (bad.out rfl).symm, rfl⟩)
            | skip
          all_goals
            go_loop [9] (fun c => ∃ j : Nat, (j : Int) ≤ n ∧ c = .int .i64 j ∧ Hid (∀ i : Nat, i < j → (fun c => !(le s n k m && (le s n m c && !(le s n k c)))) i = true)) (fun c => n.toNat - (intOf c).toNat)
            case atStart => exact ⟨0, by omega, rfl, fun i hi => absurd hi (by omega)⟩
            case round =>
              obtain ⟨j, hj, rfl, hjn⟩ := hrel
              by_cases hlt3 : (j : Int) < n
              · go_wp2_with fail
                refine (under_ref ht m j _ (by omega) hlt2 (by omega) hlt3).mono ?_
                rintro e w1 ⟨rfl, rfl⟩
                go_wp2_with fail
                refine (under_ref ht k j _ (by omega) hlt (by omega) hlt3).mono ?_
                rintro e w1 ⟨rfl, rfl⟩
                generalize hu : le s n m j = u
                generalize hv : le s n k j = v
                have hu : Hid _ := hu
                have hv : Hid _ := hv
                cases u <;> cases v <;> go_wp2
                all_goals first
                  | (go_ret; exact ⟨ret_bool (worse.out j hlt3 (by rw [hx.out, hu.out, hv.out]; rfl)).symm, rfl⟩)
                  | skip
                all_goals
                  go_round
                  case rel => exact ⟨j + 1, by omega, by go_num, all_more (p := (fun c => !(le s n k m && (le s n m c && !(le s n k c))))) hjn.out (by rw [hx.out, hu.out, hv.out]; rfl)⟩
                  case measure => simp [intOf]; omega
              · go_wp2
                go_round
                case rel => exact ⟨m + 1, by omega, by go_num, good.out rfl (fun i hi => hjn.out i (by omega))⟩
                case measure => simp [intOf]; omega
        · have done : Hid (∀ i : Nat, i < k + 1 → allTo (fun b => rOrdAt s n i b) n.toNat = true) :=
            all_more (p := fun a => allTo (fun b => rOrdAt s n a b) n.toNat) hall.out (allTo_true.2 (fun i hi => hin.out i (by omega)))
          go_wp2
          go_round
          case rel => exact ⟨k + 1, by omega, by go_num, done⟩
          case measure => simp [intOf]; omega
    · go_wp2
      go_ret
      exact ⟨ret_bool (allTo_true.2 (fun i hi => hall.out i (by omega))).symm, rfl⟩
end Go.Proofs.YtcnbifdlkalimaaGreat
