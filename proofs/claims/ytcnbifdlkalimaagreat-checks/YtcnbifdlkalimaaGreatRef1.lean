/-
  The walks of the document's own answer on tables (package sluiceref, P3): each call answers what the plain function of the same work gives and leaves the world as it was; for every text, the levels within a table that has them.
-/
import Derived.Test.YtcnbifdlkalimaaGreatPlain
namespace Go.Proofs.YtcnbifdlkalimaaGreat
open Go.RowKit

set_option maxHeartbeats 400000 in
theorem under_ref {s : ByteArray} {n : Int} (ht : Tab s n) (a b : Int) (w : World) (ha : 0 ≤ a) (ha' : a < n) (hb : 0 ≤ b) (hb' : b < n) :
    Calls Tryz.prog 57 #[.string s, .int .i64 n, .int .i64 a, .int .i64 b] w fun e w' => e = .returned (.bool (le s n a b)) ∧ w' = w := by
  obtain ⟨t1, t2, t3⟩ := ht
  obtain ⟨h1, h2⟩ := ix_lt n a b ha ha' hb'
  have h3 : a * n + b < s.size := by omega
  have h4 := sq_le n t1 t2
  have HL := le_get s n a b (by omega)
  have HH : Hid _ := HL
  clear HL
  go_enter Tryz.func57, Tryz.ntmps57
  go_wp2
  go_ret
  exact ⟨ret_bool HH.out, rfl⟩

set_option maxHeartbeats 400000 in
theorem above_ref {s : ByteArray} {n : Int} (ht : Tab s n) (a b c : Int) (w : World) (ha : 0 ≤ a) (ha' : a < n) (hb : 0 ≤ b) (hb' : b < n) (hc : 0 ≤ c) (hc' : c < n) :
    Calls Tryz.prog 139 #[.string s, .int .i64 n, .int .i64 a, .int .i64 b, .int .i64 c] w fun e w' => e = .returned (.bool (pAbove s n a b c)) ∧ w' = w := by
  go_enter Tryz.func139, Tryz.ntmps139
  go_wp2_with fail
  refine (under_ref ht a c _ ha ha' hc hc').mono ?_
  rintro e w1 ⟨rfl, rfl⟩
  go_wp2_with fail
  refine (under_ref ht b c _ hb hb' hc hc').mono ?_
  rintro e w1 ⟨rfl, rfl⟩
  have hd : pAbove s n a b c = (le s n a c && le s n b c) := rfl
  generalize le s n a c = x at hd ⊢
  generalize le s n b c = y at hd ⊢
  have hd' : Hid _ := hd
  clear hd
  cases x <;> cases y <;> go_wp2 <;> go_ret <;> exact ⟨ret_bool hd'.out.symm, rfl⟩

set_option maxHeartbeats 800000 in
theorem joinOf_ref {s : ByteArray} {n : Int} (ht : Tab s n) (a b : Int) (w : World) (ha : 0 ≤ a) (ha' : a < n) (hb : 0 ≤ b) (hb' : b < n) :
    Calls Tryz.prog 79 #[.string s, .int .i64 n, .int .i64 a, .int .i64 b] w fun e w' => e = .returned (.int .i64 ((rJoin s n a b).getD (-1))) ∧ w' = w := by
  obtain ⟨t1, t2, -⟩ := id ht
  go_enter Tryz.func79, Tryz.ntmps79
  go_wp2
  go_loop [9] (fun c => ∃ k : Nat, (k : Int) ≤ n ∧ c = .int .i64 k ∧ Hid (∀ i : Nat, i < k → rIsJoin s n a b i = false)) (fun c => n.toNat - (intOf c).toNat)
  case atStart => exact ⟨0, by omega, rfl, fun i hi => absurd hi (by omega)⟩
  case round =>
    obtain ⟨k, hk, rfl, hall⟩ := hrel
    by_cases hlt : (k : Int) < n
    · go_wp2_with fail
      refine (above_ref ht a b k _ ha ha' hb hb' (by omega) hlt).mono ?_
      rintro e w1 ⟨rfl, rfl⟩
      go_wp2_with fail
      go_loop [10, 11] (fun o c => ∃ m : Nat, (m : Int) ≤ n ∧ c = .int .i64 m ∧ ∃ x : Bool, o = .bool x ∧ Hid (x = (pAbove s n a b k && allTo (fun c => !(pAbove s n a b c) || le s n k c) m))) (fun _ c => n.toNat - (intOf c).toNat)
      case atStart => exact ⟨0, by omega, rfl, _, rfl, by simp [Hid, allTo]⟩
      case round =>
        obtain ⟨m, hm, rfl, x, rfl, hx⟩ := hrel
        by_cases hlt2 : (m : Int) < n
        · cases x
          · have done : Hid (rIsJoin s n a b k = false) := by
              have h := hx.out.symm
              unfold rIsJoin
              cases e : pAbove s n a b k with
              | false => rfl
              | true => rw [e, Bool.true_and] at h; rw [Bool.true_and]; exact allTo_less (by omega) h
            go_wp2
            go_round
            case rel => exact ⟨k + 1, by omega, by go_num, none_more hall.out done.out⟩
            case measure => simp [intOf]; omega
          · have hab : Hid (pAbove s n a b k = true ∧ allTo (fun c => !(pAbove s n a b c) || le s n k c) m = true) := by
              have h := hx.out.symm
              rw [Bool.and_eq_true] at h
              exact h
            go_wp2_with fail
            refine (above_ref ht a b m _ ha ha' hb hb' (by omega) hlt2).mono ?_
            rintro e w1 ⟨rfl, rfl⟩
            generalize hz : pAbove s n a b m = z
            have hz : Hid _ := hz
            cases z
            · go_wp2
              go_round
              case rel => exact ⟨m + 1, by omega, by go_num, true, rfl, by simp only [Hid, allTo, hab.out.1, hab.out.2, hz.out]; rfl⟩
              case measure => simp [intOf]; omega
            · go_wp2_with fail
              refine (under_ref ht k m _ (by omega) hlt (by omega) hlt2).mono ?_
              rintro e w1 ⟨rfl, rfl⟩
              go_wp2
              go_round
              case rel => exact ⟨m + 1, by omega, by go_num, le s n k m, rfl, by simp only [Hid, allTo, hab.out.1, hab.out.2, hz.out]; simp⟩
              case measure => simp [intOf]; omega
        · have hmn : m = n.toNat := by omega
          have hx2 : Hid (x = rIsJoin s n a b k) := by unfold rIsJoin; rw [← hmn]; exact hx
          clear hmn
          cases x
          · go_wp2
            go_round
            case rel => exact ⟨k + 1, by omega, by go_num, none_more hall.out hx2.out.symm⟩
            case measure => simp [intOf]; omega
          · go_wp2
            go_ret
            have e : rJoin s n a b = some (k : Int) := firstTo_some (by omega) hall.out hx2.out.symm
            rw [e]
            exact ⟨rfl, rfl⟩
    · go_wp2
      go_ret
      have e : rJoin s n a b = none := firstTo_none (fun i hi => hall.out i (by omega))
      rw [e]
      exact ⟨rfl, rfl⟩

set_option maxHeartbeats 800000 in
theorem size_ref (s : ByteArray) (w : World) (hs : s.size ≤ maxLen) :
    Calls Tryz.prog 105 #[.string s] w fun e w' => e = .returned (.int .i64 (tabN s)) ∧ w' = w := by
  unfold maxLen at hs
  go_enter Tryz.func105, Tryz.ntmps105
  go_wp2
  go_loop [3, 4] (fun v c => ∃ k : Int, 1 ≤ k ∧ k ≤ 7 ∧ c = .int .i64 k ∧ v = .int .i64 (sideTo s.size k)) (fun _ c => (7 - intOf c).toNat)
  case atStart => exact ⟨1, by omega, by omega, rfl, by have := sideF_bd s.size; unfold sideTo; split <;> first | rfl | (congr 1; omega)⟩
  case round =>
    obtain ⟨k, hk1, hk2, rfl, rfl⟩ := hrel
    by_cases hlt : k ≤ 6
    · have hsq := sq_le k hk1 hlt
      have hsq0 : 0 ≤ k * k := Int.mul_nonneg (by omega) (by omega)
      by_cases hq : (s.size : Int) = k * k
      · have hq1 : ((s.size : Int) == k * k) = true := by simpa using hq
        have hq2 : Hid _ := hq
        clear hq
        go_wp2
        go_round
        case rel => exact ⟨k + 1, by omega, by omega, by go_num, by rw [sideTo_yes hk1 hlt hq2.out]⟩
        case measure => simp [intOf]; omega
      · have hq1 : ((s.size : Int) == k * k) = false := by simpa using hq
        have hq2 : Hid _ := hq
        clear hq
        go_wp2
        go_round
        case rel => exact ⟨k + 1, by omega, by omega, by go_num, by rw [sideTo_no hk1 hq2.out]⟩
        case measure => simp [intOf]; omega
    · obtain rfl : k = 7 := by omega
      have h7 := sideTo_end s.size
      have hb7 := sideF_bd s.size
      rw [h7]
      clear h7
      have hb8 : 0 ≤ sideF s.size ∧ sideF s.size ≤ 6 := ⟨hb7.1, hb7.2.1⟩
      clear hb7
      go_wp2
      go_loop [3, 5] (fun v c => ∃ m : Nat, m ≤ s.size ∧ c = .int .i64 m ∧ ∃ x : Int, 0 ≤ x ∧ x ≤ 6 ∧ v = .int .i64 x ∧ Hid (x = if allTo (isBit s) m then sideF s.size else 0)) (fun _ c => s.size - (intOf c).toNat)
      case atStart => exact ⟨0, by omega, rfl, _, hb8.1, hb8.2, rfl, by simp [Hid, allTo]⟩
      case round =>
        obtain ⟨m, hm, rfl, x, hx0, hx6, rfl, hx⟩ := hrel
        by_cases hlt2 : m < s.size
        · by_cases hpos : 0 < x
          · have hall : Hid (allTo (isBit s) m = true ∧ x = sideF s.size) := by
              have h := hx.out
              split at h
              · exact ⟨by assumption, h⟩
              · omega
            go_wp2
            · go_round
              case rel => exact ⟨m + 1, by omega, by go_num, x, by omega, by omega, rfl, by simp only [Hid, allTo, hall.out.1, (isBit_iff hlt2).2 (.inl (by assumption))]; exact hall.out.2⟩
              case measure => simp [intOf]; omega
            · go_round
              case rel => exact ⟨m + 1, by omega, by go_num, 0, by omega, by omega, rfl, by simp only [Hid, allTo, isBit_no hlt2 (by assumption)]; simp⟩
              case measure => simp [intOf]; omega
            · go_round
              case rel => exact ⟨m + 1, by omega, by go_num, x, by omega, by omega, rfl, by simp only [Hid, allTo, hall.out.1, isBit_or hlt2 (by assumption)]; exact hall.out.2⟩
              case measure => simp [intOf]; omega
          · have fin : Hid (tabN s = x) := by
              have h := hx.out
              unfold tabN bits
              cases e : allTo (isBit s) m with
              | false => rw [allTo_less (by omega) e]; rw [e] at h; exact h.symm
              | true =>
                rw [e, if_pos rfl] at h
                have h0 : x = 0 := by omega
                rw [← h, h0]
                split <;> rfl
            go_wp2
            go_ret
            exact ⟨ret_int fin.out.symm, rfl⟩
        · have hmn : m = s.size := by omega
          have fin : Hid (tabN s = x) := by unfold tabN bits; rw [← hmn]; rw [← hmn] at hx; exact hx.out.symm
          clear hmn
          go_wp2
          go_ret
          exact ⟨ret_int fin.out.symm, rfl⟩
end Go.Proofs.YtcnbifdlkalimaaGreat
