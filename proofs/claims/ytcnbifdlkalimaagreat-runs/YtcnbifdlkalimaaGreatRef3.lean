/-
  The walks of the document's own answer on tables (package sluiceref, P3), third part: the table upside down, the meet, Levels, Join and Meet; for every text and all numbers.
-/
import Derived.Test.YtcnbifdlkalimaaGreatRef2
import Derived.Test.YtcnbifdlkalimaaGreatPlain2
namespace Go.Proofs.YtcnbifdlkalimaaGreat
open Go.RowKit

set_option maxHeartbeats 800000 in
theorem turned_ref {s : ByteArray} {n : Int} (ht : Tab s n) (hsm : s.size ≤ maxLen) (w : World) :
    Calls Tryz.prog 159 #[.string s, .int .i64 n] w fun e w' => ∃ t : ByteArray, e = .returned (.string t) ∧ Turned s t n n.toNat 0 ∧ w' = w := by
  obtain ⟨t1, t2, t3⟩ := id ht
  unfold maxLen at hsm
  have h36 := sq_le n t1 t2
  go_enter Tryz.func159, Tryz.ntmps159
  go_wp2
  go_loop [5, 6] (fun v c => ∃ k : Nat, (k : Int) ≤ n ∧ c = .int .i64 k ∧ ∃ t : ByteArray, v = .string t ∧ Turned s t n k 0) (fun _ c => n.toNat - (intOf c).toNat)
  case atStart => exact ⟨0, by omega, rfl, _, rfl, Turned.start s n⟩
  case round =>
    obtain ⟨k, hk, rfl, t, rfl, hT⟩ := hrel
    by_cases hlt : (k : Int) < n
    · go_wp2_with fail
      go_loop [5, 7] (fun v c => ∃ m : Nat, (m : Int) ≤ n ∧ c = .int .i64 m ∧ ∃ t : ByteArray, v = .string t ∧ Turned s t n k m) (fun _ c => n.toNat - (intOf c).toNat)
      case atStart => exact ⟨0, by omega, rfl, t, rfl, hT⟩
      case round =>
        clear hT
        obtain ⟨m, hm, rfl, t, rfl, hT⟩ := hrel
        by_cases hlt2 : (m : Int) < n
        · obtain ⟨h1, h2⟩ := ix_lt n m k (by omega) hlt2 hlt
          have h3 : (m : Int) * n + k < s.size := by omega
          have h4 : t.size ≤ 36 := hT.small h36 (by omega) (by omega)
          have hT2 := hT.more hlt hlt2 h3
          go_wp2
          go_round
          case rel => exact ⟨m + 1, by omega, by go_num, _, rfl, hT2⟩
          case measure => simp [intOf]; omega
        · have hT2 := hT.row (by omega)
          go_wp2
          go_round
          case rel => exact ⟨k + 1, by omega, by go_num, _, rfl, hT2⟩
          case measure => simp [intOf]; omega
    · obtain rfl : k = n.toNat := by omega
      go_wp2
      go_ret
      exact ⟨_, rfl, hT, rfl⟩

set_option maxHeartbeats 400000 in
theorem meetOf_ref {s : ByteArray} {n : Int} (ht : Tab s n) (hsm : s.size ≤ maxLen) (a b : Int) (w : World) (ha : 0 ≤ a) (ha' : a < n) (hb : 0 ≤ b) (hb' : b < n) :
    Calls Tryz.prog 107 #[.string s, .int .i64 n, .int .i64 a, .int .i64 b] w fun e w' => e = .returned (.int .i64 ((rMeet s n a b).getD (-1))) ∧ w' = w := by
  go_enter Tryz.func107, Tryz.ntmps107
  go_wp2_with fail
  refine (turned_ref ht hsm _).mono ?_
  rintro e w1 ⟨t, rfl, hT, rfl⟩
  have hm : Hid _ := hT.meet ht a b ha ha' hb hb'
  have htt := hT.tab ht
  clear hT
  go_wp2_with fail
  refine (joinOf_ref htt a b _ ha ha' hb hb').mono ?_
  rintro e w2 ⟨rfl, rfl⟩
  rw [hm.out]
  go_wp2
  go_ret
  exact ⟨rfl, rfl⟩

theorem joinD (o : Option Int) (n : Nat) (h : ∀ x, o = some x → 0 ≤ x ∧ x < n) : (o.isSome = true → 0 ≤ o.getD (-1) ∧ o.getD (-1) < n) ∧ (o.isSome = false → o.getD (-1) = -1) := by
  cases o with
  | none => exact ⟨fun h => absurd h (by simp), fun _ => rfl⟩
  | some x => exact ⟨fun _ => h x rfl, fun h => absurd h (by simp)⟩

set_option maxHeartbeats 800000 in
theorem levels_ref (s : ByteArray) (w : World) (hsm : s.size ≤ maxLen) :
    Calls Tryz.prog 46 #[.string s] w fun e w' => e = .returned (.tuple #[.int .i64 (levN s), .int .i64 (levE s)]) ∧ w' = w := by
  go_enter Tryz.func46, Tryz.ntmps46
  go_wp2_with fail
  refine (size_ref s _ hsm).mono ?_
  rintro e w1 ⟨rfl, rfl⟩
  by_cases h0 : tabN s = 0
  · have hE : Hid (levE s = 3) := by unfold Hid levE; rw [if_pos h0]
    rw [h0]
    clear h0
    go_wp2
    go_ret2
    rw [lev_err hE.out (by omega), hE.out]
    exact ⟨rfl, rfl⟩
  · have ht := (tabN_tab h0).1
    have h00 : (tabN s == 0) = false := by simpa using h0
    have hE : Hid (levE s = if rOrder s (tabN s) then (if rLat s (tabN s) then 0 else 5) else 4) := by unfold Hid levE; rw [if_neg h0]
    clear h0
    generalize hn : tabN s = n at *
    have hn2 : Hid _ := hn
    clear hn
    obtain ⟨t1, t2, -⟩ := id ht
    go_wp2_with fail
    refine (ordered_ref ht _).mono ?_
    rintro e w1 ⟨rfl, rfl⟩
    generalize hx : rOrder s n = x
    have hx : Hid _ := hx
    cases x
    · go_wp2
      go_ret2
      have h4 : levE s = 4 := by rw [hE.out, hx.out]; rfl
      rw [lev_err h4 (by omega), h4]
      exact ⟨rfl, rfl⟩
    · go_wp2_with fail
      go_loop [6] (fun c => ∃ k : Nat, (k : Int) ≤ n ∧ c = .int .i64 k ∧ Hid (∀ i : Nat, i < k → allTo (fun b => (rJoin s n i b).isSome && (rMeet s n i b).isSome) n.toNat = true)) (fun c => n.toNat - (intOf c).toNat)
      case atStart => exact ⟨0, by omega, rfl, fun i hi => absurd hi (by omega)⟩
      case round =>
        obtain ⟨k, hk, rfl, hall⟩ := hrel
        by_cases hlt : (k : Int) < n
        · go_wp2_with fail
          go_loop [7] (fun c => ∃ m : Nat, (m : Int) ≤ n ∧ c = .int .i64 m ∧ Hid (∀ i : Nat, i < m → ((rJoin s n k i).isSome && (rMeet s n k i).isSome) = true)) (fun c => n.toNat - (intOf c).toNat)
          case atStart => exact ⟨0, by omega, rfl, fun i hi => absurd hi (by omega)⟩
          case round =>
            obtain ⟨m, hm, rfl, hin⟩ := hrel
            by_cases hlt2 : (m : Int) < n
            · go_wp2_with fail
              refine (joinOf_ref ht k m _ (by omega) hlt (by omega) hlt2).mono ?_
              rintro e w1 ⟨rfl, rfl⟩
              go_wp2_with fail
              refine (meetOf_ref ht hsm k m _ (by omega) hlt (by omega) hlt2).mono ?_
              rintro e w1 ⟨rfl, rfl⟩
              have hj := joinD (rJoin s n k m) n.toNat (fun x h => ⟨(firstTo_lt h).1, (firstTo_lt h).2.1⟩)
              have hmm := joinD (rMeet s n k m) n.toNat (fun x h => ⟨(firstTo_lt h).1, (firstTo_lt h).2.1⟩)
              generalize (rJoin s n k m).getD (-1) = jv at hj ⊢
              generalize (rMeet s n k m).getD (-1) = mv at hmm ⊢
              generalize hu : (rJoin s n k m).isSome = u at hj
              generalize hv : (rMeet s n k m).isSome = v at hmm
              have bad : Hid ((u && v) = false → rLat s n = false) := by
                intro h
                refine allTo_false (i := k) (by omega) ?_
                exact allTo_false (i := m) (by omega) (by rw [hu, hv, h])
              have done : Hid ((u && v) = true → ∀ i : Nat, i < m + 1 → ((rJoin s n k i).isSome && (rMeet s n k i).isSome) = true) :=
                fun h => all_more (p := fun b => (rJoin s n k b).isSome && (rMeet s n k b).isSome) hin.out (by rw [hu, hv, h])
              clear hu hv
              cases u <;> cases v
              case true.true =>
                have a1 := hj.1 rfl
                have a2 := hmm.1 rfl
                clear hj hmm
                obtain ⟨a3, a4⟩ := a1
                obtain ⟨a5, a6⟩ := a2
                go_wp2
                go_round
                case rel => exact ⟨m + 1, by omega, by go_num, done.out rfl⟩
                case measure => simp [intOf]; omega
              case true.false =>
                have a1 := hj.1 rfl
                have a2 := hmm.2 rfl
                clear hj hmm
                obtain ⟨a3, a4⟩ := a1
                subst a2
                go_wp2
                go_ret2
                have h5 : levE s = 5 := by rw [hE.out, hx.out, bad.out rfl]; rfl
                rw [lev_err h5 (by omega), h5]
                exact ⟨rfl, rfl⟩
              case false.true =>
                have a1 := hj.2 rfl
                clear hj hmm
                subst a1
                go_wp2
                go_ret2
                have h5 : levE s = 5 := by rw [hE.out, hx.out, bad.out rfl]; rfl
                rw [lev_err h5 (by omega), h5]
                exact ⟨rfl, rfl⟩
              case false.false =>
                have a1 := hj.2 rfl
                clear hj hmm
                subst a1
                go_wp2
                go_ret2
                have h5 : levE s = 5 := by rw [hE.out, hx.out, bad.out rfl]; rfl
                rw [lev_err h5 (by omega), h5]
                exact ⟨rfl, rfl⟩
            · have done : Hid (∀ i : Nat, i < k + 1 → allTo (fun b => (rJoin s n i b).isSome && (rMeet s n i b).isSome) n.toNat = true) :=
                all_more (p := fun a => allTo (fun b => (rJoin s n a b).isSome && (rMeet s n a b).isSome) n.toNat) hall.out (allTo_true.2 (fun i hi => hin.out i (by omega)))
              go_wp2
              go_round
              case rel => exact ⟨k + 1, by omega, by go_num, done⟩
              case measure => simp [intOf]; omega
        · have hl : Hid (rLat s n = true) := allTo_true.2 (fun i hi => hall.out i (by omega))
          go_wp2
          go_ret2
          have h1 : levE s = 0 := by rw [hE.out, hx.out, hl.out]; rfl
          rw [lev_ok h1, hn2.out, h1]
          exact ⟨rfl, rfl⟩
end Go.Proofs.YtcnbifdlkalimaaGreat
