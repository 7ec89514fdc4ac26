/-
  The walks of the document's own answer on tables (package sluiceref, P3), last part: Join and Meet; for every text and all numbers.
-/
import Derived.Test.YtcnbifdlkalimaaRef3
namespace Go.Proofs.Ytcnbifdlkalimaa
open Go.RowKit

set_option maxHeartbeats 800000 in
theorem askJ_ref (s : ByteArray) (a b : Int) (w : World) (hsm : s.size ≤ maxLen) :
    Calls Try.prog 16 #[.string s, .int .i64 a, .int .i64 b] w fun e w' => e = .returned (.tuple #[.int .i64 (askJ s a b), .int .i64 (askE s a b)]) ∧ w' = w := by
  go_enter Try.func16, Try.ntmps16
  go_wp2_with fail
  refine (levels_ref s _ hsm).mono ?_
  rintro e w1 ⟨rfl, rfl⟩
  by_cases h0 : levE s = 0
  · rw [lev_ok h0, h0]
    have ht := (tabN_tab (levE_0 h0).1).1
    by_cases hin : 0 ≤ a ∧ a < tabN s ∧ 0 ≤ b ∧ b < tabN s
    · have hask : Hid _ := ask_in h0 hin
      clear h0
      generalize hn : tabN s = n at *
      obtain ⟨i1, i2, i3, i4⟩ := hin
      clear hn
      go_wp2_with fail
      refine (joinOf_ref ht a b _ i1 i2 i3 i4).mono ?_
      rintro e w1 ⟨rfl, rfl⟩
      rw [hask.out.2.1]
      go_wp2
      go_ret2
      rw [hask.out.1]
      exact ⟨rfl, rfl⟩
    · have hask : Hid _ := ask_out h0 hin
      clear h0
      generalize hn : tabN s = n at *
      clear hn
      by_cases i1 : 0 ≤ a
      · by_cases i3 : 0 ≤ b
        · by_cases i2 : a < n
          · have i4 : ¬ b < n := fun h => hin ⟨i1, i2, i3, h⟩
            clear hin
            go_wp2
            go_ret2
            rw [hask.out.1, hask.out.2.1]
            exact ⟨rfl, rfl⟩
          · clear hin
            go_wp2
            go_ret2
            rw [hask.out.1, hask.out.2.1]
            exact ⟨rfl, rfl⟩
        · clear hin
          go_wp2
          go_ret2
          rw [hask.out.1, hask.out.2.1]
          exact ⟨rfl, rfl⟩
      · clear hin
        go_wp2
        go_ret2
        rw [hask.out.1, hask.out.2.1]
        exact ⟨rfl, rfl⟩
  · have hask : Hid _ := ask_lev (a := a) (b := b) h0
    have h00 : (levE s != 0) = true := by simpa using h0
    rw [lev_err rfl h0]
    clear h0
    go_wp2
    go_ret2
    rw [hask.out.1, hask.out.2.1]
    exact ⟨rfl, rfl⟩

set_option maxHeartbeats 800000 in
theorem askM_ref (s : ByteArray) (a b : Int) (w : World) (hsm : s.size ≤ maxLen) :
    Calls Try.prog 18 #[.string s, .int .i64 a, .int .i64 b] w fun e w' => e = .returned (.tuple #[.int .i64 (askM s a b), .int .i64 (askE s a b)]) ∧ w' = w := by
  go_enter Try.func18, Try.ntmps18
  go_wp2_with fail
  refine (levels_ref s _ hsm).mono ?_
  rintro e w1 ⟨rfl, rfl⟩
  by_cases h0 : levE s = 0
  · rw [lev_ok h0, h0]
    have ht := (tabN_tab (levE_0 h0).1).1
    by_cases hin : 0 ≤ a ∧ a < tabN s ∧ 0 ≤ b ∧ b < tabN s
    · have hask : Hid _ := ask_in h0 hin
      clear h0
      generalize hn : tabN s = n at *
      obtain ⟨i1, i2, i3, i4⟩ := hin
      clear hn
      go_wp2_with fail
      refine (meetOf_ref ht hsm a b _ i1 i2 i3 i4).mono ?_
      rintro e w1 ⟨rfl, rfl⟩
      rw [hask.out.2.2]
      go_wp2
      go_ret2
      rw [hask.out.1]
      exact ⟨rfl, rfl⟩
    · have hask : Hid _ := ask_out h0 hin
      clear h0
      generalize hn : tabN s = n at *
      clear hn
      by_cases i1 : 0 ≤ a
      · by_cases i3 : 0 ≤ b
        · by_cases i2 : a < n
          · have i4 : ¬ b < n := fun h => hin ⟨i1, i2, i3, h⟩
            clear hin
            go_wp2
            go_ret2
            rw [hask.out.1, hask.out.2.2]
            exact ⟨rfl, rfl⟩
          · clear hin
            go_wp2
            go_ret2
            rw [hask.out.1, hask.out.2.2]
            exact ⟨rfl, rfl⟩
        · clear hin
          go_wp2
          go_ret2
          rw [hask.out.1, hask.out.2.2]
          exact ⟨rfl, rfl⟩
      · clear hin
        go_wp2
        go_ret2
        rw [hask.out.1, hask.out.2.2]
        exact ⟨rfl, rfl⟩
  · have hask : Hid _ := ask_lev (a := a) (b := b) h0
    have h00 : (levE s != 0) = true := by simpa using h0
    rw [lev_err rfl h0]
    clear h0
    go_wp2
    go_ret2
    rw [hask.out.1, hask.out.2.2]
    exact ⟨rfl, rfl⟩

end Go.Proofs.Ytcnbifdlkalimaa
