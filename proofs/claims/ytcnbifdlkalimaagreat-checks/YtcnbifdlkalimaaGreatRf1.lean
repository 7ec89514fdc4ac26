/-
  The walks of the document's own answer on files (package sluiceref, P4), first part: how a text is cut; for every text.
-/
import Derived.Test.YtcnbifdlkalimaaGreatPlain4
import Derived.Deep.QuietTactic
import Derived.BigQuiet
import Derived.RegionTactic
namespace Go.Proofs.YtcnbifdlkalimaaGreat
open Go.RowKit
set_option linter.unusedVariables false

set_option maxHeartbeats 400000 in
theorem first_yes (s : ByteArray) (n : Int) (w : World) (hs : s.size ≤ maxLen) (h0 : 0 ≤ n) (h : n ≤ s.size) :
    Calls Tryz.prog 103 #[.string s, .int .i64 n] w fun e w' => e = .returned (.tuple #[.string (hd s n), .string (tl s n), .bool true]) ∧ Below w.heap.size w w' := by
  unfold maxLen at hs
  go_enter Tryz.func103, Tryz.ntmps103
  go_wp2
  go_quiet (fail)
  go_wp2
  go_ret3
  exact ⟨rfl, below_drewN (Below.refl _ _) _⟩

set_option maxHeartbeats 400000 in
theorem first_no (s : ByteArray) (n : Int) (w : World) (hs : s.size ≤ maxLen) (h0 : 0 ≤ n) (h : s.size < n) :
    Calls Tryz.prog 103 #[.string s, .int .i64 n] w fun e w' => e = .returned (.tuple #[.string { data := #[] }, .string { data := #[] }, .bool false]) ∧ Below w.heap.size w w' := by
  unfold maxLen at hs
  go_enter Tryz.func103, Tryz.ntmps103
  go_wp2
  go_ret3
  exact ⟨rfl, Below.refl _ _⟩

set_option maxHeartbeats 800000 in
theorem counted_yes (s : ByteArray) (sz most : Int) (w : World) (hs : s.size ≤ maxLen) (z0 : 0 ≤ sz) (z2 : sz ≤ 2) (h : cOk s sz most = true) :
    Calls Tryz.prog 104 #[.string s, .int .i64 sz, .int .i64 most] w fun e w' => e = .returned (.tuple #[.string (cPart s sz), .string (cRest s sz), .bool true]) ∧ Below w.heap.size w w' := by
  obtain ⟨h1, h2, h3⟩ := cOk_t h
  have hsz1 : 0 < (hd s 1).size := by have := hd_size (s := s) (n := 1) (by omega) (by omega); omega
  have e0 : (((hd s 1)[0]'hsz1).toNat : Int) = bv s 0 := (bv_nat (hd s 1) 0 (by omega)).trans (bv_hd 0 (by omega) (by omega))
  obtain ⟨b0, b1⟩ := bv_bd s 0
  have ht := tl_le s 1
  go_enter Tryz.func104, Tryz.ntmps104
  go_wp2_with fail
  refine (first_yes s 1 _ hs (by omega) (by omega)).mono ?_
  rintro e w1 ⟨rfl, hb1⟩
  have HP : Hid (cPart s sz = hd (tl s 1) (sz * bv s 0) ∧ cRest s sz = tl (tl s 1) (sz * bv s 0)) := ⟨rfl, rfl⟩
  generalize bv s 0 = v at *
  have m0 : 0 ≤ v * sz := Int.mul_nonneg b0 z0
  have m1 : v * sz ≤ 510 := Int.le_trans (Int.mul_le_mul b1 z2 z0 (by omega)) (by omega)
  rw [Int.mul_comm sz v] at h3
  rw [Int.mul_comm sz v] at HP
  go_wp2_with fail
  refine (first_yes (tl s 1) (v * sz) _ (by omega) (by omega) (by omega)).mono ?_
  rintro e w2 ⟨rfl, hb2⟩
  go_wp2
  go_ret3
  rw [HP.out.1, HP.out.2]
  exact ⟨rfl, hb1.trans (hb2.mono hb1.size)⟩

set_option maxHeartbeats 800000 in
theorem counted_no (s : ByteArray) (sz most : Int) (w : World) (hs : s.size ≤ maxLen) (z0 : 0 ≤ sz) (z2 : sz ≤ 2) (h : cOk s sz most = false) :
    Calls Tryz.prog 104 #[.string s, .int .i64 sz, .int .i64 most] w fun e w' => e = .returned (.tuple #[.string { data := #[] }, .string { data := #[] }, .bool false]) ∧ Below w.heap.size w w' := by
  obtain ⟨b0, b1⟩ := bv_bd s 0
  have ht := tl_le s 1
  rcases cOk_f h with h1 | h1
  · go_enter Tryz.func104, Tryz.ntmps104
    go_wp2_with fail
    refine (first_no s 1 _ hs (by omega) (by omega)).mono ?_
    rintro e w1 ⟨rfl, hb1⟩
    go_wp2
    go_ret3
    exact ⟨rfl, hb1⟩
  · have h10 : 1 ≤ s.size := by omega
    have hsz1 : 0 < (hd s 1).size := by have := hd_size (s := s) (n := 1) (by omega) (by omega); omega
    have e0 : (((hd s 1)[0]'hsz1).toNat : Int) = bv s 0 := (bv_nat (hd s 1) 0 (by omega)).trans (bv_hd 0 (by omega) (by omega))
    have m0 : 0 ≤ bv s 0 * sz := Int.mul_nonneg b0 z0
    have m1 : bv s 0 * sz ≤ 510 := Int.le_trans (Int.mul_le_mul b1 z2 z0 (by omega)) (by omega)
    rcases h1 with ⟨h1, h2⟩ | ⟨h1, h2, h3⟩
    · generalize bv s 0 = v at *
      go_enter Tryz.func104, Tryz.ntmps104
      go_wp2_with fail
      refine (first_yes s 1 _ hs (by omega) (by omega)).mono ?_
      rintro e w1 ⟨rfl, hb1⟩
      go_wp2
      go_ret3
      exact ⟨rfl, hb1⟩
    · rw [Int.mul_comm sz] at h3
      generalize bv s 0 = v at *
      go_enter Tryz.func104, Tryz.ntmps104
      go_wp2_with fail
      refine (first_yes s 1 _ hs (by omega) (by omega)).mono ?_
      rintro e w1 ⟨rfl, hb1⟩
      go_wp2_with fail
      refine (first_no (tl s 1) (v * sz) _ (by omega) (by omega) (by omega)).mono ?_
      rintro e w2 ⟨rfl, hb2⟩
      go_wp2
      go_ret3
      exact ⟨rfl, hb1.trans (hb2.mono hb1.size)⟩
end Go.Proofs.YtcnbifdlkalimaaGreat
