/-
  The statement Lattice: for every text and all numbers, of a table that Levels lets through the join that the program tells is a least level above both, the meet a greatest below both, and each swallows the other; no condition.
-/
import Derived.Test.YtcnbifdlkalimaaLat4
import Derived.Test.YtcnbifdlkalimaaPlain3
import Derived.ProofKit
import Derived.OpenShut
import Derived.ShutString
import Derived.ChangeOld
import Derived.Below
namespace Go.Proofs.Ytcnbifdlkalimaa
namespace lattice
open Go.ChangeShapes Go.WideShapes Go.ChangeAt Go.RowKit
open Go.ChangeMaps (open_string shut_string)

theorem own : ownKnob Try.prog.godebug = none := by kernel_rfl

set_option maxHeartbeats 400000 in
theorem at_any {s : ByteArray} {n : Int} (ht : Tab s n) (a b : Int) (w : World) (ha : 0 ≤ a) (ha' : a < n) (hb : 0 ≤ b) (hb' : b < n) :
    Calls Try.prog 23 #[.string s, .int .i64 n, .int .i64 a, .int .i64 b] w fun e w' => e = .returned (.bool (le s n a b)) ∧ w' = w := by
  obtain ⟨t1, t2, t3⟩ := ht
  obtain ⟨h1, h2⟩ := ix_lt n a b ha ha' hb'
  have h3 : a * n + b < s.size := by omega
  have h5 : 0 ≤ a * n + b := by omega
  have h4 := sq_le n t1 t2
  have HL := le_get s n a b (by omega)
  have HH : Hid _ := HL
  clear HL
  go_enter Try.func23, Try.ntmps23
  go_wp2
  go_ret
  exact ⟨ret_bool HH.out, rfl⟩

set_option maxHeartbeats 400000 in
theorem pick_any (c n : Int) (w : World) (hc : -9223372036854775808 ≤ c ∧ c ≤ 9223372036854775807) (h1 : 1 ≤ n) (h6 : n ≤ 6) :
    Calls Try.prog 22 #[.int .i64 c, .int .i64 n] w fun e w' => ∃ r : Int, e = .returned (.int .i64 r) ∧ (0 ≤ r ∧ r < n) ∧ w' = w := by
  obtain ⟨c1, c2⟩ := hc
  have hn0 : (n == 0) = false := by simp; omega
  by_cases h0 : c < 0
  · have e0 : -((c + 1).tmod n) = -(c + 1) % n := by rw [← Int.neg_tmod, Int.tmod_eq_emod_of_nonneg (by omega)]
    have hp := Int.emod_nonneg (-(c + 1)) (b := n) (by omega)
    have hq := Int.emod_lt_of_pos (-(c + 1)) (b := n) (by omega)
    rw [← e0] at hp hq
    clear e0
    go_enter Try.func22, Try.ntmps22
    go_wp2
    go_ret
    exact ⟨_, rfl, ⟨hp, hq⟩, rfl⟩
  · have hp := Int.emod_nonneg c (b := n) (by omega)
    have hq := Int.emod_lt_of_pos c (b := n) (by omega)
    go_enter Try.func22, Try.ntmps22
    go_wp2
    go_ret
    exact ⟨_, rfl, ⟨hp, hq⟩, rfl⟩

theorem k1 : levE { data := #[49, 49, 48, 49] } = 0 ∧ levN { data := #[49, 49, 48, 49] } = 2 := by decide +kernel
theorem k2 : askJ { data := #[49, 49, 48, 49] } 0 1 = 1 ∧ askE { data := #[49, 49, 48, 49] } 0 1 = 0 := by decide +kernel
theorem k3 : askM { data := #[49, 49, 48, 49] } 1 0 = 0 ∧ askE { data := #[49, 49, 48, 49] } 1 0 = 0 := by decide +kernel
theorem k4 : levE { data := #[49, 48, 48, 49] } = 5 ∧ levN { data := #[49, 48, 48, 49] } = 0 := by decide +kernel
theorem short1 : (ByteArray.mk #[49, 49, 48, 49]).size ≤ maxLen := by unfold maxLen; decide
theorem short2 : (ByteArray.mk #[49, 48, 48, 49]).size ≤ maxLen := by unfold maxLen; decide

set_option maxHeartbeats 400000 in
theorem head_any (w : World) :
    Calls Try.prog 21 #[] w fun e w' => e = .returned (.bool true) ∧ Below w.heap.size w w' := by
  go_enter Try.func21, Try.ntmps21
  go_wp2_with fail
  refine (levels_any _ _ short1).mono ?_
  rintro e w1 ⟨rfl, b0⟩
  rw [k1.1, k1.2]
  go_wp2_with fail
  refine (askJ_any _ 0 1 _ short1).mono ?_
  rintro e w2 ⟨rfl, b1⟩
  rw [k2.1, k2.2]
  replace b0 := b0.trans (b1.mono b0.size)
  clear b1
  go_wp2_with fail
  refine (askM_any _ 1 0 _ short1).mono ?_
  rintro e w3 ⟨rfl, b1⟩
  rw [k3.1, k3.2]
  replace b0 := b0.trans (b1.mono b0.size)
  clear b1
  go_wp2_with fail
  refine (levels_any _ _ short2).mono ?_
  rintro e w4 ⟨rfl, b1⟩
  rw [k4.1, k4.2]
  replace b0 := b0.trans (b1.mono b0.size)
  clear b1
  go_wp2
  go_ret
  exact ⟨rfl, b0⟩

set_option linter.unusedVariables false in
set_option maxRecDepth 100000 in
set_option maxHeartbeats 8000000 in
theorem walk (a0 : ByteArray) (a1 : Int) (a2 : Int) (a3 : Int) (w0 : a0.size ≤ maxLen) (w1 : (Lit.int .i64 a1).wf = true) (w2 : (Lit.int .i64 a2).wf = true) (w3 : (Lit.int .i64 a3).wf = true) (w : World) :
    Calls Try.prog 5 #[.string a0, .int .i64 a1, .int .i64 a2, .int .i64 a3] w fun e w' => e = .returned (.bool true) ∧ Below w.heap.size w w' := by
  have c1 : -9223372036854775808 ≤ a1 ∧ a1 ≤ 9223372036854775807 := by simpa [Lit.wf, IntKind.min, IntKind.max, IntKind.signed, IntKind.bits] using w1
  have c2 : -9223372036854775808 ≤ a2 ∧ a2 ≤ 9223372036854775807 := by simpa [Lit.wf, IntKind.min, IntKind.max, IntKind.signed, IntKind.bits] using w2
  have c3 : -9223372036854775808 ≤ a3 ∧ a3 ≤ 9223372036854775807 := by simpa [Lit.wf, IntKind.min, IntKind.max, IntKind.signed, IntKind.bits] using w3
  clear w1 w2 w3
  go_enter Try.func5, Try.ntmps5
  go_wp2_with fail
  refine (head_any _).mono ?_
  rintro e w1 ⟨rfl, b0⟩
  go_wp2_with fail
  refine (levels_any a0 _ w0).mono ?_
  rintro e w2 ⟨rfl, b1⟩
  replace b0 := b0.trans (b1.mono b0.size)
  clear b1
  by_cases h0 : levE a0 = 0
  · obtain ⟨ht, hsq, -, -⟩ := tabN_tab (levE_0 h0).1
    have hf := lat_facts h0
    rw [lev_ok h0, h0]
    clear h0
    generalize tabN a0 = n at *
    have hf : Hid _ := hf
    obtain ⟨t1, t2, t3⟩ := id ht
    have h36 := sq_le n t1 t2
    have h360 : 0 ≤ n * n := Int.mul_nonneg (by omega) (by omega)
    have hsq1 : (n * n != (a0.size : Int)) = false := by simpa using hsq
    clear hsq
    go_wp2_with fail
    refine (pick_any a1 n _ c1 t1 t2).mono ?_
    rintro e w3 ⟨x, rfl, hx, rfl⟩
    go_wp2_with fail
    refine (pick_any a2 n _ c2 t1 t2).mono ?_
    rintro e w3 ⟨y, rfl, hy, rfl⟩
    go_wp2_with fail
    refine (pick_any a3 n _ c3 t1 t2).mono ?_
    rintro e w3 ⟨z, rfl, hz, rfl⟩
    obtain ⟨j, m, f1, f2, f3, f4, f5, ⟨g1, g2, g3, g4⟩, f6, f7, f8, f9, e1, e2, e3, e4⟩ := hf.out x y z hx hy hz
    clear hf c1 c2 c3
    have f1 : Hid _ := f1
    have f2 : Hid _ := f2
    have f3 : Hid _ := f3
    have f8 : Hid _ := f8
    have f9 : Hid _ := f9
    have e1 : Hid _ := e1
    have e2 : Hid _ := e2
    have e3 : Hid _ := e3
    have e4 : Hid _ := e4
    go_wp2_with fail
    refine (askJ_any a0 x y _ w0).mono ?_
    rintro e w4 ⟨rfl, b1⟩
    replace b0 := b0.trans (b1.mono b0.size)
    clear b1
    rw [f1.out, e1.out]
    go_wp2_with fail
    refine (askM_any a0 x y _ w0).mono ?_
    rintro e w5 ⟨rfl, b1⟩
    replace b0 := b0.trans (b1.mono b0.size)
    clear b1
    rw [f2.out, e1.out]
    go_wp2_with fail
    refine (askJ_any a0 y x _ w0).mono ?_
    rintro e w6 ⟨rfl, b1⟩
    replace b0 := b0.trans (b1.mono b0.size)
    clear b1
    rw [f3.out, e2.out]
    obtain ⟨hx1, hx2⟩ := hx
    obtain ⟨hy1, hy2⟩ := hy
    obtain ⟨hz1, hz2⟩ := hz
    obtain ⟨hj1, hj2⟩ := f4
    obtain ⟨hm1, hm2⟩ := f5
    have hover : le a0 n x z = false ∨ (le a0 n x z = true ∧ le a0 n y z = false) ∨ (le a0 n x z = true ∧ le a0 n y z = true ∧ le a0 n j z = true) := by
      cases p1 : le a0 n x z with
      | false => exact .inl rfl
      | true =>
        cases p2 : le a0 n y z with
        | false => exact .inr (.inl ⟨rfl, rfl⟩)
        | true => exact .inr (.inr ⟨rfl, rfl, f6 p1 p2⟩)
    have hunder : le a0 n z x = false ∨ (le a0 n z x = true ∧ le a0 n z y = false) ∨ (le a0 n z x = true ∧ le a0 n z y = true ∧ le a0 n z m = true) := by
      cases p1 : le a0 n z x with
      | false => exact .inl rfl
      | true =>
        cases p2 : le a0 n z y with
        | false => exact .inr (.inl ⟨rfl, rfl⟩)
        | true => exact .inr (.inr ⟨rfl, rfl, f7 p1 p2⟩)
    clear f6 f7
    have hover : Hid _ := hover
    have hunder : Hid _ := hunder
    go_wp2_with fail
    refine (at_any ht x j _ hx1 hx2 hj1 hj2).mono ?_
    rintro e w7 ⟨rfl, rfl⟩
    rw [g1]
    go_wp2_with fail
    refine (at_any ht y j _ hy1 hy2 hj1 hj2).mono ?_
    rintro e w7 ⟨rfl, rfl⟩
    rw [g2]
    go_wp2_with fail
    refine (at_any ht m x _ hm1 hm2 hx1 hx2).mono ?_
    rintro e w7 ⟨rfl, rfl⟩
    rw [g3]
    go_wp2_with fail
    refine (at_any ht m y _ hm1 hm2 hy1 hy2).mono ?_
    rintro e w7 ⟨rfl, rfl⟩
    rw [g4]
    go_wp2_with fail
    rcases hover.out with p | ⟨p, p1⟩ | ⟨p, p1, p2⟩
    · refine (at_any ht x z _ hx1 hx2 hz1 hz2).mono ?_
      rintro e w7 ⟨rfl, rfl⟩
      rw [p]
      go_wp2_with fail
      rcases hunder.out with u | ⟨u, u1⟩ | ⟨u, u1, u2⟩
      · refine (at_any ht z x _ hz1 hz2 hx1 hx2).mono ?_
        rintro e w7 ⟨rfl, rfl⟩
        rw [u]
        go_wp2_with fail
        refine (askM_any a0 x j _ w0).mono ?_
        rintro e w8 ⟨rfl, b1⟩
        replace b0 := b0.trans (b1.mono b0.size)
        clear b1
        rw [f8.out, e3.out]
        go_wp2_with fail
        refine (askJ_any a0 x m _ w0).mono ?_
        rintro e w9 ⟨rfl, b1⟩
        replace b0 := b0.trans (b1.mono b0.size)
        clear b1
        rw [f9.out, e4.out]
        go_wp2
        go_ret
        exact ⟨ret_bool (by simp), b0⟩
      · refine (at_any ht z x _ hz1 hz2 hx1 hx2).mono ?_
        rintro e w7 ⟨rfl, rfl⟩
        rw [u]
        go_wp2_with fail
        refine (at_any ht z y _ hz1 hz2 hy1 hy2).mono ?_
        rintro e w7 ⟨rfl, rfl⟩
        rw [u1]
        go_wp2_with fail
        refine (askM_any a0 x j _ w0).mono ?_
        rintro e w8 ⟨rfl, b1⟩
        replace b0 := b0.trans (b1.mono b0.size)
        clear b1
        rw [f8.out, e3.out]
        go_wp2_with fail
        refine (askJ_any a0 x m _ w0).mono ?_
        rintro e w9 ⟨rfl, b1⟩
        replace b0 := b0.trans (b1.mono b0.size)
        clear b1
        rw [f9.out, e4.out]
        go_wp2
        go_ret
        exact ⟨ret_bool (by simp), b0⟩
      · refine (at_any ht z x _ hz1 hz2 hx1 hx2).mono ?_
        rintro e w7 ⟨rfl, rfl⟩
        rw [u]
        go_wp2_with fail
        refine (at_any ht z y _ hz1 hz2 hy1 hy2).mono ?_
        rintro e w7 ⟨rfl, rfl⟩
        rw [u1]
        go_wp2_with fail
        refine (at_any ht z m _ hz1 hz2 hm1 hm2).mono ?_
        rintro e w7 ⟨rfl, rfl⟩
        rw [u2]
        go_wp2_with fail
        refine (askM_any a0 x j _ w0).mono ?_
        rintro e w8 ⟨rfl, b1⟩
        replace b0 := b0.trans (b1.mono b0.size)
        clear b1
        rw [f8.out, e3.out]
        go_wp2_with fail
        refine (askJ_any a0 x m _ w0).mono ?_
        rintro e w9 ⟨rfl, b1⟩
        replace b0 := b0.trans (b1.mono b0.size)
        clear b1
        rw [f9.out, e4.out]
        go_wp2
        go_ret
        exact ⟨ret_bool (by simp), b0⟩
    · refine (at_any ht x z _ hx1 hx2 hz1 hz2).mono ?_
      rintro e w7 ⟨rfl, rfl⟩
      rw [p]
      go_wp2_with fail
      refine (at_any ht y z _ hy1 hy2 hz1 hz2).mono ?_
      rintro e w7 ⟨rfl, rfl⟩
      rw [p1]
      go_wp2_with fail
      rcases hunder.out with u | ⟨u, u1⟩ | ⟨u, u1, u2⟩
      · refine (at_any ht z x _ hz1 hz2 hx1 hx2).mono ?_
        rintro e w7 ⟨rfl, rfl⟩
        rw [u]
        go_wp2_with fail
        refine (askM_any a0 x j _ w0).mono ?_
        rintro e w8 ⟨rfl, b1⟩
        replace b0 := b0.trans (b1.mono b0.size)
        clear b1
        rw [f8.out, e3.out]
        go_wp2_with fail
        refine (askJ_any a0 x m _ w0).mono ?_
        rintro e w9 ⟨rfl, b1⟩
        replace b0 := b0.trans (b1.mono b0.size)
        clear b1
        rw [f9.out, e4.out]
        go_wp2
        go_ret
        exact ⟨ret_bool (by simp), b0⟩
      · refine (at_any ht z x _ hz1 hz2 hx1 hx2).mono ?_
        rintro e w7 ⟨rfl, rfl⟩
        rw [u]
        go_wp2_with fail
        refine (at_any ht z y _ hz1 hz2 hy1 hy2).mono ?_
        rintro e w7 ⟨rfl, rfl⟩
        rw [u1]
        go_wp2_with fail
        refine (askM_any a0 x j _ w0).mono ?_
        rintro e w8 ⟨rfl, b1⟩
        replace b0 := b0.trans (b1.mono b0.size)
        clear b1
        rw [f8.out, e3.out]
        go_wp2_with fail
        refine (askJ_any a0 x m _ w0).mono ?_
        rintro e w9 ⟨rfl, b1⟩
        replace b0 := b0.trans (b1.mono b0.size)
        clear b1
        rw [f9.out, e4.out]
        go_wp2
        go_ret
        exact ⟨ret_bool (by simp), b0⟩
      · refine (at_any ht z x _ hz1 hz2 hx1 hx2).mono ?_
        rintro e w7 ⟨rfl, rfl⟩
        rw [u]
        go_wp2_with fail
        refine (at_any ht z y _ hz1 hz2 hy1 hy2).mono ?_
        rintro e w7 ⟨rfl, rfl⟩
        rw [u1]
        go_wp2_with fail
        refine (at_any ht z m _ hz1 hz2 hm1 hm2).mono ?_
        rintro e w7 ⟨rfl, rfl⟩
        rw [u2]
        go_wp2_with fail
        refine (askM_any a0 x j _ w0).mono ?_
        rintro e w8 ⟨rfl, b1⟩
        replace b0 := b0.trans (b1.mono b0.size)
        clear b1
        rw [f8.out, e3.out]
        go_wp2_with fail
        refine (askJ_any a0 x m _ w0).mono ?_
        rintro e w9 ⟨rfl, b1⟩
        replace b0 := b0.trans (b1.mono b0.size)
        clear b1
        rw [f9.out, e4.out]
        go_wp2
        go_ret
        exact ⟨ret_bool (by simp), b0⟩
    · refine (at_any ht x z _ hx1 hx2 hz1 hz2).mono ?_
      rintro e w7 ⟨rfl, rfl⟩
      rw [p]
      go_wp2_with fail
      refine (at_any ht y z _ hy1 hy2 hz1 hz2).mono ?_
      rintro e w7 ⟨rfl, rfl⟩
      rw [p1]
      go_wp2_with fail
      rcases hunder.out with u | ⟨u, u1⟩ | ⟨u, u1, u2⟩
      · refine (at_any ht z x _ hz1 hz2 hx1 hx2).mono ?_
        rintro e w7 ⟨rfl, rfl⟩
        rw [u]
        go_wp2_with fail
        refine (at_any ht j z _ hj1 hj2 hz1 hz2).mono ?_
        rintro e w7 ⟨rfl, rfl⟩
        rw [p2]
        go_wp2_with fail
        refine (askM_any a0 x j _ w0).mono ?_
        rintro e w8 ⟨rfl, b1⟩
        replace b0 := b0.trans (b1.mono b0.size)
        clear b1
        rw [f8.out, e3.out]
        go_wp2_with fail
        refine (askJ_any a0 x m _ w0).mono ?_
        rintro e w9 ⟨rfl, b1⟩
        replace b0 := b0.trans (b1.mono b0.size)
        clear b1
        rw [f9.out, e4.out]
        go_wp2
        go_ret
        exact ⟨ret_bool (by simp), b0⟩
      · refine (at_any ht z x _ hz1 hz2 hx1 hx2).mono ?_
        rintro e w7 ⟨rfl, rfl⟩
        rw [u]
        go_wp2_with fail
        refine (at_any ht z y _ hz1 hz2 hy1 hy2).mono ?_
        rintro e w7 ⟨rfl, rfl⟩
        rw [u1]
        go_wp2_with fail
        refine (at_any ht j z _ hj1 hj2 hz1 hz2).mono ?_
        rintro e w7 ⟨rfl, rfl⟩
        rw [p2]
        go_wp2_with fail
        refine (askM_any a0 x j _ w0).mono ?_
        rintro e w8 ⟨rfl, b1⟩
        replace b0 := b0.trans (b1.mono b0.size)
        clear b1
        rw [f8.out, e3.out]
        go_wp2_with fail
        refine (askJ_any a0 x m _ w0).mono ?_
        rintro e w9 ⟨rfl, b1⟩
        replace b0 := b0.trans (b1.mono b0.size)
        clear b1
        rw [f9.out, e4.out]
        go_wp2
        go_ret
        exact ⟨ret_bool (by simp), b0⟩
      · refine (at_any ht z x _ hz1 hz2 hx1 hx2).mono ?_
        rintro e w7 ⟨rfl, rfl⟩
        rw [u]
        go_wp2_with fail
        refine (at_any ht z y _ hz1 hz2 hy1 hy2).mono ?_
        rintro e w7 ⟨rfl, rfl⟩
        rw [u1]
        go_wp2_with fail
        refine (at_any ht j z _ hj1 hj2 hz1 hz2).mono ?_
        rintro e w7 ⟨rfl, rfl⟩
        rw [p2]
        go_wp2_with fail
        refine (at_any ht z m _ hz1 hz2 hm1 hm2).mono ?_
        rintro e w7 ⟨rfl, rfl⟩
        rw [u2]
        go_wp2_with fail
        refine (askM_any a0 x j _ w0).mono ?_
        rintro e w8 ⟨rfl, b1⟩
        replace b0 := b0.trans (b1.mono b0.size)
        clear b1
        rw [f8.out, e3.out]
        go_wp2_with fail
        refine (askJ_any a0 x m _ w0).mono ?_
        rintro e w9 ⟨rfl, b1⟩
        replace b0 := b0.trans (b1.mono b0.size)
        clear b1
        rw [f9.out, e4.out]
        go_wp2
        go_ret
        exact ⟨ret_bool (by simp), b0⟩
  · have he : (levE a0 != 0) = true := by simpa using h0
    rw [lev_err rfl h0]
    clear h0
    go_wp2
    go_ret
    exact ⟨ret_bool (by simp), b0⟩

set_option linter.unusedVariables false in
set_option maxRecDepth 100000 in
theorem lifted (os : Os) (started : os.Started) (H : Type) (enc : TypeId × Value → H) :
    ReturnsInHanded {} Try.checked os 5 .any (Rows.latticeSpec.pre6 enc Try.prog Try.f5 Rows.latticeRow.domain false) (Rows.latticeSpec.post enc Try.prog Try.f5 false true false false) := by
  refine returnsInHanded_of_change (C := Try.checked) own started (by kernel_rfl) Try.func5
    (ChangeSpec.witness6 (enc := enc) (C := Try.checked) false ⟨#[], #[.string ByteArray.empty, .int .i64 0, .int .i64 0, .int .i64 0], []⟩ 8 (by kernel_rfl) (by kernel_rfl) (by kernel_rfl) (by kernel_rfl)) ?_
  intro W base args ds gs before hval0 hW hcnd _
  have hval : ∀ (j : Nat) t v, Try.f5.params[j]? = some t → args[j]? = some v → Value.okWide Try.prog W .any base t v := hval0
  have hW' := hW
  obtain ⟨p, q, hA0, hV, rfl, hfz, hnd⟩ := hW
  have hA : DataW.TrodAll enc Try.prog W 0 (fun _ => true) true Try.f5.params.toList args.toList ds p := hA0
  rw [Try.params5] at hA hval
  obtain ⟨v0, vs0, d0, ds0, p0, q0, hargs, rfl, rfl, h0, r0⟩ := trodAll_cons hA
  obtain ⟨v1, vs1, d1, ds1, p1, q1, rfl, rfl, rfl, h1, r1⟩ := trodAll_cons r0
  obtain ⟨v2, vs2, d2, ds2, p2, q2, rfl, rfl, rfl, h2, r2⟩ := trodAll_cons r1
  obtain ⟨v3, vs3, d3, ds3, p3, q3, rfl, rfl, rfl, h3, r3⟩ := trodAll_cons r2
  obtain ⟨rfl, rfl, rfl⟩ := trodAll_nil r3
  obtain rfl : args = #[v0, v1, v2, v3] := by cases args; simp_all
  obtain ⟨rfl, rfl⟩ := trodVars_none hV
  obtain ⟨a0, rfl, rfl, rfl, w0⟩ := open_string Try.underlying9 (hval 0 9 v0 rfl rfl) h0
  obtain ⟨a1, rfl, rfl, rfl, w1⟩ := open_int Try.underlying3 (hval 1 3 v1 rfl rfl) h1
  obtain ⟨a2, rfl, rfl, rfl, w2⟩ := open_int Try.underlying3 (hval 2 3 v2 rfl rfl) h2
  obtain ⟨a3, rfl, rfl, rfl, w3⟩ := open_int Try.underlying3 (hval 3 3 v3 rfl rfl) h3
  clear hA0 hval0
  simp only [List.append_nil] at hW'
  refine (walk a0 a1 a2 a3 w0 w1 w2 w3 W).mono fun e W' ⟨he, bel⟩ => ?_
  subst he
  exact ⟨_, rfl, _, _, _, [], [], [], hW', trodAll_mk1 (shut_bool Try.underlying4 _), (trodAll_cons_mk (shut_string Try.underlying9 w0) (trodAll_cons_mk (shut_int Try.underlying3 w1) (trodAll_cons_mk (shut_int Try.underlying3 w2) (trodAll_cons_mk (shut_int Try.underlying3 w3) trodAll_mk0)))), rfl, bel.frame _, fun h => by cases h⟩

theorem over : Rows.latticeRow.holds Try.pinned (OpenSpec.ofChange Rows.latticeSpec) :=
  OpenClaim.holds_of_wide 5 Try.f5 rfl rfl rfl rfl rfl rfl rfl ⟨rfl, rfl, rfl, rfl, rfl⟩ rfl rfl rfl rfl rfl (by kernel_rfl) Try.func5 (by kernel_rfl)
    (of_decide_eq_true (by kernel_rfl)) (by unfold Func.isWrapper; first | (rw [if_pos (by decide +kernel)]; kernel_rfl) | (rw [if_neg (by decide +kernel)]; exact ⟨rfl, rfl⟩))
    (fun os started H enc _ => lifted os started H enc)
end lattice

/-- the statement -/
theorem lattice_holds : Rows.LatticeSaid := lattice.over
#print axioms lattice_holds
end Go.Proofs.Ytcnbifdlkalimaa
