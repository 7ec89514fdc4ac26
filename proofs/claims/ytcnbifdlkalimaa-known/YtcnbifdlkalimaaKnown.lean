/-
  The statement Known: Check answers the files that were worked out by hand as they were worked out; no condition.
-/
import Derived.Test.YtcnbifdlkalimaaKn3
import Derived.ProofKit
import Derived.OpenShut
import Derived.ShutString
import Derived.ChangeOld
import Derived.Below
namespace Go.Proofs.Ytcnbifdlkalimaa
namespace known
open Go.ChangeShapes Go.WideShapes Go.ChangeAt Go.RowKit

theorem own : ownKnob Try.prog.godebug = none := by kernel_rfl

set_option maxHeartbeats 400000 in
theorem pick_any (c n : Int) (w : World) (hc : -9223372036854775808 ≤ c ∧ c ≤ 9223372036854775807) (h1 : 1 ≤ n) (h6 : n ≤ 100) :
    Calls Try.prog 22 #[.int .i64 c, .int .i64 n] w fun e w' => ∃ r : Nat, e = .returned (.int .i64 r) ∧ (r : Int) < n ∧ w' = w := by
  obtain ⟨c1, c2⟩ := hc
  have hn0 : (n == 0) = false := by simp; omega
  by_cases h0 : c < 0
  · have e0 : -((c + 1).tmod n) = -(c + 1) % n := by rw [← Int.neg_tmod, Int.tmod_eq_emod_of_nonneg (by omega)]
    have hp := Int.emod_nonneg (-(c + 1)) (b := n) (by omega)
    have hq := Int.emod_lt_of_pos (-(c + 1)) (b := n) (by omega)
    rw [← e0] at hp hq
    clear e0
    go_enter Try.func22, Try.ntmps22
    go_wp2
    go_ret
    exact ⟨(-((c + 1).tmod n)).toNat, ret_int (Int.toNat_of_nonneg hp).symm, by rw [Int.toNat_of_nonneg hp]; exact hq, rfl⟩
  · have hp := Int.emod_nonneg c (b := n) (by omega)
    have hq := Int.emod_lt_of_pos c (b := n) (by omega)
    go_enter Try.func22, Try.ntmps22
    go_wp2
    go_ret
    exact ⟨(c % n).toNat, ret_int (Int.toNat_of_nonneg hp).symm, by rw [Int.toNat_of_nonneg hp]; exact hq, rfl⟩

set_option linter.unusedVariables false in
set_option maxRecDepth 100000 in
set_option maxHeartbeats 1600000 in
theorem walk (a0 : Int) (w0 : (Lit.int .i64 a0).wf = true) (w : World) :
    Calls Try.prog 6 #[.int .i64 a0] w fun e w' => e = .returned (.bool true) ∧ Below w.heap.size w w' := by
  have hbd : -9223372036854775808 ≤ a0 ∧ a0 ≤ 9223372036854775807 := by
    have := bounds_i64 w0
    omega
  go_enter Try.func6, Try.ntmps6
  go_wp2_with fail
  refine (lets_any _).mono ?_
  rintro e w1 ⟨rfl, b0⟩
  go_wp2_with fail
  refine (cases_any _).mono ?_
  rintro e w2 ⟨g, rfl, hcells, b1⟩
  replace b0 := b0.trans (b1.mono b0.size)
  clear b1
  go_wp2_with fail
  refine (pick_any a0 28 _ hbd (by omega) (by omega)).mono ?_
  rintro e w3 ⟨r, rfl, hr, rfl⟩
  obtain ⟨x, hx⟩ : ∃ x, kFiles[r]? = some x := ⟨_, List.getElem?_eq_getElem (by show r < 28; omega)⟩
  obtain ⟨c0, c1, c2⟩ := hcells r x hx
  have hlen := (known_short r x hx).1
  have hone := known_one r x hx
  obtain ⟨f, at_, er⟩ := x
  dsimp only at c0 c1 c2 hlen hone
  replace hone : Kp _ := ⟨hone⟩
  clear hcells hx
  go_wp2_with fail
  refine (check_any f _ hlen).mono ?_
  rintro e w4 ⟨p, y, rfl, hC, b1⟩
  obtain ⟨rfl, rfl⟩ := hone.out p y hC.out
  have o0 := (Own.new3 w3 (.string f) (.int .i64 p) (.int .i64 y) 46).step b1
  have b2 := b0.trans (((Below.refl w3.heap.size w3).alloc (Nat.le_refl _) (.cells #[.string f, .int .i64 p, .int .i64 y] 46)).mono b0.size)
  have b3 := b2.trans (b1.mono b2.size)
  have q1 := o0.c 1 _ rfl
  have q2 := o0.c 2 _ rfl
  clear b0 b1 b2 hone hC o0 c0 c1 c2
  go_wp2
  go_ret
  exact ⟨ret_bool (by simp), b3⟩

set_option linter.unusedVariables false in
set_option maxRecDepth 100000 in
theorem lifted (os : Os) (started : os.Started) (H : Type) (enc : TypeId × Value → H) :
    ReturnsInHanded {} Try.checked os 6 .any (Rows.knownSpec.pre6 enc Try.prog Try.f6 Rows.knownRow.domain false) (Rows.knownSpec.post enc Try.prog Try.f6 false true false false) := by
  refine returnsInHanded_of_change (C := Try.checked) own started (by kernel_rfl) Try.func6
    (ChangeSpec.witness6 (enc := enc) (C := Try.checked) false ⟨#[], #[.int .i64 0], []⟩ 8 (by kernel_rfl) (by kernel_rfl) (by kernel_rfl) (by kernel_rfl)) ?_
  intro W base args ds gs before hval0 hW hcnd _
  have hval : ∀ (j : Nat) t v, Try.f6.params[j]? = some t → args[j]? = some v → Value.okWide Try.prog W .any base t v := hval0
  have hW' := hW
  obtain ⟨p, q, hA0, hV, rfl, hfz, hnd⟩ := hW
  have hA : DataW.TrodAll enc Try.prog W 0 (fun _ => true) true Try.f6.params.toList args.toList ds p := hA0
  rw [Try.params6] at hA hval
  obtain ⟨v0, vs0, d0, ds0, p0, q0, hargs, rfl, rfl, h0, r0⟩ := trodAll_cons hA
  obtain ⟨rfl, rfl, rfl⟩ := trodAll_nil r0
  obtain rfl : args = #[v0] := by cases args; simp_all
  obtain ⟨rfl, rfl⟩ := trodVars_none hV
  obtain ⟨a0, rfl, rfl, rfl, w0⟩ := open_int Try.underlying3 (hval 0 3 v0 rfl rfl) h0
  clear hA0 hval0
  simp only [List.append_nil] at hW'
  refine (walk a0 w0 W).mono fun e W' ⟨he, bel⟩ => ?_
  subst he
  exact ⟨_, rfl, _, _, _, [], [], [], hW', trodAll_mk1 (shut_bool Try.underlying4 _), (trodAll_cons_mk (shut_int Try.underlying3 w0) trodAll_mk0), rfl, bel.frame _, fun h => by cases h⟩

theorem over : Rows.knownRow.holds Try.pinned (OpenSpec.ofChange Rows.knownSpec) :=
  OpenClaim.holds_of_wide 6 Try.f6 rfl rfl rfl rfl rfl rfl rfl ⟨rfl, rfl, rfl, rfl, rfl⟩ rfl rfl rfl rfl rfl (by kernel_rfl) Try.func6 (by kernel_rfl)
    (of_decide_eq_true (by kernel_rfl)) (by unfold Func.isWrapper; first | (rw [if_pos (by decide +kernel)]; kernel_rfl) | (rw [if_neg (by decide +kernel)]; exact ⟨rfl, rfl⟩))
    (fun os started H enc _ => lifted os started H enc)
end known

/-- the statement -/
theorem known_holds : Rows.KnownSaid := known.over
#print axioms known_holds
end Go.Proofs.Ytcnbifdlkalimaa
