/-
  The statement Scans: for every text, Scan of the program answers just what the document's own answer gives; no condition.
-/
import Derived.Test.YtcnbifdlkalimaaPrg7
import Derived.Test.YtcnbifdlkalimaaRf5
import Derived.ProofKit
import Derived.OpenShut
import Derived.ShutString
import Derived.ChangeOld
import Derived.Below
namespace Go.Proofs.Ytcnbifdlkalimaa
namespace scans
open Go.ChangeShapes Go.WideShapes Go.ChangeAt Go.RowKit
open Go.ChangeMaps (open_string shut_string)

theorem own : ownKnob Try.prog.godebug = none := by kernel_rfl

set_option maxHeartbeats 400000 in
theorem num_any (e0 : Int) (w : World) :
    Calls Try.prog 14 #[.int .i64 e0] w fun e w' => e = .returned (.int .i64 e0) ∧ w' = w := by
  go_enter Try.func14, Try.ntmps14
  go_wp2
  go_ret
  exact ⟨rfl, rfl⟩

set_option linter.unusedVariables false in
set_option maxHeartbeats 800000 in
theorem walk (a0 : ByteArray) (w0 : a0.size ≤ maxLen) (w : World) :
    Calls Try.prog 4 #[.string a0] w fun e w' => e = .returned (.bool true) ∧ Below w.heap.size w w' := by
  by_cases h : scanE a0 = 0
  · replace h : Kp _ := ⟨h⟩
    go_enter Try.func4, Try.ntmps4
    go_wp2_with fail
    refine (scan_yes a0 _ w0 h.out).mono ?_
    rintro e w1 ⟨rfl, b0⟩
    have i0 := Own.new3 w1 (.int .i64 (bv a0 1)) (.int .i64 (fVars a0).size) (.int .i64 (half (fCode a0))) 32
    have bz := b0.size
    replace b0 := b0.alloc bz (.cells #[.int .i64 (bv a0 1), .int .i64 (fVars a0).size, .int .i64 (half (fCode a0))] 32)
    go_wp2_with fail
    refine (rread_yes a0 _ w0 h.out).mono ?_
    rintro e w2 ⟨rfl, b1⟩
    replace b0 := b0.trans (b1.mono (by simp; omega))
    replace i0 := i0.step b1
    clear b1
    have z0 := b0.size
    have il := i0.lt
    have q0 := i0.c 0 _ rfl
    have q1 := i0.c 1 _ rfl
    have q2 := i0.c 2 _ rfl
    go_wp2_with fail
    refine (num_any _ _).mono ?_
    rintro e w3 ⟨rfl, rfl⟩
    go_wp2
    go_ret
    exact ⟨ret_bool (by simp), b0.alloc (by omega) _⟩
  · have hk : (scanE a0 != 0) = true := bne_iff_ne.2 h
    replace h : Kp _ := ⟨h⟩
    generalize hE : scanE a0 = er at hk
    replace hE : Kp _ := ⟨hE⟩
    go_enter Try.func4, Try.ntmps4
    go_wp2_with fail
    refine (scan_no a0 _ w0 h.out).mono ?_
    rintro e w1 ⟨rfl, b0⟩
    rw [hE.out]
    have i0 := Own.new3 w1 (.int .i64 0) (.int .i64 0) (.int .i64 0) 32
    have bz := b0.size
    replace b0 := b0.alloc bz (.cells #[.int .i64 0, .int .i64 0, .int .i64 0] 32)
    go_wp2_with fail
    refine (rread_no a0 _ w0 h.out).mono ?_
    rintro e w2 ⟨rfl, b1⟩
    rw [hE.out]
    replace b0 := b0.trans (b1.mono (by simp; omega))
    replace i0 := i0.step b1
    clear b1
    have z0 := b0.size
    have il := i0.lt
    have q0 := i0.c 0 _ rfl
    have q1 := i0.c 1 _ rfl
    have q2 := i0.c 2 _ rfl
    go_wp2_with fail
    refine (num_any _ _).mono ?_
    rintro e w3 ⟨rfl, rfl⟩
    go_wp2
    go_ret
    exact ⟨ret_bool (by simp), b0.alloc (by omega) _⟩

set_option linter.unusedVariables false in
set_option maxRecDepth 100000 in
theorem lifted (os : Os) (started : os.Started) (H : Type) (enc : TypeId × Value → H) :
    ReturnsInHanded {} Try.checked os 4 .any (Rows.scansSpec.pre6 enc Try.prog Try.f4 Rows.scansRow.domain false) (Rows.scansSpec.post enc Try.prog Try.f4 false true false false) := by
  refine returnsInHanded_of_change (C := Try.checked) own started (by kernel_rfl) Try.func4
    (ChangeSpec.witness6 (enc := enc) (C := Try.checked) false ⟨#[], #[.string ByteArray.empty], []⟩ 8 (by kernel_rfl) (by kernel_rfl) (by kernel_rfl) (by kernel_rfl)) ?_
  intro W base args ds gs before hval0 hW hcnd _
  have hval : ∀ (j : Nat) t v, Try.f4.params[j]? = some t → args[j]? = some v → Value.okWide Try.prog W .any base t v := hval0
  have hW' := hW
  obtain ⟨p, q, hA0, hV, rfl, hfz, hnd⟩ := hW
  have hA : DataW.TrodAll enc Try.prog W 0 (fun _ => true) true Try.f4.params.toList args.toList ds p := hA0
  rw [Try.params4] at hA hval
  obtain ⟨v0, vs0, d0, ds0, p0, q0, hargs, rfl, rfl, h0, r0⟩ := trodAll_cons hA
  obtain ⟨rfl, rfl, rfl⟩ := trodAll_nil r0
  obtain rfl : args = #[v0] := by cases args; simp_all
  obtain ⟨rfl, rfl⟩ := trodVars_none hV
  obtain ⟨a0, rfl, rfl, rfl, w0⟩ := open_string Try.underlying9 (hval 0 9 v0 rfl rfl) h0
  clear hA0 hval0
  simp only [List.append_nil] at hW'
  refine (walk a0 w0 W).mono fun e W' ⟨he, bel⟩ => ?_
  subst he
  exact ⟨_, rfl, _, _, _, [], [], [], hW', trodAll_mk1 (shut_bool Try.underlying4 _), (trodAll_cons_mk (shut_string Try.underlying9 w0) trodAll_mk0), rfl, bel.frame _, fun h => by cases h⟩

theorem over : Rows.scansRow.holds Try.pinned (OpenSpec.ofChange Rows.scansSpec) :=
  OpenClaim.holds_of_wide 4 Try.f4 rfl rfl rfl rfl rfl rfl rfl ⟨rfl, rfl, rfl, rfl, rfl⟩ rfl rfl rfl rfl rfl (by kernel_rfl) Try.func4 (by kernel_rfl)
    (of_decide_eq_true (by kernel_rfl)) (by unfold Func.isWrapper; first | (rw [if_pos (by decide +kernel)]; kernel_rfl) | (rw [if_neg (by decide +kernel)]; exact ⟨rfl, rfl⟩))
    (fun os started H enc _ => lifted os started H enc)
end scans

/-- the statement -/
theorem scans_holds : Rows.ScansSaid := scans.over
#print axioms scans_holds
end Go.Proofs.Ytcnbifdlkalimaa
