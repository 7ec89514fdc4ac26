/-
  Six texts held against themselves; no condition.
-/
import Derived.Test.YtcnbifdlkalimaaPlainR
import Derived.Test.YtcnbifdlkalimaaPrg4
import Derived.Laws.StructEq
namespace Go.Proofs.Ytcnbifdlkalimaa
open Go.RowKit
set_option maxRecDepth 100000

theorem eq_text (d : Nat) (y : ByteArray) (w : World) : (Op.equalIn (d + 1) 9 (.string y) (.string y)).run Try.prog w = .ok true w := by
  simp only [Op.equalIn, run_underlying Try.underlying9, Sem.run_bind, Sem.run_pure, Result.andThen_ok]
  rw [beq_toListBytes]
  simp

theorem part_text (xs : Array Value) (i : Nat) (v : Value) (w : World) (h : xs[i]? = some v) : (part 9 xs i).run Try.prog w = .ok v w := by
  have hA : (isAgg 9).run Try.prog w = .ok false w := by
    unfold isAgg
    rw [Sem.run_bind, run_underlying Try.underlying9 w]
    simp
  unfold part
  simp [Sem.run_bind, hA, h]

theorem eq_tapes (d : Nat) (y0 y1 y2 y3 y4 y5 : ByteArray) (w : World) : (Op.equalIn (d + 2) 49 (.agg #[.string y0, .string y1, .string y2, .string y3, .string y4, .string y5]) (.agg #[.string y0, .string y1, .string y2, .string y3, .string y4, .string y5])).run Try.prog w = .ok true w := by
  have hz : (sizeOf 9).run Try.prog w = .ok 1 w := by
    unfold sizeOf typeInfo
    cases hq : Try.prog.info? 9 with
    | none =>
      have : (Try.prog.info? 9).isSome = true := by kernel_rfl
      rw [hq] at this
      exact absurd this (by simp)
    | some i =>
      have h1 : (Try.prog.info? 9).map (·.size) = some 1 := by kernel_rfl
      rw [hq] at h1
      have h2 : i.size = 1 := by simpa using h1
      simp [Sem.run_bind, hq, h2]
  unfold Op.equalIn
  simp only [Sem.run_bind, run_underlying Try.underlying49, Result.andThen_ok, hz]
  simp only [Std.Legacy.Range.forIn_eq_forIn_range', Std.Legacy.Range.size, Nat.sub_zero, Nat.add_sub_cancel, Nat.div_one, List.range'_succ, List.range'_zero]
  simp [Sem.run_bind, eq_text, part_text _ 0 (.string y0), part_text _ 1 (.string y1), part_text _ 2 (.string y2), part_text _ 3 (.string y3), part_text _ 4 (.string y4), part_text _ 5 (.string y5)]

theorem eq_tap (y0 y1 y2 y3 y4 y5 : ByteArray) (w : World) : (Op.equalIn 9999 49 (.agg #[.string y0, .string y1, .string y2, .string y3, .string y4, .string y5]) (.agg #[.string y0, .string y1, .string y2, .string y3, .string y4, .string y5])).run Try.prog w = .ok true w := eq_tapes 9997 y0 y1 y2 y3 y4 y5 w
end Go.Proofs.Ytcnbifdlkalimaa
