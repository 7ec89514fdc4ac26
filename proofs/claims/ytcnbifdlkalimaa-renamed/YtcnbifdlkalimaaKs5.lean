/-
  Runs with more fuel, as results; for every file that is let through.
-/
import Derived.Test.YtcnbifdlkalimaaKsB
namespace Go.Proofs.Ytcnbifdlkalimaa
open Go.RowKit
set_option linter.unusedVariables false
set_option maxRecDepth 100000

theorem prun_bad (s : ByteArray) (T : Int → ByteArray) (f : Int) (p x : Int) (w : World) (hs : s.size ≤ maxLen) (hC : CheckIs s p x) (hx : x ≠ 0) (hT : ∀ l : Nat, l < 6 → (T l).size ≤ maxLen) :
    Calls Try.prog 29 #[.string s, tapV T, .int .i64 f] w fun e w' => e = .returned (.tuple #[resZ, .int .i64 x]) ∧ Below w.heap.size w w' := by
  refine (prun_any s T f w hs hT).mono ?_
  rintro e w' ⟨r, y, rfl, hA, hb⟩
  obtain ⟨rfl, rfl⟩ := (run_one hs hA.out).1 p x hC hx
  exact ⟨rfl, hb⟩

theorem num_ge {c : ByteArray} {T : Int → ByteArray} : ∀ (a b : Nat) (m : Hnd), (runM c T a m).pl ≠ half c → a ≤ b → a ≤ numM c T b m
  | 0, _, _, _, _ => Nat.zero_le _
  | a + 1, 0, _, _, hb => absurd hb (by omega)
  | a + 1, b + 1, m, h, hb => by
    by_cases e : m.pl = half c
    · rw [runM_end e] at h; exact absurd e h
    · rw [runM_go e] at h
      rw [stepsM_go e]
      have := num_ge a b _ h (by omega)
      omega

/-- with more fuel the logs go on -/
theorem log_more (c : ByteArray) (T : Int → ByteArray) {a b : Nat} (h : a ≤ b) (l : Int) : ∃ e : ByteArray, logOf c T b l = logOf c T a l ++ e := by
  obtain ⟨e, he⟩ := runM_logs c T l (b - a) (runM c T a start)
  rw [← runM_add c T a (b - a) start, show a + (b - a) = b from by omega] at he
  exact ⟨bs e, by unfold logOf; rw [he, bs_append]⟩

theorem end_cases (c : ByteArray) (T : Int → ByteArray) (a : Nat) : (endOf c T a = 1 ∧ (runM c T a start).pl = half c) ∨ (endOf c T a = 2 ∧ (runM c T a start).pl ≠ half c) := by
  unfold endOf
  by_cases e : (runM c T a start).pl = half c
  · rw [if_pos e]; exact .inl ⟨rfl, e⟩
  · rw [if_neg e]; exact .inr ⟨rfl, e⟩

/-- at the end nothing changes -/
theorem res_more {c v : ByteArray} {T : Int → ByteArray} {a b : Nat} (h : a ≤ b) (he : (runM c T a start).pl = half c) : resV c v T b = resV c v T a := by
  obtain ⟨e1, e2⟩ := numM_last (m := start) he b h
  unfold resV endOf cntOf logOf varsOf
  rw [e1, e2]

/-- how much fuel is just enough -/
theorem res_just {c v : ByteArray} {T : Int → ByteArray} {a : Nat} (he : (runM c T a start).pl = half c) : resV c v T (numM c T a start) = resV c v T a := by
  have h1 := runM_steps c T a start
  exact (res_more (stepsM_le c T a start) (by rw [h1]; exact he)).symm

theorem res_less {c : ByteArray} {T : Int → ByteArray} {a k : Nat} (h : k < numM c T a start) : endOf c T k = 2 ∧ cntOf c T k = k := by
  have h1 := runM_short c T a start k h
  refine ⟨?_, ?_⟩
  · unfold endOf; rw [if_neg h1]
  · unfold cntOf; rw [stepsM_all c T k start h1]
end Go.Proofs.Ytcnbifdlkalimaa
