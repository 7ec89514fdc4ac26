/-
  The walks of the package paths: the ways, their small functions; for every file.
-/
import Derived.Test.YtcnbifdlkalimaaWay3
import Derived.Test.YtcnbifdlkalimaaPlain9
import Derived.RegionTactic
namespace Go.Proofs.Ytcnbifdlkalimaa
open Go.RowKit
set_option linter.unusedVariables false
set_option maxRecDepth 100000

/-- block b holds ways: the file, how many, the turns, where each goes on -/
structure WaysAt (w : World) (b : Nat) (n : Int) (t v c : ByteArray) (k : Int) (T A : Int → Int) : Prop where
  lt : b < w.heap.size
  c0 : w.cell? ⟨b, 0, none⟩ = some (.int .i64 n)
  c1 : w.cell? ⟨b, 1, none⟩ = some (.string t)
  c2 : w.cell? ⟨b, 2, none⟩ = some (.string v)
  c3 : w.cell? ⟨b, 3, none⟩ = some (.string c)
  k : w.cell? ⟨b, 4, none⟩ = some (.int .i64 k)
  t : ∀ j : Nat, j < 201 → w.cell? ⟨b, 5 + j, none⟩ = some (.int .i64 (T j))
  a : ∀ j : Nat, j < 201 → w.cell? ⟨b, 206 + j, none⟩ = some (.int .i64 (A j))
  f : ∀ j : Nat, j < 407 → w.frozen? ⟨b, j, none⟩ = false

theorem WaysAt.step {w w1 : World} {b : Nat} {n : Int} {t v c : ByteArray} {k : Int} {T A : Int → Int} (h : WaysAt w b n t v c k T A) (hb : Below w.heap.size w w1) : WaysAt w1 b n t v c k T A := by
  have e : ∀ j, w1.cell? ⟨b, j, none⟩ = w.cell? ⟨b, j, none⟩ := fun j => hb.cell (p := ⟨b, j, none⟩) h.lt
  exact ⟨Nat.lt_of_lt_of_le h.lt hb.size, by rw [e]; exact h.c0, by rw [e]; exact h.c1, by rw [e]; exact h.c2, by rw [e]; exact h.c3, by rw [e]; exact h.k, fun j hj => by rw [e]; exact h.t j hj, fun j hj => by rw [e]; exact h.a j hj, fun j hj => by rw [hb.frozen (p := ⟨b, j, none⟩) h.lt]; exact h.f j hj⟩

theorem cell_far (w : World) (b i j : Nat) (x : Value) (h : i ≠ j) : (w.setCell ⟨b, i, none⟩ x).cell? ⟨b, j, none⟩ = w.cell? ⟨b, j, none⟩ :=
  World.cell?_setCell_other w ⟨b, i, none⟩ ⟨b, j, none⟩ x (by intro k; exact h (congrArg Addr.off k))

theorem WaysAt.setK {w : World} {b : Nat} {n : Int} {t v c : ByteArray} {k : Int} {T A : Int → Int} (h : WaysAt w b n t v c k T A) (x : Int) : WaysAt (w.setCell ⟨b, 4, none⟩ (.int .i64 x)) b n t v c x T A := by
  refine ⟨by simpa using h.lt, ?_, ?_, ?_, ?_, World.cell?_setCell_same _ _ _ h.k, fun j hj => ?_, fun j hj => ?_, fun j hj => by rw [World.frozen?_setCell]; exact h.f j hj⟩
  · rw [cell_far _ _ _ _ _ (by omega)]; exact h.c0
  · rw [cell_far _ _ _ _ _ (by omega)]; exact h.c1
  · rw [cell_far _ _ _ _ _ (by omega)]; exact h.c2
  · rw [cell_far _ _ _ _ _ (by omega)]; exact h.c3
  · rw [cell_far _ _ _ _ _ (by omega)]; exact h.t j hj
  · rw [cell_far _ _ _ _ _ (by omega)]; exact h.a j hj

theorem WaysAt.setT {w : World} {b : Nat} {n : Int} {t v c : ByteArray} {k : Int} {T A : Int → Int} (h : WaysAt w b n t v c k T A) (p : Nat) (hp : p < 201) (x : Int) : WaysAt (w.setCell ⟨b, 5 + p, none⟩ (.int .i64 x)) b n t v c k (upd T p x) A := by
  refine ⟨by simpa using h.lt, ?_, ?_, ?_, ?_, ?_, fun j hj => ?_, fun j hj => ?_, fun j hj => by rw [World.frozen?_setCell]; exact h.f j hj⟩
  · rw [cell_far _ _ _ _ _ (by omega)]; exact h.c0
  · rw [cell_far _ _ _ _ _ (by omega)]; exact h.c1
  · rw [cell_far _ _ _ _ _ (by omega)]; exact h.c2
  · rw [cell_far _ _ _ _ _ (by omega)]; exact h.c3
  · rw [cell_far _ _ _ _ _ (by omega)]; exact h.k
  · by_cases e : j = p
    · subst e; rw [upd_at]; exact World.cell?_setCell_same _ _ _ (h.t j hj)
    · rw [cell_far _ _ _ _ _ (by omega), upd_ne (by omega)]; exact h.t j hj
  · rw [cell_far _ _ _ _ _ (by omega)]; exact h.a j hj

theorem WaysAt.setA {w : World} {b : Nat} {n : Int} {t v c : ByteArray} {k : Int} {T A : Int → Int} (h : WaysAt w b n t v c k T A) (p : Nat) (hp : p < 201) (x : Int) : WaysAt (w.setCell ⟨b, 206 + p, none⟩ (.int .i64 x)) b n t v c k T (upd A p x) := by
  refine ⟨by simpa using h.lt, ?_, ?_, ?_, ?_, ?_, fun j hj => ?_, fun j hj => ?_, fun j hj => by rw [World.frozen?_setCell]; exact h.f j hj⟩
  · rw [cell_far _ _ _ _ _ (by omega)]; exact h.c0
  · rw [cell_far _ _ _ _ _ (by omega)]; exact h.c1
  · rw [cell_far _ _ _ _ _ (by omega)]; exact h.c2
  · rw [cell_far _ _ _ _ _ (by omega)]; exact h.c3
  · rw [cell_far _ _ _ _ _ (by omega)]; exact h.k
  · rw [cell_far _ _ _ _ _ (by omega)]; exact h.t j hj
  · by_cases e : j = p
    · subst e; rw [upd_at]; exact World.cell?_setCell_same _ _ _ (h.a j hj)
    · rw [cell_far _ _ _ _ _ (by omega), upd_ne (by omega)]; exact h.a j hj

set_option maxHeartbeats 400000 in
theorem turn_any (b : Nat) (n : Int) (t v c : ByteArray) (k : Int) (T A : Int → Int) (p : Nat) (w : World) (H : WaysAt w b n t v c k T A) (hp : p < 201) :
    Calls Try.prog 146 #[.pointer (some ⟨b, 0, none⟩), .int .i64 p] w fun e w' => e = .returned (.int .i64 (T p)) ∧ w' = w := by
  have hc := H.t p hp
  have hp2 : (p : Int) < 201 := by omega
  clear H
  go_enter Try.func146, Try.ntmps146
  go_wp2
  go_ret
  exact ⟨rfl, rfl⟩

set_option maxHeartbeats 400000 in
theorem step_any (b : Nat) (n : Int) (t v c : ByteArray) (k : Int) (T A : Int → Int) (p : Nat) (w : World) (H : WaysAt w b n t v c k T A) (hp : p < 201) :
    Calls Try.prog 144 #[.pointer (some ⟨b, 0, none⟩), .int .i64 p] w fun e w' => e = .returned (.int .i64 (A p)) ∧ w' = w := by
  have hc := H.a p hp
  have hp2 : (p : Int) < 201 := by omega
  clear H
  go_enter Try.func144, Try.ntmps144
  go_wp2
  go_ret
  exact ⟨rfl, rfl⟩

set_option maxHeartbeats 400000 in
theorem move_any (b : Nat) (n x : Int) (t v c : ByteArray) (k : Int) (T A : Int → Int) (p : Nat) (w : World) (H : WaysAt w b n t v c k T A) (hp : p < 201) :
    Calls Try.prog 145 #[.pointer (some ⟨b, 0, none⟩), .int .i64 p, .int .i64 x] w fun e w' => e = .returned (.tuple #[]) ∧ w' = w.setCell ⟨b, 206 + p, none⟩ (.int .i64 x) := by
  have hc := H.a p hp
  have hf := H.f (206 + p) (by omega)
  have hp2 : (p : Int) < 201 := by omega
  clear H
  go_enter Try.func145, Try.ntmps145
  go_wp2
  first | go_end0 | refine bodyPost_ret (results_none rfl _ _ _) rfl ?_
  exact ⟨rfl, rfl⟩

set_option maxHeartbeats 400000 in
theorem ends_any (b : Nat) (n : Int) (t v c : ByteArray) (k : Int) (T A : Int → Int) (p : Nat) (w : World) (H : WaysAt w b n t v c k T A) (hp : p < 201) :
    Calls Try.prog 107 #[.pointer (some ⟨b, 0, none⟩), .int .i64 p] w fun e w' => e = .returned (.bool (decide (0 < T p))) ∧ w' = w := by
  go_enter Try.func107, Try.ntmps107
  go_wp2_with fail
  refine (turn_any b n t v c k T A p w H hp).mono ?_
  rintro e w1 ⟨rfl, rfl⟩
  go_wp2_with fail
  go_ret
  exact ⟨rfl, rfl⟩

set_option maxHeartbeats 400000 in
theorem junctionP_any (b : Nat) (n : Int) (t v c : ByteArray) (k : Int) (T A : Int → Int) (p : Nat) (w : World) (H : WaysAt w b n t v c k T A) (hp : p < 201) (hT : 0 < T p) :
    Calls Try.prog 112 #[.pointer (some ⟨b, 0, none⟩), .int .i64 p] w fun e w' => e = .returned (.int .i64 (A p)) ∧ w' = w := by
  have hd : decide (0 < T p) = true := decide_eq_true hT
  go_enter Try.func112, Try.ntmps112
  go_wp2_with fail
  refine (ends_any b n t v c k T A p w H hp).mono ?_
  rintro e w1 ⟨rfl, rfl⟩
  rw [hd]
  go_wp2_with fail
  refine (step_any b n t v c k T A p _ H hp).mono ?_
  rintro e w1 ⟨rfl, rfl⟩
  go_wp2_with fail
  go_ret
  exact ⟨rfl, rfl⟩

set_option maxHeartbeats 400000 in
theorem addw_old (b : Nat) (n x : Int) (t v c : ByteArray) (k : Int) (T A : Int → Int) (p : Nat) (w : World) (H : WaysAt w b n t v c k T A) (hp : p < 201) (hT : 0 < T p) :
    Calls Try.prog 103 #[.pointer (some ⟨b, 0, none⟩), .int .i64 p, .int .i64 x] w fun e w' => e = .returned (.bool false) ∧ w' = w := by
  have hc := H.t p hp
  have hp2 : (p : Int) < 201 := by omega
  clear H
  go_enter Try.func103, Try.ntmps103
  go_wp2
  go_ret
  exact ⟨rfl, rfl⟩

set_option maxHeartbeats 1600000 in
theorem addw_new (b : Nat) (n x : Int) (t v c : ByteArray) (k : Int) (T A : Int → Int) (p : Nat) (w : World) (H : WaysAt w b n t v c k T A) (hp : p < 201) (hT : T p = 0) (hk0 : 0 ≤ k) (hk : k ≤ 1000) :
    Calls Try.prog 103 #[.pointer (some ⟨b, 0, none⟩), .int .i64 p, .int .i64 x] w fun e w' => e = .returned (.bool true) ∧ WaysAt w' b n t v c (k + 1) (upd T p (k + 1)) (upd A p x) ∧ But b w.heap.size w w' := by
  have hc := H.t p hp
  rw [hT] at hc
  have hk4 := H.k
  have hf4 := H.f 4 (by omega)
  have hp2 : (p : Int) < 201 := by omega
  have hK : Kp (WaysAt w b n t v c k T A) := ⟨H⟩
  clear H
  go_enter Try.func103, Try.ntmps103
  go_wp2
  obtain ⟨w1, hw1⟩ : ∃ w1, w1 = w.setCell ⟨b, 4, none⟩ (.int .i64 (k + 1)) := ⟨_, rfl⟩
  rw [← hw1]
  have H1 : WaysAt w1 b n t v c (k + 1) T A := by rw [hw1]; exact hK.out.setK _
  have hB1 : But b w.heap.size w w1 := by rw [hw1]; exact (But.refl _ _ _).setCell _ _
  have r4 := H1.k
  have rp := H1.t p hp
  have rf := H1.f (5 + p) (by omega)
  replace H1 : Kp _ := ⟨H1⟩
  clear hw1 hc hk4 hf4
  go_region
  obtain ⟨w2, hw2⟩ : ∃ w2, w2 = (w1.setCell ⟨b, 5 + p, none⟩ (.int .i64 (k + 1))).drew := ⟨_, rfl⟩
  rw [← hw2]
  have H2 : WaysAt w2 b n t v c (k + 1) (upd T p (k + 1)) A := by rw [hw2]; exact (H1.out.setT p hp (k + 1)).step ((Below.refl _ _).drew)
  have hB2 : But b w.heap.size w w2 := by rw [hw2]; exact hB1.trans (((But.refl _ _ _).setCell _ _).trans (But.of ((Below.refl _ _).drew)))
  have rp := H2.a p hp
  have rf := H2.f (206 + p) (by omega)
  replace H2 : Kp _ := ⟨H2⟩
  clear hw2 r4 hB1 H1 hK
  go_wp2
  go_ret
  exact ⟨rfl, H2.out.setA p hp x, hB2.setCell _ _⟩
end Go.Proofs.Ytcnbifdlkalimaa
