/-
  The walks of the package check: labels, their small functions; for every file.
-/
import Derived.Test.YtcnbifdlkalimaaHgt2
import Derived.Test.YtcnbifdlkalimaaPlain13
import Derived.Test.YtcnbifdlkalimaaLat3
namespace Go.Proofs.Ytcnbifdlkalimaa
open Go.RowKit
set_option linter.unusedVariables false
set_option maxRecDepth 100000

/-- block b holds labels: the file, where the heights lie, regions, labels of places and of values, which places wait -/
structure LabAt (w : World) (b : Nat) (n : Int) (t v c : ByteArray) (hb : Nat) (R : Nat → Nat → Bool) (L : Int → Int → Int) (W : Nat → Bool) : Prop where
  lt : b < w.heap.size
  c0 : w.cell? ⟨b, 0, none⟩ = some (.int .i64 n)
  c1 : w.cell? ⟨b, 1, none⟩ = some (.string t)
  c2 : w.cell? ⟨b, 2, none⟩ = some (.string v)
  c3 : w.cell? ⟨b, 3, none⟩ = some (.string c)
  hp : w.cell? ⟨b, 4, none⟩ = some (.pointer (some ⟨hb, 0, none⟩))
  r : ∀ i j : Nat, i < 201 → j < 201 → w.cell? ⟨b, 5 + i * 201 + j, none⟩ = some (.bool (R i j))
  pl : ∀ j : Nat, j < 201 → w.cell? ⟨b, 40406 + j, none⟩ = some (.int .i64 (L j (-1)))
  vl : ∀ j d : Nat, j < 201 → d < 8 → w.cell? ⟨b, 40607 + j * 8 + d, none⟩ = some (.int .i64 (L j d))
  wt : ∀ j : Nat, j < 201 → w.cell? ⟨b, 42215 + j, none⟩ = some (.bool (W j))
  f : ∀ j : Nat, j < 42416 → w.frozen? ⟨b, j, none⟩ = false

theorem LabAt.frame {w w1 : World} {b : Nat} {n : Int} {t v c : ByteArray} {hb : Nat} {R : Nat → Nat → Bool} {L : Int → Int → Int} {W : Nat → Bool} (h : LabAt w b n t v c hb R L W) (hs : w.heap.size ≤ w1.heap.size) (e : ∀ j, w1.cell? ⟨b, j, none⟩ = w.cell? ⟨b, j, none⟩) (ef : ∀ j, w1.frozen? ⟨b, j, none⟩ = w.frozen? ⟨b, j, none⟩) : LabAt w1 b n t v c hb R L W :=
  ⟨Nat.lt_of_lt_of_le h.lt hs, by rw [e]; exact h.c0, by rw [e]; exact h.c1, by rw [e]; exact h.c2, by rw [e]; exact h.c3, by rw [e]; exact h.hp, fun i j hi hj => by rw [e]; exact h.r i j hi hj, fun j hj => by rw [e]; exact h.pl j hj, fun j d hj hd => by rw [e]; exact h.vl j d hj hd, fun j hj => by rw [e]; exact h.wt j hj, fun j hj => by rw [ef]; exact h.f j hj⟩

theorem LabAt.step {w w1 : World} {b : Nat} {n : Int} {t v c : ByteArray} {hb : Nat} {R : Nat → Nat → Bool} {L : Int → Int → Int} {W : Nat → Bool} (h : LabAt w b n t v c hb R L W) (hB : Below w.heap.size w w1) : LabAt w1 b n t v c hb R L W :=
  h.frame hB.size (fun j => hB.cell (p := ⟨b, j, none⟩) h.lt) (fun j => hB.frozen (p := ⟨b, j, none⟩) h.lt)

theorem LabAt.setP {w : World} {b : Nat} {n : Int} {t v c : ByteArray} {hb : Nat} {R : Nat → Nat → Bool} {L : Int → Int → Int} {W : Nat → Bool} (h : LabAt w b n t v c hb R L W) (p : Nat) (hp : p < 201) (x : Int) : LabAt (w.setCell ⟨b, 40406 + p, none⟩ (.int .i64 x)) b n t v c hb R (updL L p (-1) x) W := by
  refine ⟨by simpa using h.lt, ?_, ?_, ?_, ?_, ?_, fun i j hi hj => ?_, fun j hj => ?_, fun j d hj hd => ?_, fun j hj => ?_, fun j hj => by rw [World.frozen?_setCell]; exact h.f j hj⟩
  · rw [cell_far _ _ _ _ _ (by omega)]; exact h.c0
  · rw [cell_far _ _ _ _ _ (by omega)]; exact h.c1
  · rw [cell_far _ _ _ _ _ (by omega)]; exact h.c2
  · rw [cell_far _ _ _ _ _ (by omega)]; exact h.c3
  · rw [cell_far _ _ _ _ _ (by omega)]; exact h.hp
  · rw [cell_far _ _ _ _ _ (by omega)]; exact h.r i j hi hj
  · by_cases e : j = p
    · subst e; rw [updL_at]; exact World.cell?_setCell_same _ _ _ (h.pl j hj)
    · rw [cell_far _ _ _ _ _ (by omega), updL_ne (by omega)]; exact h.pl j hj
  · rw [cell_far _ _ _ _ _ (by omega), updL_ne (by omega)]; exact h.vl j d hj hd
  · rw [cell_far _ _ _ _ _ (by omega)]; exact h.wt j hj

theorem LabAt.setV {w : World} {b : Nat} {n : Int} {t v c : ByteArray} {hb : Nat} {R : Nat → Nat → Bool} {L : Int → Int → Int} {W : Nat → Bool} (h : LabAt w b n t v c hb R L W) (p d : Nat) (hp : p < 201) (hd : d < 8) (x : Int) : LabAt (w.setCell ⟨b, 40607 + p * 8 + d, none⟩ (.int .i64 x)) b n t v c hb R (updL L p d x) W := by
  refine ⟨by simpa using h.lt, ?_, ?_, ?_, ?_, ?_, fun i j hi hj => ?_, fun j hj => ?_, fun j e hj he => ?_, fun j hj => ?_, fun j hj => by rw [World.frozen?_setCell]; exact h.f j hj⟩
  · rw [cell_far _ _ _ _ _ (by omega)]; exact h.c0
  · rw [cell_far _ _ _ _ _ (by omega)]; exact h.c1
  · rw [cell_far _ _ _ _ _ (by omega)]; exact h.c2
  · rw [cell_far _ _ _ _ _ (by omega)]; exact h.c3
  · rw [cell_far _ _ _ _ _ (by omega)]; exact h.hp
  · rw [cell_far _ _ _ _ _ (by omega)]; exact h.r i j hi hj
  · rw [cell_far _ _ _ _ _ (by omega), updL_ne (by omega)]; exact h.pl j hj
  · by_cases k : j = p ∧ e = d
    · obtain ⟨rfl, rfl⟩ := k; rw [updL_at]; exact World.cell?_setCell_same _ _ _ (h.vl j e hj he)
    · rw [cell_far _ _ _ _ _ (by omega), updL_ne (by omega)]; exact h.vl j e hj he
  · rw [cell_far _ _ _ _ _ (by omega)]; exact h.wt j hj

theorem LabAt.setW {w : World} {b : Nat} {n : Int} {t v c : ByteArray} {hb : Nat} {R : Nat → Nat → Bool} {L : Int → Int → Int} {W : Nat → Bool} (h : LabAt w b n t v c hb R L W) (p : Nat) (hp : p < 201) (x : Bool) : LabAt (w.setCell ⟨b, 42215 + p, none⟩ (.bool x)) b n t v c hb R L (fun j => if j = p then x else W j) := by
  refine ⟨by simpa using h.lt, ?_, ?_, ?_, ?_, ?_, fun i j hi hj => ?_, fun j hj => ?_, fun j e hj he => ?_, fun j hj => ?_, fun j hj => by rw [World.frozen?_setCell]; exact h.f j hj⟩
  · rw [cell_far _ _ _ _ _ (by omega)]; exact h.c0
  · rw [cell_far _ _ _ _ _ (by omega)]; exact h.c1
  · rw [cell_far _ _ _ _ _ (by omega)]; exact h.c2
  · rw [cell_far _ _ _ _ _ (by omega)]; exact h.c3
  · rw [cell_far _ _ _ _ _ (by omega)]; exact h.hp
  · rw [cell_far _ _ _ _ _ (by omega)]; exact h.r i j hi hj
  · rw [cell_far _ _ _ _ _ (by omega)]; exact h.pl j hj
  · rw [cell_far _ _ _ _ _ (by omega)]; exact h.vl j e hj he
  · by_cases k : j = p
    · subst k; rw [if_pos rfl]; exact World.cell?_setCell_same _ _ _ (h.wt j hj)
    · rw [cell_far _ _ _ _ _ (by omega), if_neg k]; exact h.wt j hj

theorem LabAt.wait {w : World} {b : Nat} {n : Int} {t v c : ByteArray} {hb : Nat} {R : Nat → Nat → Bool} {L : Int → Int → Int} {W : Nat → Bool} (h : LabAt w b n t v c hb R L W) : SetAt w b 42215 W := ⟨h.lt, h.wt, fun j hj => h.f _ (by omega)⟩
theorem LabAt.reg {w : World} {b : Nat} {n : Int} {t v c : ByteArray} {hb : Nat} {R : Nat → Nat → Bool} {L : Int → Int → Int} {W : Nat → Bool} (h : LabAt w b n t v c hb R L W) (i : Nat) (hi : i < 201) : SetAt w b (5 + i * 201) (R i) := ⟨h.lt, fun j hj => h.r i j hi hj, fun j hj => h.f _ (by omega)⟩

set_option maxHeartbeats 400000 in
theorem ofPlace_any (b : Nat) (n : Int) (t v c : ByteArray) (hb : Nat) (R : Nat → Nat → Bool) (L : Int → Int → Int) (W : Nat → Bool) (p : Nat) (w : World) (H : LabAt w b n t v c hb R L W) (hp : p < 201) :
    Calls Try.prog 152 #[.pointer (some ⟨b, 0, none⟩), .int .i64 p] w fun e w' => e = .returned (.int .i64 (L p (-1))) ∧ w' = w := by
  have hc := H.pl p hp
  have hp2 : (p : Int) < 201 := by omega
  clear H
  go_enter Try.func152, Try.ntmps152
  go_wp2
  go_ret
  exact ⟨rfl, rfl⟩

set_option maxHeartbeats 400000 in
theorem ofValue_any (b : Nat) (n : Int) (t v c : ByteArray) (hb : Nat) (R : Nat → Nat → Bool) (L : Int → Int → Int) (W : Nat → Bool) (p d : Nat) (w : World) (H : LabAt w b n t v c hb R L W) (hp : p < 201) (hd : d < 8) :
    Calls Try.prog 176 #[.pointer (some ⟨b, 0, none⟩), .int .i64 p, .int .i64 d] w fun e w' => e = .returned (.int .i64 (L p d)) ∧ w' = w := by
  have hc := H.vl p d hp hd
  have hp2 : (p : Int) < 201 := by omega
  have hd2 : (d : Int) < 8 := by omega
  clear H
  go_enter Try.func176, Try.ntmps176
  go_wp2
  go_ret
  exact ⟨rfl, rfl⟩

set_option maxHeartbeats 400000 in
theorem inRegion_any (b : Nat) (n : Int) (t v c : ByteArray) (hb : Nat) (R : Nat → Nat → Bool) (L : Int → Int → Int) (W : Nat → Bool) (p z : Nat) (w : World) (H : LabAt w b n t v c hb R L W) (hp : p < 201) (hz : z < 201) :
    Calls Try.prog 193 #[.pointer (some ⟨b, 0, none⟩), .int .i64 p, .int .i64 z] w fun e w' => e = .returned (.bool (R z p)) ∧ w' = w := by
  have hz2 : (z : Int) < 201 := by omega
  go_enter Try.func193, Try.ntmps193
  go_wp2_with fail
  refine (setHas_any b (5 + z * 201) (R z) p w (H.reg z hz) hp).mono ?_
  rintro e w1 ⟨rfl, rfl⟩
  go_wp2_with fail
  go_ret
  exact ⟨rfl, rfl⟩
end Go.Proofs.Ytcnbifdlkalimaa
