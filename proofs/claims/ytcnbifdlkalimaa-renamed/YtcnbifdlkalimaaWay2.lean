/-
  The walks of sets of places; for every set and every place.
-/
import Derived.Test.YtcnbifdlkalimaaWay1
namespace Go.Proofs.Ytcnbifdlkalimaa
open Go.RowKit
set_option linter.unusedVariables false
set_option maxRecDepth 100000

/-- nothing but block b is written of what lies below B -/
structure But (b B : Nat) (w w' : World) : Prop where
  os : w'.os = w.os
  tape : w'.tape = w.tape
  output : w'.output = w.output
  size : w.heap.size ≤ w'.heap.size
  block : ∀ k, k < B → k ≠ b → w'.heap[k]? = w.heap[k]?

theorem But.refl (b B : Nat) (w : World) : But b B w w := ⟨rfl, rfl, rfl, Nat.le_refl _, fun _ _ _ => rfl⟩
theorem But.trans {b B : Nat} {x y z : World} (h : But b B x y) (k : But b B y z) : But b B x z :=
  ⟨k.os.trans h.os, k.tape.trans h.tape, k.output.trans h.output, Nat.le_trans h.size k.size, fun i hi hb => (k.block i hi hb).trans (h.block i hi hb)⟩
theorem But.of {b B : Nat} {w w' : World} (h : Below B w w') : But b B w w' := ⟨h.os, h.tape, h.output, h.size, fun k hk _ => h.block k hk⟩
theorem But.mono {b B B' : Nat} {w w' : World} (h : But b B w w') (hB : B' ≤ B) : But b B' w w' := ⟨h.os, h.tape, h.output, h.size, fun k hk hb => h.block k (Nat.lt_of_lt_of_le hk hB) hb⟩
theorem But.setCell {b B : Nat} {x w : World} (h : But b B x w) (o : Nat) (u : Value) : But b B x (w.setCell ⟨b, o, none⟩ u) :=
  ⟨h.os, h.tape, h.output, by simpa using h.size, fun k hk hb => by rw [Below.heap_setCell w ⟨b, o, none⟩ u k hb]; exact h.block k hk hb⟩
theorem But.cell {b B : Nat} {w w' : World} (h : But b B w w') {p : Addr} (hp : p.block < B) (hb : p.block ≠ b) : w'.cell? p = w.cell? p := World.cell?_of_block (w := w) (h.block p.block hp hb)
theorem But.frozen {b B : Nat} {w w' : World} (h : But b B w w') {p : Addr} (hp : p.block < B) (hb : p.block ≠ b) : w'.frozen? p = w.frozen? p := World.frozen?_of_block (w := w) (h.block p.block hp hb)
theorem But.below {b B : Nat} {w w' : World} (h : But b B w w') (hb : B ≤ b) : Below B w w' := ⟨h.os, h.tape, h.output, h.size, fun k hk => h.block k hk (by omega)⟩

/-- at offset o of block b lies the set m -/
structure SetAt (w : World) (b o : Nat) (m : Nat → Bool) : Prop where
  lt : b < w.heap.size
  c : ∀ j, j < 201 → w.cell? ⟨b, o + j, none⟩ = some (.bool (m j))
  f : ∀ j, j < 201 → w.frozen? ⟨b, o + j, none⟩ = false

def addS (m : Nat → Bool) (p : Nat) : Nat → Bool := fun j => if j = p then true else m j
def delS (m : Nat → Bool) (p : Nat) : Nat → Bool := fun j => if j = p then false else m j
def inS (m : Nat → Bool) (p : Int) : Bool := decide (0 ≤ p ∧ p < 201) && m p.toNat

theorem SetAt.set {w : World} {b o : Nat} {m : Nat → Bool} (h : SetAt w b o m) {p : Nat} (hp : p < 201) (x : Bool) : SetAt (w.setCell ⟨b, o + p, none⟩ (.bool x)) b o (fun j => if j = p then x else m j) := by
  refine ⟨by simpa using h.lt, fun j hj => ?_, fun j hj => by rw [World.frozen?_setCell]; exact h.f j hj⟩
  by_cases e : j = p
  · subst e
    rw [if_pos rfl]
    exact World.cell?_setCell_same _ _ _ (h.c j hj)
  · rw [if_neg e, World.cell?_setCell_other w ⟨b, o + p, none⟩ ⟨b, o + j, none⟩ _ (by intro k; have := congrArg Addr.off k; simp at this; omega)]
    exact h.c j hj

theorem SetAt.step {w w1 : World} {b o : Nat} {m : Nat → Bool} (h : SetAt w b o m) (hb : Below w.heap.size w w1) : SetAt w1 b o m :=
  ⟨Nat.lt_of_lt_of_le h.lt hb.size, fun j hj => by rw [hb.cell (p := ⟨b, o + j, none⟩) h.lt]; exact h.c j hj, fun j hj => by rw [hb.frozen (p := ⟨b, o + j, none⟩) h.lt]; exact h.f j hj⟩

theorem SetAt.but {w w1 : World} {b b' o : Nat} {m : Nat → Bool} (h : SetAt w b o m) (hb : But b' w.heap.size w w1) (hne : b ≠ b') : SetAt w1 b o m :=
  ⟨Nat.lt_of_lt_of_le h.lt hb.size, fun j hj => by rw [hb.cell (p := ⟨b, o + j, none⟩) h.lt hne]; exact h.c j hj, fun j hj => by rw [hb.frozen (p := ⟨b, o + j, none⟩) h.lt hne]; exact h.f j hj⟩

theorem Own.but {w w1 : World} {b g : Nat} {vs : List Value} (h : Own w g vs) (hb : But b w.heap.size w w1) (hne : g ≠ b) : Own w1 g vs :=
  ⟨Nat.lt_of_lt_of_le h.lt hb.size, fun i v hv => by rw [hb.cell (p := ⟨g, i, none⟩) h.lt hne]; exact h.c i v hv, fun i v hv => by rw [hb.frozen (p := ⟨g, i, none⟩) h.lt hne]; exact h.f i v hv⟩

set_option maxHeartbeats 400000 in
theorem setHas_any (b o : Nat) (m : Nat → Bool) (p : Nat) (w : World) (hS : SetAt w b o m) (hp : p < 201) :
    Calls Try.prog 106 #[.pointer (some ⟨b, o, none⟩), .int .i64 p] w fun e w' => e = .returned (.bool (m p)) ∧ w' = w := by
  have hc := hS.c p hp
  have hp2 : (p : Int) < 201 := by omega
  clear hS
  go_enter Try.func106, Try.ntmps106
  go_wp2
  go_ret
  exact ⟨rfl, rfl⟩

set_option maxHeartbeats 400000 in
theorem add_old (b o : Nat) (m : Nat → Bool) (p : Nat) (w : World) (hS : SetAt w b o m) (hp : p < 201) (hm : m p = true) :
    Calls Try.prog 110 #[.pointer (some ⟨b, o, none⟩), .int .i64 p] w fun e w' => e = .returned (.bool false) ∧ w' = w := by
  have hc := hS.c p hp
  rw [hm] at hc
  have hp2 : (p : Int) < 201 := by omega
  clear hS
  go_enter Try.func110, Try.ntmps110
  go_wp2
  go_ret
  exact ⟨rfl, rfl⟩

set_option maxHeartbeats 400000 in
theorem add_new (b o : Nat) (m : Nat → Bool) (p : Nat) (w : World) (hS : SetAt w b o m) (hp : p < 201) (hm : m p = false) :
    Calls Try.prog 110 #[.pointer (some ⟨b, o, none⟩), .int .i64 p] w fun e w' => e = .returned (.bool true) ∧ w' = w.setCell ⟨b, o + p, none⟩ (.bool true) := by
  have hc := hS.c p hp
  have hf := hS.f p hp
  rw [hm] at hc
  have hp2 : (p : Int) < 201 := by omega
  clear hS
  go_enter Try.func110, Try.ntmps110
  go_wp2
  go_ret
  exact ⟨rfl, rfl⟩

set_option maxHeartbeats 400000 in
theorem remove_old (b o : Nat) (m : Nat → Bool) (p : Nat) (w : World) (hS : SetAt w b o m) (hp : p < 201) (hm : m p = true) :
    Calls Try.prog 150 #[.pointer (some ⟨b, o, none⟩), .int .i64 p] w fun e w' => e = .returned (.bool true) ∧ w' = w.setCell ⟨b, o + p, none⟩ (.bool false) := by
  have hc := hS.c p hp
  have hf := hS.f p hp
  rw [hm] at hc
  have hp2 : (p : Int) < 201 := by omega
  clear hS
  go_enter Try.func150, Try.ntmps150
  go_wp2
  go_ret
  exact ⟨rfl, rfl⟩

set_option maxHeartbeats 400000 in
theorem remove_not (b o : Nat) (m : Nat → Bool) (p : Nat) (w : World) (hS : SetAt w b o m) (hp : p < 201) (hm : m p = false) :
    Calls Try.prog 150 #[.pointer (some ⟨b, o, none⟩), .int .i64 p] w fun e w' => e = .returned (.bool false) ∧ w' = w := by
  have hc := hS.c p hp
  rw [hm] at hc
  have hp2 : (p : Int) < 201 := by omega
  clear hS
  go_enter Try.func150, Try.ntmps150
  go_wp2
  go_ret
  exact ⟨rfl, rfl⟩
end Go.Proofs.Ytcnbifdlkalimaa
