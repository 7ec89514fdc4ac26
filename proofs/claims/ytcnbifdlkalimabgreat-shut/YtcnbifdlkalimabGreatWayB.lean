import Derived.Test.YtcnbifdlkalimabGreatPrg4
import Derived.Test.YtcnbifdlkalimabGreatPlain7
import Derived.Test.YtcnbifdlkalimabGreatPlain6
import Derived.Laws.IdiomCopy
import Derived.Deep.WholeRow
import Derived.RegionTactic
import Derived.Deep.LoopGhost

/-
  The walks of the small functions of the packages program and paths: places behind a place, what an operation pops and pushes, sets of places; for every file and every place of it.
-/
namespace Go.Proofs.YtcnbifdlkalimabGreat
open Go.RowKit
set_option linter.unusedVariables false

/-- the two places behind a place, as the program tells them: one twice where there are not two; of the end, the end -/
def nx1 (c : ByteArray) (k : Int) : Int := if k = half c then half c else if bv c (2 * k) = 8 then bv c (2 * k + 1) else k + 1
def nx2 (c : ByteArray) (k : Int) : Int := if k = half c then half c else if bv c (2 * k) = 8 ∨ bv c (2 * k) = 9 then bv c (2 * k + 1) else k + 1

theorem mem_nxt {c : ByteArray} {k q : Int} (hk : k < half c) : q ∈ nxt c k ↔ q = nx1 c k ∨ q = nx2 c k := by
  have hne : ¬ k = half c := by omega
  by_cases h8 : bv c (2 * k) = 8
  · simp [nxt, nx1, nx2, hne, h8]
  · by_cases h9 : bv c (2 * k) = 9
    · by_cases e : bv c (2 * k + 1) = k + 1
      · simp [nxt, nx1, nx2, hne, h9, e]
      · simp [nxt, nx1, nx2, hne, h9, e]
    · simp [nxt, nx1, nx2, hne, h8, h9]

set_option maxHeartbeats 400000 in
theorem instr_end (n : Int) (t v c : ByteArray) (w : World) (hc : c.size ≤ maxLen) :
    Calls Tryz.prog 114 #[.agg #[.int .i64 n, .string t, .string v, .string c], .int .i64 (half c)] w fun e w' => e = .returned (.tuple #[.int .i64 8, .int .i64 (half c)]) ∧ Below w.heap.size w w' := by
  unfold maxLen at hc
  have hh := half_bd c
  have hd : (half c : Int) = (c.size : Int) / 2 := rfl
  rw [hd] at hh ⊢
  clear hd
  go_enter Tryz.func114, Tryz.ntmps114
  go_wp2
  go_quiet (fail)
  go_wp2
  go_ret2
  exact ⟨rfl, below_drewN ((Below.refl _ _).alloc (Nat.le_refl _) _) _⟩

/-- the operation and the operand at a place, as the program tells them -/
def opP (c : ByteArray) (k : Int) : Int := if k = half c then 8 else bv c (2 * k)
def argP (c : ByteArray) (k : Int) : Int := if k = half c then half c else bv c (2 * k + 1)

theorem instrP (n k : Int) (t v c : ByteArray) (w : World) (hc : c.size ≤ maxLen) (h0 : 0 ≤ k) (hk : k ≤ half c) :
    Calls Tryz.prog 114 #[.agg #[.int .i64 n, .string t, .string v, .string c], .int .i64 k] w fun e w' => e = .returned (.tuple #[.int .i64 (opP c k), .int .i64 (argP c k)]) ∧ Below w.heap.size w w' := by
  by_cases e : k = half c
  · subst e
    rw [show opP c (half c) = 8 from if_pos rfl, show argP c (half c) = half c from if_pos rfl]
    exact instr_end n t v c w hc
  · rw [show opP c k = bv c (2 * k) from if_neg e, show argP c k = bv c (2 * k + 1) from if_neg e]
    exact instr_any n k t v c w hc h0 (by omega)

theorem opP_bd (c : ByteArray) (k : Int) : 0 ≤ opP c k ∧ opP c k ≤ 255 := by
  unfold opP
  split
  · omega
  · exact bv_bd _ _

set_option maxHeartbeats 400000 in
theorem behind_any (n k : Int) (t v c : ByteArray) (w : World) (hc : c.size ≤ maxLen) (hK : half c ≤ 200) (h0 : 0 ≤ k) (hk : k ≤ half c) :
    Calls Tryz.prog 128 #[.agg #[.int .i64 n, .string t, .string v, .string c], .int .i64 k] w fun e w' => e = .returned (.tuple #[.int .i64 (nx1 c k), .int .i64 (nx2 c k)]) ∧ Below w.heap.size w w' := by
  have hI := fun w1 => instrP n k t v c w1 hc h0 hk
  have e1 : nx1 c k = if opP c k = 8 then argP c k else k + 1 := by
    unfold nx1 opP argP
    by_cases e : k = half c
    · simp [e]
    · simp [e]
  have e2 : nx2 c k = if opP c k = 8 ∨ opP c k = 9 then argP c k else k + 1 := by
    unfold nx2 opP argP
    by_cases e : k = half c
    · simp [e]
    · simp [e]
  rw [e1, e2]
  generalize opP c k = x at *
  generalize argP c k = y at *
  clear e1 e2
  have hk2 : k ≤ 200 := by omega
  clear hk hK
  by_cases h8 : x = 8
  · subst h8
    rw [if_pos rfl, if_pos (.inl rfl)]
    go_enter Tryz.func128, Tryz.ntmps128
    go_wp2_with fail
    refine (hI _).mono ?_
    rintro e w1 ⟨rfl, hb⟩
    go_wp2
    go_ret2
    exact ⟨rfl, ((Below.refl _ _).alloc (Nat.le_refl _) _).trans (hb.mono (by simp))⟩
  · rw [if_neg h8]
    by_cases h9 : x = 9
    · subst h9
      rw [if_pos (.inr rfl)]
      go_enter Tryz.func128, Tryz.ntmps128
      go_wp2_with fail
      refine (hI _).mono ?_
      rintro e w1 ⟨rfl, hb⟩
      go_wp2
      go_ret2
      exact ⟨rfl, ((Below.refl _ _).alloc (Nat.le_refl _) _).trans (hb.mono (by simp))⟩
    · rw [if_neg (by omega)]
      have g8 : (x == 8) = false := beq_eq_false_iff_ne.2 h8
      have g9 : (x == 9) = false := beq_eq_false_iff_ne.2 h9
      go_enter Tryz.func128, Tryz.ntmps128
      go_wp2_with fail
      refine (hI _).mono ?_
      rintro e w1 ⟨rfl, hb⟩
      go_wp2
      go_ret2
      exact ⟨rfl, ((Below.refl _ _).alloc (Nat.le_refl _) _).trans (hb.mono (by simp))⟩

/-- what the program says an operation pops, and pushes -/
theorem pops_any (op : Int) (w : World) (h0 : 0 ≤ op) (h1 : op ≤ 11) :
    Calls Tryz.prog 182 #[.int .i64 op] w fun e w' => e = .returned (.int .i64 (takesF op)) ∧ w' = w := by
  have hcs : op = 0 ∨ op = 1 ∨ op = 2 ∨ op = 3 ∨ op = 4 ∨ op = 5 ∨ op = 6 ∨ op = 7 ∨ op = 8 ∨ op = 9 ∨ op = 10 ∨ op = 11 := by omega
  rcases hcs with rfl | rfl | rfl | rfl | rfl | rfl | rfl | rfl | rfl | rfl | rfl | rfl
  all_goals
    go_enter Tryz.func182, Tryz.ntmps182
    go_wp2
    go_ret
    exact ⟨rfl, rfl⟩

theorem pushes_any (op : Int) (w : World) (h0 : 0 ≤ op) (h1 : op ≤ 11) :
    Calls Tryz.prog 183 #[.int .i64 op] w fun e w' => e = .returned (.int .i64 (givesF op)) ∧ w' = w := by
  have hcs : op = 0 ∨ op = 1 ∨ op = 2 ∨ op = 3 ∨ op = 4 ∨ op = 5 ∨ op = 6 ∨ op = 7 ∨ op = 8 ∨ op = 9 ∨ op = 10 ∨ op = 11 := by omega
  rcases hcs with rfl | rfl | rfl | rfl | rfl | rfl | rfl | rfl | rfl | rfl | rfl | rfl
  all_goals
    go_enter Tryz.func183, Tryz.ntmps183
    go_wp2
    go_ret
    exact ⟨rfl, rfl⟩

set_option maxHeartbeats 400000 in
theorem level_any (n k : Int) (t v c : ByteArray) (w : World) (hv : v.size ≤ maxLen) (h0 : 0 ≤ k) (hk : k < v.size) :
    Calls Tryz.prog 189 #[.agg #[.int .i64 n, .string t, .string v, .string c], .int .i64 k] w fun e w' => e = .returned (.int .i64 (bv v k)) ∧ Below w.heap.size w w' := by
  unfold maxLen at hv
  have e0 : ((v[k.toNat]'(by omega)).toNat : Int) = bv v k := bv_get v k (by omega)
  obtain ⟨d0, d1⟩ := bv_bd v k
  generalize bv v k = x at *
  go_enter Tryz.func189, Tryz.ntmps189
  go_wp2
  go_ret
  exact ⟨rfl, (Below.refl _ _).alloc (Nat.le_refl _) _⟩
end Go.Proofs.YtcnbifdlkalimabGreat

/-
  The walks of sets of places; for every set and every place.
-/
namespace Go.Proofs.YtcnbifdlkalimabGreat
open Go.RowKit
set_option linter.unusedVariables false
set_option maxRecDepth 100000

/-- nothing but block b is written of what lies below B -/
structure But (b B : Nat) (w w' : World) : Prop where
  os : w'.os = w.os
  tape : w'.tape = w.tape
  output : w'.output = w.output
  size : w.heap.size ≤ w'.heap.size
  block : ∀ k, k < B → k ≠ b → w'.heap[k]? = w.heap[k]?

theorem But.refl (b B : Nat) (w : World) : But b B w w := ⟨rfl, rfl, rfl, Nat.le_refl _, fun _ _ _ => rfl⟩
theorem But.trans {b B : Nat} {x y z : World} (h : But b B x y) (k : But b B y z) : But b B x z :=
  ⟨k.os.trans h.os, k.tape.trans h.tape, k.output.trans h.output, Nat.le_trans h.size k.size, fun i hi hb => (k.block i hi hb).trans (h.block i hi hb)⟩
theorem But.of {b B : Nat} {w w' : World} (h : Below B w w') : But b B w w' := ⟨h.os, h.tape, h.output, h.size, fun k hk _ => h.block k hk⟩
theorem But.mono {b B B' : Nat} {w w' : World} (h : But b B w w') (hB : B' ≤ B) : But b B' w w' := ⟨h.os, h.tape, h.output, h.size, fun k hk hb => h.block k (Nat.lt_of_lt_of_le hk hB) hb⟩
theorem But.setCell {b B : Nat} {x w : World} (h : But b B x w) (o : Nat) (u : Value) : But b B x (w.setCell ⟨b, o, none⟩ u) :=
  ⟨h.os, h.tape, h.output, by simpa using h.size, fun k hk hb => by rw [Below.heap_setCell w ⟨b, o, none⟩ u k hb]; exact h.block k hk hb⟩
theorem But.cell {b B : Nat} {w w' : World} (h : But b B w w') {p : Addr} (hp : p.block < B) (hb : p.block ≠ b) : w'.cell? p = w.cell? p := World.cell?_of_block (w := w) (h.block p.block hp hb)
theorem But.frozen {b B : Nat} {w w' : World} (h : But b B w w') {p : Addr} (hp : p.block < B) (hb : p.block ≠ b) : w'.frozen? p = w.frozen? p := World.frozen?_of_block (w := w) (h.block p.block hp hb)
theorem But.below {b B : Nat} {w w' : World} (h : But b B w w') (hb : B ≤ b) : Below B w w' := ⟨h.os, h.tape, h.output, h.size, fun k hk => h.block k hk (by omega)⟩

/-- at offset o of block b lies the set m -/
structure SetAt (w : World) (b o : Nat) (m : Nat → Bool) : Prop where
  lt : b < w.heap.size
  c : ∀ j, j < 201 → w.cell? ⟨b, o + j, none⟩ = some (.bool (m j))
  f : ∀ j, j < 201 → w.frozen? ⟨b, o + j, none⟩ = false

def addS (m : Nat → Bool) (p : Nat) : Nat → Bool := fun j => if j = p then true else m j
def delS (m : Nat → Bool) (p : Nat) : Nat → Bool := fun j => if j = p then false else m j
def inS (m : Nat → Bool) (p : Int) : Bool := decide (0 ≤ p ∧ p < 201) && m p.toNat

theorem SetAt.set {w : World} {b o : Nat} {m : Nat → Bool} (h : SetAt w b o m) {p : Nat} (hp : p < 201) (x : Bool) : SetAt (w.setCell ⟨b, o + p, none⟩ (.bool x)) b o (fun j => if j = p then x else m j) := by
  refine ⟨by simpa using h.lt, fun j hj => ?_, fun j hj => by rw [World.frozen?_setCell]; exact h.f j hj⟩
  by_cases e : j = p
  · subst e
    rw [if_pos rfl]
    exact World.cell?_setCell_same _ _ _ (h.c j hj)
  · rw [if_neg e, World.cell?_setCell_other w ⟨b, o + p, none⟩ ⟨b, o + j, none⟩ _ (by intro k; have := congrArg Addr.off k; simp at this; omega)]
    exact h.c j hj

theorem SetAt.step {w w1 : World} {b o : Nat} {m : Nat → Bool} (h : SetAt w b o m) (hb : Below w.heap.size w w1) : SetAt w1 b o m :=
  ⟨Nat.lt_of_lt_of_le h.lt hb.size, fun j hj => by rw [hb.cell (p := ⟨b, o + j, none⟩) h.lt]; exact h.c j hj, fun j hj => by rw [hb.frozen (p := ⟨b, o + j, none⟩) h.lt]; exact h.f j hj⟩

theorem SetAt.but {w w1 : World} {b b' o : Nat} {m : Nat → Bool} (h : SetAt w b o m) (hb : But b' w.heap.size w w1) (hne : b ≠ b') : SetAt w1 b o m :=
  ⟨Nat.lt_of_lt_of_le h.lt hb.size, fun j hj => by rw [hb.cell (p := ⟨b, o + j, none⟩) h.lt hne]; exact h.c j hj, fun j hj => by rw [hb.frozen (p := ⟨b, o + j, none⟩) h.lt hne]; exact h.f j hj⟩

theorem Own.but {w w1 : World} {b g : Nat} {vs : List Value} (h : Own w g vs) (hb : But b w.heap.size w w1) (hne : g ≠ b) : Own w1 g vs :=
  ⟨Nat.lt_of_lt_of_le h.lt hb.size, fun i v hv => by rw [hb.cell (p := ⟨g, i, none⟩) h.lt hne]; exact h.c i v hv, fun i v hv => by rw [hb.frozen (p := ⟨g, i, none⟩) h.lt hne]; exact h.f i v hv⟩

set_option maxHeartbeats 400000 in
theorem setHas_any (b o : Nat) (m : Nat → Bool) (p : Nat) (w : World) (hS : SetAt w b o m) (hp : p < 201) :
    Calls Tryz.prog 120 #[.pointer (some ⟨b, o, none⟩), .int .i64 p] w fun e w' => e = .returned (.bool (m p)) ∧ w' = w := by
  have hc := hS.c p hp
  have hp2 : (p : Int) < 201 := by omega
  clear hS
  go_enter Tryz.func120, Tryz.ntmps120
  go_wp2
  go_ret
  exact ⟨rfl, rfl⟩

set_option maxHeartbeats 400000 in
theorem add_old (b o : Nat) (m : Nat → Bool) (p : Nat) (w : World) (hS : SetAt w b o m) (hp : p < 201) (hm : m p = true) :
    Calls Tryz.prog 123 #[.pointer (some ⟨b, o, none⟩), .int .i64 p] w fun e w' => e = .returned (.bool false) ∧ w' = w := by
  have hc := hS.c p hp
  rw [hm] at hc
  have hp2 : (p : Int) < 201 := by omega
  clear hS
  go_enter Tryz.func123, Tryz.ntmps123
  go_wp2
  go_ret
  exact ⟨rfl, rfl⟩

set_option maxHeartbeats 400000 in
theorem add_new (b o : Nat) (m : Nat → Bool) (p : Nat) (w : World) (hS : SetAt w b o m) (hp : p < 201) (hm : m p = false) :
    Calls Tryz.prog 123 #[.pointer (some ⟨b, o, none⟩), .int .i64 p] w fun e w' => e = .returned (.bool true) ∧ w' = w.setCell ⟨b, o + p, none⟩ (.bool true) := by
  have hc := hS.c p hp
  have hf := hS.f p hp
  rw [hm] at hc
  have hp2 : (p : Int) < 201 := by omega
  clear hS
  go_enter Tryz.func123, Tryz.ntmps123
  go_wp2
  go_ret
  exact ⟨rfl, rfl⟩

set_option maxHeartbeats 400000 in
theorem remove_old (b o : Nat) (m : Nat → Bool) (p : Nat) (w : World) (hS : SetAt w b o m) (hp : p < 201) (hm : m p = true) :
    Calls Tryz.prog 184 #[.pointer (some ⟨b, o, none⟩), .int .i64 p] w fun e w' => e = .returned (.bool true) ∧ w' = w.setCell ⟨b, o + p, none⟩ (.bool false) := by
  have hc := hS.c p hp
  have hf := hS.f p hp
  rw [hm] at hc
  have hp2 : (p : Int) < 201 := by omega
  clear hS
  go_enter Tryz.func184, Tryz.ntmps184
  go_wp2
  go_ret
  exact ⟨rfl, rfl⟩

set_option maxHeartbeats 400000 in
theorem remove_not (b o : Nat) (m : Nat → Bool) (p : Nat) (w : World) (hS : SetAt w b o m) (hp : p < 201) (hm : m p = false) :
    Calls Tryz.prog 184 #[.pointer (some ⟨b, o, none⟩), .int .i64 p] w fun e w' => e = .returned (.bool false) ∧ w' = w := by
  have hc := hS.c p hp
  rw [hm] at hc
  have hp2 : (p : Int) < 201 := by omega
  clear hS
  go_enter Tryz.func184, Tryz.ntmps184
  go_wp2
  go_ret
  exact ⟨rfl, rfl⟩
end Go.Proofs.YtcnbifdlkalimabGreat

/-
  The plain mathematics of a walk that follows all places behind a place, up to a barrier; no condition but those that stand in each lemma.
-/
namespace Go.Proofs.YtcnbifdlkalimabGreat
open Go.RowKit

/-- what was followed from p on, up to the barrier: m before, m' behind -/
structure Fol (c : ByteArray) (bar : Int) (S : Int → Prop) (m m' : Nat → Bool) : Prop where
  more : ∀ j, m j = true → m' j = true
  sound : ∀ j : Nat, m' j = true → m j = true ∨ ((j : Int) ≤ half c ∧ Reach c S bar j)
  begun : ∀ p : Nat, S p → (p : Int) ≠ bar → m' p = true
  shut : ∀ i : Nat, m' i = true → m i = false → ∀ j : Int, (i : Int) < half c → j ∈ nxt c i → j ≠ bar → m' j.toNat = true

theorem Fol.nothing {c : ByteArray} {bar : Int} {p : Nat} {m : Nat → Bool} (h : (p : Int) ≠ bar → m p = true) : Fol c bar (One p) m m :=
  ⟨fun _ h => h, fun _ h => .inl h, fun q hq hb => by have e : (q : Int) = p := hq; have e2 : q = p := by omega
                                                      subst e2; exact h hb, fun i h1 h2 => by rw [h1] at h2; exact absurd h2 (by simp)⟩

theorem Fol.union {c : ByteArray} {bar : Int} {S T : Int → Prop} {m m' m'' : Nat → Bool} (h : Fol c bar S m m') (k : Fol c bar T m' m'') : Fol c bar (fun x => S x ∨ T x) m m'' := by
  refine ⟨fun j hj => k.more j (h.more j hj), fun j hj => ?_, fun p hp hb => ?_, fun i h1 h2 j hi hj hb => ?_⟩
  · rcases k.sound j hj with h1 | ⟨h1, h2⟩
    · rcases h.sound j h1 with h3 | ⟨h3, h4⟩
      · exact .inl h3
      · exact .inr ⟨h3, h4.congr (fun _ hx => .inl hx)⟩
    · exact .inr ⟨h1, h2.congr (fun _ hx => .inr hx)⟩
  · rcases hp with hp | hp
    · exact k.more p (h.begun p hp hb)
    · exact k.begun p hp hb
  · cases hm : m' i
    · exact k.shut i h1 hm j hi hj hb
    · exact k.more _ (h.shut i hm h2 j hi hj hb)

/-- a new place, and then all behind it -/
theorem Fol.step {c : ByteArray} {bar : Int} {p : Nat} {m m' : Nat → Bool} {S : Int → Prop} (hr : Ranged c) (hp : (p : Int) ≤ half c) (hb : (p : Int) ≠ bar) (hS : ∀ x, S x → ((p : Int) < half c ∧ x ∈ nxt c p) ∨ x = p) (hS2 : (p : Int) < half c → ∀ x, x ∈ nxt c p → S x)
    (h : Fol c bar S (fun j => if j = p then true else m j) m') : Fol c bar (One p) m m' := by
  have hpm : m' p = true := h.more p (by simp)
  refine ⟨fun j hj => h.more j (by simp [hj]), fun j hj => ?_, fun q hq _ => ?_, fun i h1 h2 j hi hj hjb => ?_⟩
  · rcases h.sound j hj with h1 | ⟨h1, h2⟩
    · by_cases e : j = p
      · subst e; exact .inr ⟨hp, Reach.start rfl hb⟩
      · simp only [if_neg e] at h1; exact .inl h1
    · refine .inr ⟨h1, h2 (fun x => Reach c (One p) bar x) (fun x hx hxb => ?_) (fun _ _ hx he hw => hx.step he hw)⟩
      rcases hS x hx with ⟨hlt, hm⟩ | hx
      · exact (Reach.start (S := One p) rfl hb).step ⟨by omega, hlt, hm⟩ hxb
      · rw [hx]; exact Reach.start rfl hb
  · have e : (q : Int) = p := hq
    have e2 : q = p := by omega
    subst e2
    exact hpm
  · by_cases e : i = p
    · subst e
      have hj2 := hr i j ⟨by omega, hi, hj⟩
      have := h.begun j.toNat (by rw [Int.toNat_of_nonneg hj2.1]; exact hS2 hi j hj) (by rw [Int.toNat_of_nonneg hj2.1]; exact hjb)
      exact this
    · exact h.shut i h1 (by simp only [if_neg e]; exact h2) j hi hj hjb

theorem Fol.done {c : ByteArray} {bar : Int} {S : Int → Prop} {m : Nat → Bool} (hr : Ranged c) (hS : ∀ x, S x → 0 ≤ x) (h : Fol c bar S (fun _ => false) m) (j : Nat) : m j = true ↔ (j : Int) ≤ half c ∧ Reach c S bar j ∨ (m j = true ∧ ¬ (j : Int) ≤ half c) := by
  constructor
  · intro hj
    rcases h.sound j hj with h1 | h1
    · exact absurd h1 (by simp)
    · exact .inl h1
  · rintro (⟨h1, h2⟩ | h1)
    · have := h2 (fun x => 0 ≤ x ∧ m x.toNat = true) (fun x hx hb => ?_) (fun x y hx he hb => ?_)
      · have h3 := this.2; rw [Int.toNat_natCast] at h3; exact h3
      · have h0 := hS x hx
        exact ⟨h0, h.begun x.toNat (by rw [Int.toNat_of_nonneg h0]; exact hx) (by rw [Int.toNat_of_nonneg h0]; exact hb)⟩
      · have e : ((x.toNat : Nat) : Int) = x := Int.toNat_of_nonneg hx.1
        exact ⟨(hr x y he).1, h.shut x.toNat hx.2 rfl y (by rw [e]; exact he.2.1) (by rw [e]; exact he.2.2) hb⟩
    · exact h1.1

theorem Fol.iff {c : ByteArray} {bar : Int} {S : Int → Prop} {m : Nat → Bool} (hr : Ranged c) (hS : ∀ x, S x → 0 ≤ x) (h : Fol c bar S (fun _ => false) m) (j : Nat) : m j = true ↔ (j : Int) ≤ half c ∧ Reach c S bar j := by
  constructor
  · intro hj
    rcases h.sound j hj with h1 | h1
    · exact absurd h1 (by simp)
    · exact h1
  · intro hj
    exact (h.done hr hS j).2 (.inl hj)
end Go.Proofs.YtcnbifdlkalimabGreat

/-
  The walks of the package paths: what is followed, up to a barrier; for every file whose places are places.
-/
namespace Go.Proofs.YtcnbifdlkalimabGreat
open Go.RowKit
set_option linter.unusedVariables false
set_option maxRecDepth 100000

theorem nx_in {c : ByteArray} (hr : Ranged c) {k : Int} (h0 : 0 ≤ k) (hk : k ≤ half c) : (0 ≤ nx1 c k ∧ nx1 c k ≤ half c) ∧ (0 ≤ nx2 c k ∧ nx2 c k ≤ half c) := by
  by_cases e : k = half c
  · have h1 : nx1 c k = half c := if_pos e
    have h2 : nx2 c k = half c := if_pos e
    omega
  · have hlt : k < half c := by omega
    exact ⟨hr k _ ⟨h0, hlt, (mem_nxt hlt).2 (.inl rfl)⟩, hr k _ ⟨h0, hlt, (mem_nxt hlt).2 (.inr rfl)⟩⟩

theorem nx_set {c : ByteArray} {p : Nat} (hp : (p : Int) ≤ half c) : (∀ x, (x = nx1 c p ∨ x = nx2 c p) → ((p : Int) < half c ∧ x ∈ nxt c p) ∨ x = p) ∧ ((p : Int) < half c → ∀ x, x ∈ nxt c p → (x = nx1 c p ∨ x = nx2 c p)) := by
  constructor
  · intro x hx
    by_cases e : (p : Int) = half c
    · have h1 : nx1 c p = half c := if_pos e
      have h2 : nx2 c p = half c := if_pos e
      rw [h1, h2] at hx
      exact .inr (by omega)
    · have hlt : (p : Int) < half c := by omega
      exact .inl ⟨hlt, (mem_nxt hlt).2 hx⟩
  · intro hlt x hx
    exact (mem_nxt hlt).1 hx

theorem cntF_le {m m' : Nat → Bool} (h : ∀ j, m j = true → m' j = true) (k : Nat) : cntF m' k ≤ cntF m k := by
  induction k with
  | zero => exact Nat.le_refl _
  | succ k ih =>
    simp only [cntF]
    cases h1 : m k with
    | false => cases m' k <;> simp <;> omega
    | true => rw [h k h1]; simpa using ih

theorem cntF_bd (m : Nat → Bool) (k : Nat) : cntF m k ≤ k := by
  induction k with
  | zero => exact Nat.le_refl _
  | succ k ih => simp only [cntF]; split <;> omega

set_option maxHeartbeats 1600000 in
theorem follow_any (n bar : Int) (b o : Nat) (t v c : ByteArray) (hc : c.size ≤ maxLen) (hK : half c ≤ 200) (hr : Kp (Ranged c)) (k : Nat) : ∀ (m : Nat → Bool) (p : Nat) (w : World), cntF m 201 ≤ k → SetAt w b o m → (p : Int) ≤ half c →
    Calls Tryz.prog 116 #[.pointer (some ⟨b, o, none⟩), .agg #[.int .i64 n, .string t, .string v, .string c], .int .i64 p, .int .i64 bar] w fun e w' =>
      e = .returned (.tuple #[]) ∧ ∃ m' : Nat → Bool, SetAt w' b o m' ∧ But b w.heap.size w w' ∧ Fol c bar (One p) m m' := by
  induction k with
  | zero =>
    intro m p w hk hS hp
    have hm : m p = true := by
      cases h : m p
      · have := cntF_set (m := m) (k := 201) (j := p) (by omega) h
        omega
      · rfl
    have hF : Kp (Fol c bar (One p) m m) := ⟨Fol.nothing (fun _ => hm)⟩
    replace hS : Kp (SetAt w b o m) := ⟨hS⟩
    clear hk
    have bl := fun o => (Below.refl w.heap.size w).alloc (Nat.le_refl _) o
    by_cases hb : (p : Int) = bar
    · go_enter Tryz.func116, Tryz.ntmps116
      go_wp2_with fail
      first | go_end0 | refine bodyPost_ret (results_none rfl _ _ _) rfl ?_
      exact ⟨rfl, m, hS.out.step (bl _), But.of (bl _), hF.out⟩
    · have hb2 : ((p : Int) == bar) = false := beq_eq_false_iff_ne.2 hb
      go_enter Tryz.func116, Tryz.ntmps116
      go_wp2_with fail
      refine (add_old b o m p _ (hS.out.step (bl _)) (by omega) hm).mono ?_
      rintro e w1 ⟨rfl, rfl⟩
      go_wp2_with fail
      first | go_end0 | refine bodyPost_ret (results_none rfl _ _ _) rfl ?_
      exact ⟨rfl, m, hS.out.step (bl _), But.of (bl _), hF.out⟩
  | succ k ih =>
    intro m p w hk hS hp
    replace hS : Kp (SetAt w b o m) := ⟨hS⟩
    have bl := fun o => (Below.refl w.heap.size w).alloc (Nat.le_refl _) o
    by_cases hb : (p : Int) = bar
    · have hF : Kp (Fol c bar (One p) m m) := ⟨Fol.nothing (fun h => absurd hb h)⟩
      clear hk
      go_enter Tryz.func116, Tryz.ntmps116
      go_wp2_with fail
      first | go_end0 | refine bodyPost_ret (results_none rfl _ _ _) rfl ?_
      exact ⟨rfl, m, hS.out.step (bl _), But.of (bl _), hF.out⟩
    · have hb2 : ((p : Int) == bar) = false := beq_eq_false_iff_ne.2 hb
      cases hm : m p with
      | true =>
        have hF : Kp (Fol c bar (One p) m m) := ⟨Fol.nothing (fun _ => hm)⟩
        clear hk
        go_enter Tryz.func116, Tryz.ntmps116
        go_wp2_with fail
        refine (add_old b o m p _ (hS.out.step (bl _)) (by omega) hm).mono ?_
        rintro e w1 ⟨rfl, rfl⟩
        go_wp2_with fail
        first | go_end0 | refine bodyPost_ret (results_none rfl _ _ _) rfl ?_
        exact ⟨rfl, m, hS.out.step (bl _), But.of (bl _), hF.out⟩
      | false =>
        have hcnt : Kp (cntF (fun j => if j = p then true else m j) 201 ≤ k) := ⟨by have := cntF_set (m := m) (k := 201) (j := p) (by omega) hm; omega⟩
        have hnx := nx_in hr.out (k := p) (by omega) hp
        obtain ⟨⟨n1, n2⟩, n3, n4⟩ := hnx
        have o0 := Own.new4 w (.int .i64 n) (.string t) (.string v) (.string c) 76
        have hlt := hS.out.lt
        clear hk
        go_enter Tryz.func116, Tryz.ntmps116
        go_wp2_with fail
        refine (add_new b o m p _ (hS.out.step (bl _)) (by omega) hm).mono ?_
        rintro e w1 ⟨rfl, hw1⟩
        have hS1 : SetAt w1 b o (fun j => if j = p then true else m j) := by rw [hw1]; exact (hS.out.step (bl _)).set (by omega) true
        have hB1 : But b w.heap.size w w1 := by rw [hw1]; exact (But.of (bl _)).setCell _ _
        have hO1 : Own w1 w.heap.size [.int .i64 n, .string t, .string v, .string c] := by rw [hw1]; exact o0.but ((But.refl b _ _).setCell _ _) (by omega)
        clear hw1 o0
        have q0 := hO1.c 0 _ rfl
        have q1 := hO1.c 1 _ rfl
        have q2 := hO1.c 2 _ rfl
        have q3 := hO1.c 3 _ rfl
        go_wp2_with fail
        refine (behind_any n p t v c _ hc hK (by omega) hp).mono ?_
        rintro e w2 ⟨rfl, hb2'⟩
        have hS2 := hS1.step hb2'
        have hB2 := hB1.trans (But.of (hb2'.mono hB1.size))
        have hO2 := hO1.step hb2'
        clear q0 q1 q2 q3 hS1 hO1 hB1 hb2'
        have q0 := hO2.c 0 _ rfl
        have q1 := hO2.c 1 _ rfl
        have q2 := hO2.c 2 _ rfl
        have q3 := hO2.c 3 _ rfl
        have e1 : nx1 c p = ((nx1 c p).toNat : Nat) := by omega
        have e2 : nx2 c p = ((nx2 c p).toNat : Nat) := by omega
        replace e1 : Kp _ := ⟨e1⟩
        replace e2 : Kp _ := ⟨e2⟩
        go_wp2_with fail
        rw [e1.out]
        refine (ih _ (nx1 c p).toNat w2 hcnt.out hS2 (by omega)).mono ?_
        rintro e w3 ⟨rfl, m3, hS3, hB3, hF3⟩
        have hO3 := hO2.but hB3 (by omega)
        have hB13 := hB2.trans (hB3.mono hB2.size)
        replace hF3 : Kp _ := ⟨hF3⟩
        have hcnt3 : Kp (cntF m3 201 ≤ k) := ⟨Nat.le_trans (cntF_le hF3.out.more 201) hcnt.out⟩
        clear q0 q1 q2 q3 hS2 hO2 hB2 hB3
        have q0 := hO3.c 0 _ rfl
        have q1 := hO3.c 1 _ rfl
        have q2 := hO3.c 2 _ rfl
        have q3 := hO3.c 3 _ rfl
        go_wp2_with fail
        rw [e2.out]
        refine (ih _ (nx2 c p).toNat w3 hcnt3.out hS3 (by omega)).mono ?_
        rintro e w4 ⟨rfl, m4, hS4, hB4, hF4⟩
        replace hF4 : Kp _ := ⟨hF4⟩
        have hB14 := hB13.trans (hB4.mono hB13.size)
        go_wp2_with fail
        first | go_end0 | refine bodyPost_ret (results_none rfl _ _ _) rfl ?_
        refine ⟨rfl, m4, hS4, hB14, ?_⟩
        have hu := Fol.union hF3.out hF4.out
        have hx := nx_set (c := c) (p := p) hp
        refine Fol.step hr.out hp hb ?_ ?_ hu
        · intro x hx2
          refine hx.1 x ?_
          rcases hx2 with h | h
          · exact .inl (by have h : x = _ := h; rw [h]; exact e1.out.symm)
          · exact .inr (by have h : x = _ := h; rw [h]; exact e2.out.symm)
        · intro hlt x hx2
          rcases hx.2 hlt x hx2 with h | h
          · exact .inl (by show x = _; rw [h]; exact e1.out)
          · exact .inr (by show x = _; rw [h]; exact e2.out)

/-- n values in a row -/
def big (n : Nat) (f : Nat → Value) : Array Value := ((List.range n).map f).toArray

theorem big_size (n : Nat) (f : Nat → Value) : (big n f).size = n := by simp [big]
theorem big_get (n : Nat) (f : Nat → Value) (j : Nat) (h : j < n) : (big n f).toList[j]? = some (f j) := by
  simp [big, List.getElem?_range h]
theorem big_len (n : Nat) (f : Nat → Value) : (big n f).toList.length = n := by simp [big]
theorem big_ne (n : Nat) (f : Nat → Value) (h : n ≠ 0) : ¬ big n f = #[] := fun e => h (by have := congrArg Array.size e; rw [big_size] at this; simpa using this)
theorem big_mem {n : Nat} {f : Nat → Value} {v : Value} (h : v ∈ (big n f).toList) : ∃ j, j < n ∧ v = f j := by
  simp [big] at h
  obtain ⟨j, hj, e⟩ := h
  exact ⟨j, hj, e.symm⟩
theorem big_congr {n : Nat} {f g : Nat → Value} (h : ∀ j, j < n → f j = g j) : big n f = big n g := by
  unfold big
  congr 1
  exact List.map_congr_left (fun j hj => h j (by simpa using hj))

/-- a great value out of memory, and into it -/
theorem ld_big {P : Program} (w : World) (b o n : Nat) (f : Nat → Value) (h : ∀ j, j < n → w.cell? ⟨b, o + j, none⟩ = some (f j)) :
    (loadCellsFrom ⟨b, o, none⟩ 0 n #[]).run P w = .ok (big n f) w := by
  have hl : (loadCells ⟨b, o, none⟩ ((List.range n).map f).length).run P w = .ok ((List.range n).map f).toArray w :=
    run_loadCells_list (P := P) w ⟨b, o, none⟩ ((List.range n).map f) (fun j v hv => by
      have hadd : (⟨b, o, none⟩ : Addr).add j = ⟨b, o + j, none⟩ := by unfold Addr.add; split <;> simp_all
      rw [List.getElem?_map] at hv
      by_cases hj : j < n
      · rw [List.getElem?_range hj] at hv
        rw [hadd, h j hj]
        simpa using hv
      · rw [List.getElem?_eq_none (by simp; omega)] at hv
        simp at hv)
  rw [List.length_map, List.length_range] at hl
  exact hl

theorem st_big {P : Program} (w : World) (b o n : Nat) (f : Nat → Value) (h : ∀ j, j < n → (w.cell? ⟨b, o + j, none⟩).isSome = true) (hf : ∀ j, j < n → w.frozen? ⟨b, o + j, none⟩ = false) (h1 : ∀ j, j < n → (f j).oneCell' = true) :
    (storeCells ⟨b, o, none⟩ (big n f).toList 0).run P w = .ok () (w.setCells b o (big n f).toList) := by
  have hl := run_storeCells_cells (P := P) b o (big n f).toList 0 w (by rw [big_len]; simpa using h) (by rw [big_len]; simpa using hf) (fun v hv => by obtain ⟨j, hj, e⟩ := big_mem hv; rw [e]; exact h1 j hj)
  rw [Nat.add_zero] at hl
  exact hl

theorem st_big_cell (w : World) (b o n : Nat) (f : Nat → Value) (h : ∀ j, j < n → (w.cell? ⟨b, o + j, none⟩).isSome = true) (j : Nat) (hj : j < n) : (w.setCells b o (big n f).toList).cell? ⟨b, o + j, none⟩ = some (f j) := by
  have := World.cell?_setCells_in b (big n f).toList o w (by rw [big_len]; exact h) j (by rw [big_len]; exact hj)
  rw [this]
  have h2 := big_get n f j hj
  rw [List.getElem?_eq_getElem (by rw [big_len]; exact hj)] at h2
  exact h2

theorem load_big {P : Program} (w : World) (ty : TypeId) (d : TypeDesc) (b o n : Nat) (f : Nat → Value) (hu : P.underlying ty = some d) (hd : (match d with | .struct _ | .array _ _ => true | _ => false) = true) (hi : (P.info? ty).map (·.size) = some n) (h : ∀ j, j < n → w.cell? ⟨b, o + j, none⟩ = some (f j)) :
    (loadVar ty ⟨b, o, none⟩).run P w = .ok (.agg (big n f)) w := by
  have hl : (loadCells ⟨b, o, none⟩ n).run P w = .ok (big n f) w := ld_big w b o n f h
  cases hq : P.info? ty with
  | none => simp [hq] at hi
  | some i =>
    have hs : i.size = n := by simpa [hq] using hi
    have hagg : (isAgg ty).run P w = .ok true w := by
      unfold isAgg
      rw [Sem.run_bind, run_underlying hu w]
      cases d <;> simp_all
    simp [loadVar, Sem.run_bind, hagg, sizeOf, typeInfo, hq, hs, hl]

theorem wp_load_big {P : Program} {op : Oper} {a : Act} {w : World} {K : Act → World → Prop} {Q : Exit → Act → World → Prop} (ty : TypeId) (x : Operand) (ho : op.op = .load ty x)
    (b o n : Nat) (f : Nat → Value) (hx : a.eval x = .pointer (some ⟨b, o, none⟩)) (d : TypeDesc) (hu : P.underlying ty = some d) (hd : (match d with | .struct _ | .array _ _ => true | _ => false) = true) (hi : (P.info? ty).map (·.size) = some n)
    (hc : ∀ j, j < n → w.cell? ⟨b, o + j, none⟩ = some (f j)) (h : K (a.put op.dst (.agg (big n f))) w) : op.wp P a w K Q := by
  unfold Oper.wp execOp
  simp only [ho, hx, Instr.loadAt, Instr.sureAddr, Sem.run_bind, Sem.run_pure, load_big w ty d b o n f hu hd hi hc, Result.andThen_ok]
  exact h

theorem wp_store_big {P : Program} {op : Oper} {a : Act} {w : World} {K : Act → World → Prop} {Q : Exit → Act → World → Prop} (ty : TypeId) (x y : Operand) (ho : op.op = .store ty x y)
    (b o n : Nat) (f : Nat → Value) (hx : a.eval x = .pointer (some ⟨b, o, none⟩)) (hy : a.eval y = .agg (big n f)) (hi : (P.info? ty).map (·.size) = some n)
    (hc : ∀ j, j < n → (w.cell? ⟨b, o + j, none⟩).isSome = true) (hf : ∀ j, j < n → w.frozen? ⟨b, o + j, none⟩ = false) (h1 : ∀ j, j < n → (f j).oneCell' = true) (h : K (a.put op.dst undef) (w.setCells b o (big n f).toList)) : op.wp P a w K Q := by
  have hl := st_big (P := P) w b o n f hc hf h1
  unfold Oper.wp execOp
  cases hq : P.info? ty with
  | none => simp [hq] at hi
  | some i =>
    have hs : i.size = n := by simpa [hq] using hi
    simp [ho, hx, hy, Instr.storeAt, Instr.sureAddr, storeVar, sizeOf, typeInfo, hq, Value.cells, hs, hl, big_size]
    exact h

theorem results_cell_big {P : Program} {fn : Func} {p : Tmp} {ty : TypeId} (h : fn.results = #[.cell p ty]) (tmps : Array Value) (w : World) (b o n : Nat) (f : Nat → Value) (d : TypeDesc)
    (hp : tmps.getD p undef = .pointer (some ⟨b, o, none⟩)) (hu : P.underlying ty = some d) (hd : (match d with | .struct _ | .array _ _ => true | _ => false) = true) (hi : (P.info? ty).map (·.size) = some n)
    (hc : ∀ j, j < n → w.cell? ⟨b, o + j, none⟩ = some (f j)) : (results fn tmps).run P w = .ok (.agg (big n f)) w := by
  have hp' : tmps[p]?.getD undef = .pointer (some ⟨b, o, none⟩) := by simpa using hp
  simp [results, h, hp', asAddr, load_big w ty d b o n f hu hd hi hc]

theorem below_cells {B b : Nat} {x w : World} (h : Below B x w) (hB : B ≤ b) (vs : List Value) : ∀ o, Below B x (w.setCells b o vs) := by
  induction vs generalizing w with
  | nil => exact fun _ => h
  | cons v r ih => exact fun o => ih (h.setCell (p := ⟨b, o, none⟩) hB v) (o + 1)

theorem but_cells {B b : Nat} {x w : World} (h : But b B x w) (vs : List Value) : ∀ o, But b B x (w.setCells b o vs) := by
  induction vs generalizing w with
  | nil => exact fun _ => h
  | cons v r ih => exact fun o => ih (h.setCell o v) (o + 1)

theorem setRow_self (w : World) (g : Nat) (cs : Array Value) (t : TypeId) (hg : w.heap[g]? = some (.cells cs t (0, 0))) : w.setRow g cs = w := by
  have h := run_storeCells_from (P := Tryz.prog) g t [] cs.size cs w hg (by simp) (by simp)
  simp only [storeCells, List.append_nil] at h
  rw [show cs.toList.take cs.size = cs.toList from List.take_of_length_le (by simp), Array.toArray_toList] at h
  have h2 : Result.ok () w = Result.ok () (w.setRow g cs) := h
  injection h2 with _ h3
  exact h3.symm

theorem store_same (w : World) (g : Nat) (cs : Array Value) (t : TypeId) (hg : w.heap[g]? = some (.cells cs t (0, 0))) (h1 : cs.all (·.oneCell') = true) :
    (storeCells ⟨g, 0, none⟩ cs.toList 0).run Tryz.prog w = .ok () w := by
  have h := run_storeCells_from (P := Tryz.prog) g t cs.toList 0 cs w hg (by simp) (fun v hv => (Array.all_eq_true_iff_forall_mem.1 h1) v (by simpa using hv))
  rw [h]
  simp only [List.take_zero, List.nil_append, Array.toArray_toList]
  rw [setRow_self w g cs t hg]

theorem one_rep (n : Nat) (v : Value) (h : v.oneCell' = true) : (Array.replicate n v).all (·.oneCell') = true := by
  rw [Array.all_eq_true]
  intro i hi
  simp [h]

theorem row3 (w : World) (o1 o2 o3 : Obj) : (((w.alloc o1).alloc o2).alloc o3).heap[w.heap.size + 1 + 1]? = some o3 := by
  have h := heap_alloc_last ((w.alloc o1).alloc o2) o3
  rw [show ((w.alloc o1).alloc o2).heap.size = w.heap.size + 1 + 1 from by simp] at h
  exact h
theorem row2 (w : World) (o1 o2 o3 : Obj) : (((w.alloc o1).alloc o2).alloc o3).heap[w.heap.size + 1]? = some o2 := by
  rw [Below.heap_alloc ((w.alloc o1).alloc o2) o3 (w.heap.size + 1) (by simp)]
  have h := heap_alloc_last (w.alloc o1) o2
  rw [show (w.alloc o1).heap.size = w.heap.size + 1 from by simp] at h
  exact h

theorem SetAt.of_row {w : World} {g : Nat} {t : TypeId} (hg : w.heap[g]? = some (.cells (Array.replicate 201 (.bool false)) t (0, 0))) : SetAt w g 0 (fun _ => false) := by
  refine ⟨(Array.getElem?_eq_some_iff.1 hg).1, fun j hj => ?_, fun j hj => ?_⟩
  · rw [Nat.zero_add, cell_of_row w g j _ t (0, 0) hg, Array.getElem?_replicate, if_pos hj]
  · simp [World.frozen?, hg]

theorem zero_set : Tryz.zeroCells134 = Array.replicate 201 (.bool false) := by rfl

end Go.Proofs.YtcnbifdlkalimabGreat

/-
  The plain mathematics of ways to the end: a way for each place, narrowed until it has just the places that are on every path; that the narrowing ends; no condition but those that stand in each lemma.
-/
namespace Go.Proofs.YtcnbifdlkalimabGreat
open Go.RowKit

def upd (f : Int → Int) (p v : Int) : Int → Int := fun x => if x = p then v else f x
theorem upd_at (f : Int → Int) (p v : Int) : upd f p v p = v := if_pos rfl
theorem upd_ne {f : Int → Int} {p v x : Int} (h : x ≠ p) : upd f p v x = f x := if_neg h
theorem upd_same {f : Int → Int} {p v : Int} (h : v = f p) : upd f p v = f := by
  funext x
  by_cases e : x = p
  · rw [e, upd_at, h]
  · rw [upd_ne e]

/-- d is on the way that goes from x along a -/
def OnWay (c : ByteArray) (a : Int → Int) (x d : Int) : Prop := ∀ P : Int → Prop, P x → (∀ y, P y → y ≠ half c → P (a y)) → P d

theorem OnWay.refl (c : ByteArray) (a : Int → Int) (x : Int) : OnWay c a x x := fun _ h _ => h
theorem OnWay.snoc {c : ByteArray} {a : Int → Int} {x y : Int} (h : OnWay c a x y) (hy : y ≠ half c) : OnWay c a x (a y) := fun P h0 h1 => h1 y (h P h0 h1) hy
theorem OnWay.trans {c : ByteArray} {a : Int → Int} {x y z : Int} (h : OnWay c a x y) (k : OnWay c a y z) : OnWay c a x z :=
  k (fun z => OnWay c a x z) h (fun _ hy hne => hy.snoc hne)
theorem OnWay.head {c : ByteArray} {a : Int → Int} {x d : Int} (hx : x ≠ half c) (h : OnWay c a (a x) d) : OnWay c a x d := ((OnWay.refl c a x).snoc hx).trans h
theorem OnWay.cases {c : ByteArray} {a : Int → Int} {x d : Int} (h : OnWay c a x d) : d = x ∨ (x ≠ half c ∧ OnWay c a (a x) d) :=
  h (fun d => d = x ∨ (x ≠ half c ∧ OnWay c a (a x) d)) (.inl rfl) (fun y hy hne => by
    rcases hy with rfl | ⟨hx, hy⟩
    · exact .inr ⟨hne, OnWay.refl _ _ _⟩
    · exact .inr ⟨hx, hy.snoc hne⟩)

/-- what is kept of the ways -/
structure WOk (c : ByteArray) (t a : Int → Int) : Prop where
  nn : ∀ x, 0 ≤ t x
  fin : t (half c) = 1
  pos : ∀ x, 0 < t x → 0 ≤ x ∧ x ≤ half c
  inj : ∀ x y, 0 < t x → t x = t y → x = y
  down : ∀ x, 0 < t x → x ≠ half c → 0 < t (a x) ∧ t (a x) < t x
  edge : ∀ x, 0 < t x → x ≠ half c → ∃ q, q ∈ nxt c x ∧ 0 < t q ∧ t q < t x
  via : ∀ x d, 0 < t x → x ≠ half c → d ≠ x → t d < t (a x) → Reach c (One x) d (a x)
  dom : ∀ x d, 0 < t x → x ≠ half c → d ≠ x → OnAll c x d → d = a x ∨ t d < t (a x)
  lone : ∀ x q, 0 < t x → x ≠ half c → q ∈ nxt c x → t q = 0 → a x ∈ nxt c x
  full : ∀ x q, 0 ≤ x → x < half c → q ∈ nxt c x → 0 < t q → 0 < t x
  ends : ∀ x, 0 < t x → Reach c (One x) (-1) (half c)

theorem way_pos {c : ByteArray} {t a : Int → Int} (H : WOk c t a) {x d : Int} (hx : 0 < t x) (h : OnWay c a x d) : 0 < t d ∧ (d = x ∨ t d < t x) :=
  h (fun d => 0 < t d ∧ (d = x ∨ t d < t x)) ⟨hx, .inl rfl⟩ (fun y hy hne => by
    have hd := H.down y hy.1 hne
    refine ⟨hd.1, .inr ?_⟩
    rcases hy.2 with rfl | h2
    · exact hd.2
    · omega)

theorem way_le {c : ByteArray} {t a : Int → Int} (H : WOk c t a) {x d : Int} (hx : 0 < t x) (h : OnWay c a x d) : t d ≤ t x := by
  rcases (way_pos H hx h).2 with rfl | h2
  · exact Int.le_refl _
  · omega

theorem way_via {c : ByteArray} {t a : Int → Int} (H : WOk c t a) {x y d : Int} (hx : 0 < t x) (h : OnWay c a x y) (hd : d ≠ x) (hlt : t d < t y) : Reach c (One x) d y :=
  (h (fun y => 0 < t y ∧ (t d < t y → Reach c (One x) d y)) ⟨hx, fun _ => Reach.start rfl (fun e => hd e.symm)⟩ (fun y hy hne => by
    have hdn := H.down y hy.1 hne
    refine ⟨hdn.1, fun hl => ?_⟩
    exact (hy.2 (by omega)).trans (H.via y d hy.1 hne (fun e => by subst e; omega) hl))).2 hlt

/-- what lies on every path is on the way -/
theorem on_way {c : ByteArray} {t a : Int → Int} (H : WOk c t a) : ∀ n : Nat, ∀ x d : Int, t x ≤ n → 0 < t x → d ≠ x → OnAll c x d → OnWay c a x d := by
  intro n
  induction n with
  | zero => intro x d h1 h2; omega
  | succ n ih =>
    intro x d h1 h2 hne hon
    by_cases hK : x = half c
    · exact absurd (Reach.start (c := c) (S := One x) (wall := d) (i := half c) hK.symm (fun e => hne (by rw [hK]; exact e.symm))) hon
    · have hdn := H.down x h2 hK
      rcases H.dom x d h2 hK hne hon with rfl | hlt
      · exact (OnWay.refl _ _ _).snoc hK
      · refine OnWay.head hK (ih (a x) d (by omega) hdn.1 (fun e => by rw [e] at hlt; omega) (fun hR => hon ?_))
        exact (H.via x d h2 hK hne hlt).trans hR

theorem onall_step {c : ByteArray} {x q d : Int} (h0 : 0 ≤ x) (h1 : x < half c) (hon : OnAll c x d) (hne : d ≠ x) (hq : q ∈ nxt c x) : q = d ∨ OnAll c q d := by
  by_cases e : q = d
  · exact .inl e
  · exact .inr (fun hR => hon (((Reach.start (S := One x) rfl (fun e => hne e.symm)).step ⟨h0, h1, hq⟩ e).trans hR))

theorem nxt_some (c : ByteArray) (x : Int) : ∃ q, q ∈ nxt c x := by
  unfold nxt
  split
  · exact ⟨_, List.mem_singleton.2 rfl⟩
  · split
    · exact ⟨x + 1, by simp⟩
    · exact ⟨x + 1, by simp⟩

/-- m is where the ways of the places behind x meet -/
structure MeetAt (c : ByteArray) (t a : Int → Int) (x m : Int) : Prop where
  here : ∀ q, q ∈ nxt c x → 0 < t q ∧ OnWay c a q m
  low : ∀ d, (∀ q, q ∈ nxt c x → OnWay c a q d) → OnWay c a m d

theorem MeetAt.own {c : ByteArray} {t a : Int → Int} (H : WOk c t a) {x m : Int} (h0 : 0 ≤ x) (h1 : x < half c) (M : MeetAt c t a x m) : 0 < t x ∧ 0 < t m ∧ t m < t x := by
  obtain ⟨q, hq⟩ := nxt_some c x
  have hx := H.full x q h0 h1 hq (M.here q hq).1
  obtain ⟨q2, hq2, _, hl⟩ := H.edge x hx (by omega)
  have h2 := M.here q2 hq2
  have := way_le H h2.1 h2.2
  exact ⟨hx, (way_pos H h2.1 h2.2).1, by omega⟩

theorem ways_move {c : ByteArray} {t a : Int → Int} (H : WOk c t a) {x m : Int} (h0 : 0 ≤ x) (h1 : x < half c) (M : MeetAt c t a x m) : WOk c t (upd a x m) := by
  obtain ⟨hx, hm, hlt⟩ := M.own H h0 h1
  refine ⟨H.nn, H.fin, H.pos, H.inj, fun y hy hne => ?_, H.edge, fun y d hy hne hd hl => ?_, fun y d hy hne hd hon => ?_, fun y q hy hne hq hq0 => ?_, H.full, H.ends⟩
  · by_cases e : y = x
    · subst e; rw [upd_at]; exact ⟨hm, hlt⟩
    · rw [upd_ne e]; exact H.down y hy hne
  · by_cases e : y = x
    · subst e
      rw [upd_at] at hl ⊢
      obtain ⟨q, hq⟩ := nxt_some c y
      have hh := M.here q hq
      have hle := way_le H hh.1 hh.2
      have hqd : q ≠ d := fun e => by subst e; omega
      exact ((Reach.start (S := One y) rfl (fun e => hd e.symm)).step ⟨h0, h1, hq⟩ hqd).trans (way_via H hh.1 hh.2 (fun e => hqd e.symm) hl)
    · rw [upd_ne e] at hl ⊢; exact H.via y d hy hne hd hl
  · by_cases e : y = x
    · subst e
      rw [upd_at]
      have hw := M.low d (fun q hq => by
        rcases onall_step h0 h1 hon hd hq with rfl | ho
        · exact OnWay.refl _ _ _
        · by_cases e : d = q
          · rw [e]; exact OnWay.refl _ _ _
          · exact on_way H (t q).toNat q d (by have := H.nn q; omega) (M.here q hq).1 e ho)
      exact (way_pos H hm hw).2
    · rw [upd_ne e]; exact H.dom y d hy hne hd hon
  · by_cases e : y = x
    · subst e
      have := (M.here q hq).1
      omega
    · rw [upd_ne e]; exact H.lone y q hy hne hq hq0

/-- while ways are found -/
structure GOk (c : ByteArray) (t a : Int → Int) (n : Int) : Prop where
  nn : ∀ x, 0 ≤ t x
  fin : t (half c) = 1
  pos : ∀ x, 0 < t x → 0 ≤ x ∧ x ≤ half c
  inj : ∀ x y, 0 < t x → t x = t y → x = y
  top : ∀ x, t x ≤ n
  down : ∀ x, 0 < t x → x ≠ half c → a x ∈ nxt c x ∧ 0 < t (a x) ∧ t (a x) < t x

theorem grow_begin (c : ByteArray) : GOk c (upd (fun _ => 0) (half c) 1) (upd (fun _ => 0) (half c) (half c)) 1 := by
  have hh := (half_bd c).1
  have h0 : ∀ x, upd (fun _ => 0) (half c) 1 x = 0 ∨ (x = half c ∧ upd (fun _ => 0) (half c) 1 x = 1) := fun x => by
    by_cases e : x = half c
    · subst e; exact .inr ⟨rfl, upd_at _ _ _⟩
    · exact .inl (upd_ne e)
  refine ⟨fun x => ?_, upd_at _ _ _, fun x hx => ?_, fun x y hx hxy => ?_, fun x => ?_, fun x hx hne => ?_⟩
  · rcases h0 x with h | ⟨_, h⟩ <;> omega
  · rcases h0 x with h | ⟨h, _⟩ <;> omega
  · rcases h0 x with h | ⟨h, h2⟩
    · omega
    · rcases h0 y with k | ⟨k, k2⟩
      · omega
      · omega
  · rcases h0 x with h | ⟨_, h⟩ <;> omega
  · rcases h0 x with h | ⟨h, _⟩ <;> omega

theorem grow_add {c : ByteArray} {t a : Int → Int} {n p q : Int} (H : GOk c t a n) (h0 : 0 ≤ p) (h1 : p < half c) (hp : t p = 0) (hq : q ∈ nxt c p) (hq0 : 0 < t q) : GOk c (upd t p (n + 1)) (upd a p q) (n + 1) := by
  have hn : 1 ≤ n := by have := H.top (half c); rw [H.fin] at this; exact this
  have hqp : q ≠ p := fun e => by rw [e, hp] at hq0; omega
  refine ⟨fun x => ?_, ?_, fun x hx => ?_, fun x y hx hxy => ?_, fun x => ?_, fun x hx hne => ?_⟩
  · by_cases e : x = p
    · subst e; rw [upd_at]; omega
    · rw [upd_ne e]; exact H.nn x
  · rw [upd_ne (by omega)]; exact H.fin
  · by_cases e : x = p
    · omega
    · rw [upd_ne e] at hx; exact H.pos x hx
  · by_cases e : x = p
    · by_cases k : y = p
      · omega
      · subst e
        rw [upd_at, upd_ne k] at hxy
        have := H.top y
        omega
    · by_cases k : y = p
      · subst k
        rw [upd_at, upd_ne e] at hxy
        have := H.top x
        omega
      · rw [upd_ne e] at hx
        rw [upd_ne e, upd_ne k] at hxy
        exact H.inj x y hx hxy
  · by_cases e : x = p
    · subst e; rw [upd_at]; omega
    · rw [upd_ne e]; have := H.top x; omega
  · by_cases e : x = p
    · subst e
      rw [upd_at, upd_at, upd_ne hqp]
      have := H.top q
      exact ⟨hq, hq0, by omega⟩
    · rw [upd_ne e] at hx
      have hd := H.down x hx hne
      have ha : a x ≠ p := fun k => by rw [k, hp] at hd; omega
      rw [upd_ne e, upd_ne e, upd_ne ha]
      exact hd

theorem grow_done {c : ByteArray} {t a : Int → Int} {n : Int} (H : GOk c t a n) (hfull : ∀ x q, 0 ≤ x → x < half c → q ∈ nxt c x → 0 < t q → 0 < t x) : WOk c t a := by
  have ed : ∀ x, 0 < t x → x ≠ half c → Edge c x (a x) := fun x hx hne => by
    have := H.pos x hx
    exact ⟨this.1, by omega, (H.down x hx hne).1⟩
  have hends : ∀ n : Nat, ∀ x, t x ≤ n → 0 < t x → Reach c (One x) (-1) (half c) := by
    intro n
    induction n with
    | zero => intro x h1 h2; omega
    | succ n ih =>
      intro x h1 h2
      have hp := H.pos x h2
      by_cases e : x = half c
      · exact Reach.start e.symm (by omega)
      · have hd := H.down x h2 e
        exact ((Reach.start (S := One x) rfl (by omega)).step (ed x h2 e) (by have := H.pos _ hd.2.1; omega)).trans (ih (a x) (by omega) hd.2.1)
  have hdom : ∀ n : Nat, ∀ x d, t x ≤ n → 0 < t x → d ≠ x → OnAll c x d → t d < t x := by
    intro n
    induction n with
    | zero => intro x d h1 h2; omega
    | succ n ih =>
      intro x d h1 h2 hne hon
      by_cases e : x = half c
      · exact absurd (Reach.start (c := c) (S := One x) (wall := d) (i := half c) e.symm (fun k => hne (by rw [e]; exact k.symm))) hon
      · have hd := H.down x h2 e
        have hp := H.pos x h2
        by_cases k : d = a x
        · subst k; exact hd.2.2
        · rcases onall_step hp.1 (by omega) hon hne hd.1 with h | h
          · exact absurd h.symm k
          · have := ih (a x) d (by omega) hd.2.1 k h
            omega
  refine ⟨H.nn, H.fin, H.pos, H.inj, fun x hx hne => (H.down x hx hne).2, fun x hx hne => ⟨a x, H.down x hx hne⟩, fun x d hx hne hd hl => ?_, fun x d hx hne hd hon => ?_, fun x q hx hne _ _ => (H.down x hx hne).1, hfull, fun x hx => hends (t x).toNat x (by omega) hx⟩
  · exact (Reach.start (S := One x) rfl (fun e => hd e.symm)).step (ed x hx hne) (fun e => by rw [e] at hl; omega)
  · have hp := H.pos x hx
    have hdn := H.down x hx hne
    by_cases k : d = a x
    · exact .inl k
    · rcases onall_step hp.1 (by omega) hon hd hdn.1 with h | h
      · exact absurd h.symm k
      · exact .inr (hdom (t (a x)).toNat (a x) d (by omega) hdn.2.1 k h)
end Go.Proofs.YtcnbifdlkalimabGreat

/-
  The plain mathematics of ways to the end, second part: that the narrowing ends, and that what it leaves is the junction; no condition but those that stand in each lemma.
-/
namespace Go.Proofs.YtcnbifdlkalimabGreat
open Go.RowKit

/-- one round of the bound that the ways keep below -/
def stepU (c : ByteArray) (t : Int → Int) (U : Int → Int → Bool) (x d : Int) : Bool :=
  decide (x = d) || (decide (x ≠ half c) && (nxt c x).all (fun q => decide (t q = 0) || U q d))

theorem stepU_iff {c : ByteArray} {t : Int → Int} {U : Int → Int → Bool} {x d : Int} : stepU c t U x d = true ↔ x = d ∨ (x ≠ half c ∧ ∀ q, q ∈ nxt c x → t q = 0 ∨ U q d = true) := by
  unfold stepU
  rw [Bool.or_eq_true, Bool.and_eq_true, decide_eq_true_iff, decide_eq_true_iff, List.all_eq_true]
  constructor
  · rintro (h | ⟨h1, h2⟩)
    · exact .inl h
    · refine .inr ⟨h1, fun q hq => ?_⟩
      have := h2 q hq
      rw [Bool.or_eq_true, decide_eq_true_iff] at this
      exact this
  · rintro (h | ⟨h1, h2⟩)
    · exact .inl h
    · refine .inr ⟨h1, fun q hq => ?_⟩
      rw [Bool.or_eq_true, decide_eq_true_iff]
      exact h2 q hq

structure UOk (c : ByteArray) (t : Int → Int) (U : Int → Int → Bool) : Prop where
  trans : ∀ x y d, U x y = true → U y d = true → U x d = true
  dec : ∀ x d, stepU c t U x d = true → U x d = true

theorem UOk.begin (c : ByteArray) (t : Int → Int) : UOk c t (fun _ _ => true) := ⟨fun _ _ _ _ _ => rfl, fun _ _ _ => rfl⟩

theorem UOk.step {c : ByteArray} {t : Int → Int} {U : Int → Int → Bool} (H : UOk c t U) : UOk c t (stepU c t U) := by
  refine ⟨fun x y d h1 h2 => ?_, fun x d h => ?_⟩
  · rcases stepU_iff.1 h1 with rfl | ⟨hx, h3⟩
    · exact h2
    · refine stepU_iff.2 (.inr ⟨hx, fun q hq => ?_⟩)
      rcases h3 q hq with h | h
      · exact .inl h
      · exact .inr (H.trans q y d h (H.dec y d h2))
  · rcases stepU_iff.1 h with rfl | ⟨hx, h3⟩
    · exact stepU_iff.2 (.inl rfl)
    · refine stepU_iff.2 (.inr ⟨hx, fun q hq => ?_⟩)
      rcases h3 q hq with h | h
      · exact .inl h
      · exact .inr (H.dec q d h)

theorem stepU_snoc {c : ByteArray} {t : Int → Int} {U : Int → Int → Bool} (H : UOk c t U) {y z e : Int} (h : stepU c t U y z = true) (hne : y ≠ z) (hu : U z e = true) : stepU c t U y e = true := by
  rcases stepU_iff.1 h with rfl | ⟨hx, h3⟩
  · exact absurd rfl hne
  · refine stepU_iff.2 (.inr ⟨hx, fun q hq => ?_⟩)
    rcases h3 q hq with h | h
    · exact .inl h
    · exact .inr (H.trans q z e h hu)

/-- the ways keep below U; those from place k on below the next round's -/
structure Pass (c : ByteArray) (t a : Int → Int) (U : Int → Int → Bool) (k : Int) : Prop where
  sub : ∀ x d, 0 < t x → OnWay c a x d → U x d = true
  done : ∀ x d, k ≤ x → 0 < t x → OnWay c a x d → stepU c t U x d = true

theorem pass_move {c : ByteArray} {t a : Int → Int} {U : Int → Int → Bool} (H : WOk c t a) (hU : UOk c t U) {x m : Int} (h0 : 0 ≤ x) (h1 : x < half c) (M : MeetAt c t a x m) (P : Pass c t a U (x + 1)) : Pass c t (upd a x m) U x := by
  have H2 := ways_move H h0 h1 M
  have hxm : stepU c t U x m = true := stepU_iff.2 (.inr ⟨by omega, fun q hq => .inr (P.sub q m (M.here q hq).1 (M.here q hq).2)⟩)
  have hs : ∀ z, 0 < t z → z ≠ half c → U z (upd a x m z) = true := fun z hz hne => by
    by_cases e : z = x
    · subst e; rw [upd_at]; exact hU.dec _ _ hxm
    · rw [upd_ne e]; exact P.sub z _ hz ((OnWay.refl _ _ _).snoc hne)
  refine ⟨fun y d hy hw => ?_, fun y d hk hy hw => ?_⟩
  · exact (hw (fun z => 0 < t z ∧ U y z = true) ⟨hy, P.sub y y hy (OnWay.refl _ _ _)⟩ (fun z hz hne => ⟨(H2.down z hz.1 hne).1, hU.trans y z _ hz.2 (hs z hz.1 hne)⟩)).2
  · refine (hw (fun z => 0 < t z ∧ stepU c t U y z = true) ⟨hy, stepU_iff.2 (.inl rfl)⟩ (fun z hz hne => ⟨(H2.down z hz.1 hne).1, ?_⟩)).2
    by_cases e : y = z
    · subst e
      by_cases k : y = x
      · subst k; rw [upd_at]; exact hxm
      · rw [upd_ne k]; exact P.done y _ (by omega) hy ((OnWay.refl _ _ _).snoc hne)
    · exact stepU_snoc hU hz.2 e (hs z hz.1 hne)

theorem pass_keep {c : ByteArray} {t a : Int → Int} {U : Int → Int → Bool} (H : WOk c t a) (hU : UOk c t U) {x q0 : Int} (hq : q0 ∈ nxt c x) (hq0 : t q0 = 0) (P : Pass c t a U (x + 1)) : Pass c t a U x := by
  refine ⟨P.sub, fun y d hk hy hw => ?_⟩
  by_cases k : y = x
  · subst k
    have hs : ∀ z, 0 < t z → z ≠ half c → U z (a z) = true := fun z hz hne => P.sub z _ hz ((OnWay.refl _ _ _).snoc hne)
    refine (hw (fun z => 0 < t z ∧ stepU c t U y z = true) ⟨hy, stepU_iff.2 (.inl rfl)⟩ (fun z hz hne => ⟨(H.down z hz.1 hne).1, ?_⟩)).2
    by_cases e : y = z
    · subst e
      have hl := H.lone y q0 hy hne hq hq0
      have hp := (H.down y hy hne).1
      refine stepU_iff.2 (.inr ⟨hne, fun q hq2 => ?_⟩)
      by_cases e : q = a y
      · rw [e]; exact .inr (P.sub _ _ hp (OnWay.refl _ _ _))
      · refine .inl ?_
        have h3 : q0 ≠ a y := fun e => by rw [e] at hq0; omega
        suffices q = q0 by rw [this]; exact hq0
        clear hq0 hs hw hz P H hU hp
        unfold nxt at hq hq2 hl
        split at hq
        · rename_i h8
          rw [if_pos h8] at hq2 hl
          simp only [List.mem_singleton] at hq hq2
          omega
        · rename_i h8
          rw [if_neg h8] at hq2 hl
          split at hq
          · rename_i h9
            rw [if_pos h9] at hq2 hl
            simp only [List.mem_cons, or_false, List.not_mem_nil] at hq hq2 hl
            omega
          · rename_i h9
            rw [if_neg h9] at hq2 hl
            simp only [List.mem_singleton] at hq hq2
            omega
    · exact stepU_snoc hU hz.2 e (hs z hz.1 hne)
  · exact P.done y d (by omega) hy hw

theorem pass_begin {c : ByteArray} {t a : Int → Int} {U : Int → Int → Bool} (H : WOk c t a) (hs : ∀ x d, 0 < t x → OnWay c a x d → U x d = true) : Pass c t a U (half c) := by
  refine ⟨hs, fun x d hk hx hw => ?_⟩
  have hp := H.pos x hx
  have e : x = half c := by omega
  rcases hw.cases with h | ⟨h, _⟩
  · exact stepU_iff.2 (.inl h.symm)
  · exact absurd e h

/-- where the bound turns no more, no way does -/
theorem fix_stays {c : ByteArray} {t a : Int → Int} {U : Int → Int → Bool} (H : WOk c t a) (hU : UOk c t U) (hs : ∀ x d, 0 < t x → OnWay c a x d → U x d = true) (hfix : ∀ x d, 0 ≤ x → x ≤ half c → 0 ≤ d → d ≤ half c → U x d = true → stepU c t U x d = true)
    {x m : Int} (h0 : 0 ≤ x) (h1 : x < half c) (M : MeetAt c t a x m) : m = a x := by
  obtain ⟨hx, hm, hlt⟩ := M.own H h0 h1
  have hmp := H.pos m hm
  have hax := (H.down x hx (by omega))
  have hap := H.pos (a x) hax.1
  have key : ∀ y d, 0 < t y → 0 ≤ d → d ≤ half c → U y d = true → OnWay c a y d := by
    intro y d hy hd0 hd1 hu
    by_cases e : d = y
    · rw [e]; exact OnWay.refl _ _ _
    · refine on_way H (t y).toNat y d (by omega) hy e (fun hR => ?_)
      have := hR (fun z => (0 < t z → U z d = true) ∧ z ≠ d) (fun z hz hzd => ⟨fun _ => by rw [show z = y from hz]; exact hu, hzd⟩) (fun z z2 hz he hzd => ⟨fun hz2 => ?_, hzd⟩)
      · have hK := this.1 (by rw [H.fin]; omega)
        have hh := (half_bd c).1
        rcases stepU_iff.1 (hfix (half c) d hh (Int.le_refl _) hd0 hd1 hK) with h | ⟨h, _⟩
        · exact this.2 h
        · exact h rfl
      · have hz1 := H.full z z2 he.1 he.2.1 he.2.2 hz2
        rcases stepU_iff.1 (hfix z d he.1 (by have := he.2.1; omega) hd0 hd1 (hz.1 hz1)) with h | ⟨_, h⟩
        · exact absurd h hz.2
        · rcases h z2 he.2.2 with h | h
          · omega
          · exact h
  have hmx : m ≠ x := fun e => by rw [e] at hlt; omega
  -- a x is common
  have hcom : ∀ q, q ∈ nxt c x → OnWay c a q (a x) := fun q hq => by
    have hu := hs x (a x) hx ((OnWay.refl _ _ _).snoc (by omega))
    rcases stepU_iff.1 (hfix x (a x) h0 (by omega) hap.1 hap.2 hu) with h | ⟨_, h⟩
    · exact absurd (congrArg t h) (by omega)
    · rcases h q hq with h | h
      · have := (M.here q hq).1; omega
      · exact key q (a x) (M.here q hq).1 hap.1 hap.2 h
  have hle := way_le H hm (M.low (a x) hcom)
  have hu : U x m = true := hU.dec x m (stepU_iff.2 (.inr ⟨by omega, fun q hq => .inr (hs q m (M.here q hq).1 (M.here q hq).2)⟩))
  rcases (key x m hx hmp.1 hmp.2 hu).cases with h | ⟨_, h⟩
  · exact absurd h hmx
  · exact H.inj m (a x) hm (by have := way_le H hax.1 h; omega)

/-- how many of the first k are below U's row x; the same of the first j rows -/
def rowC (U : Int → Int → Bool) (x : Int) : Nat → Nat
  | 0 => 0
  | k + 1 => rowC U x k + (if U x k then 1 else 0)
def gridC (U : Int → Int → Bool) (k : Nat) : Nat → Nat
  | 0 => 0
  | j + 1 => gridC U k j + rowC U j k

theorem rowC_le {U V : Int → Int → Bool} {x : Int} (h : ∀ d, V x d = true → U x d = true) (k : Nat) : rowC V x k ≤ rowC U x k ∧ (rowC V x k = rowC U x k → ∀ d : Nat, d < k → U x d = true → V x d = true) := by
  induction k with
  | zero => exact ⟨Nat.le_refl _, fun _ d hd => by omega⟩
  | succ k ih =>
    have hk := h k
    cases hv : V x k <;> cases hu : U x k
    · simp only [rowC, hv, hu]
      refine ⟨by simpa using ih.1, fun e d hd hdu => ?_⟩
      by_cases e2 : d = k
      · rw [e2, hu] at hdu; exact absurd hdu (by simp)
      · exact ih.2 (by simpa using e) d (by omega) hdu
    · simp only [rowC, hv, hu]
      refine ⟨by simp; omega, fun e => ?_⟩
      simp at e
      omega
    · rw [hv, hu] at hk; exact absurd (hk rfl) (by simp)
    · simp only [rowC, hv, hu]
      refine ⟨by simpa using ih.1, fun e d hd hdu => ?_⟩
      by_cases e2 : d = k
      · rw [e2]; exact hv
      · exact ih.2 (by simpa using e) d (by omega) hdu

theorem gridC_le {U V : Int → Int → Bool} (h : ∀ x d, V x d = true → U x d = true) (k j : Nat) : gridC V k j ≤ gridC U k j ∧ (gridC V k j = gridC U k j → ∀ x d : Nat, x < j → d < k → U x d = true → V x d = true) := by
  induction j with
  | zero => exact ⟨Nat.le_refl _, fun _ x d hx => by omega⟩
  | succ j ih =>
    have hr := rowC_le (h j) k
    simp only [gridC]
    refine ⟨by omega, fun e x d hx hd hu => ?_⟩
    by_cases e2 : x = j
    · rw [e2] at hu ⊢; exact hr.2 (by omega) d hd hu
    · exact ih.2 (by omega) x d (by omega) hd hu

/-- how far the bound can still fall -/
def meas (c : ByteArray) (U : Int → Int → Bool) : Nat := gridC U ((half c).toNat + 1) ((half c).toNat + 1)

theorem meas_falls {c : ByteArray} {t a : Int → Int} {U : Int → Int → Bool} (H : WOk c t a) (hU : UOk c t U) (hs : ∀ x d, 0 < t x → OnWay c a x d → U x d = true) {x m : Int} (h0 : 0 ≤ x) (h1 : x < half c) (M : MeetAt c t a x m) (hne : m ≠ a x) : meas c (stepU c t U) < meas c U := by
  have hg := gridC_le (U := U) (V := stepU c t U) (fun x d h => hU.dec x d h) ((half c).toNat + 1) ((half c).toNat + 1)
  unfold meas
  rcases Nat.lt_or_ge (gridC (stepU c t U) ((half c).toNat + 1) ((half c).toNat + 1)) (gridC U ((half c).toNat + 1) ((half c).toNat + 1)) with h | h
  · exact h
  · exfalso
    refine hne (fix_stays H hU hs (fun y d hy0 hy1 hd0 hd1 hu => ?_) h0 h1 M)
    have := hg.2 (by omega) y.toNat d.toNat (by omega) (by omega)
    rw [Int.toNat_of_nonneg hy0, Int.toNat_of_nonneg hd0] at this
    exact this hu

theorem meas_le {c : ByteArray} {t : Int → Int} {U : Int → Int → Bool} (hU : UOk c t U) : meas c (stepU c t U) ≤ meas c U :=
  (gridC_le (U := U) (V := stepU c t U) (fun x d h => hU.dec x d h) ((half c).toNat + 1) ((half c).toNat + 1)).1

/-- ways that are narrowed -/
structure Narrow (c : ByteArray) (t a : Int → Int) : Prop where
  w : WOk c t a
  m : ∀ x, 0 ≤ x → x < half c → (∀ q, q ∈ nxt c x → 0 < t q) → MeetAt c t a x (a x)

theorem junction_found {c : ByteArray} {t a : Int → Int} (hr : Ranged c) (N : Narrow c t a) {i : Int} (h0 : 0 ≤ i) (h1 : i < half c) (hall : ∀ x, Reach c (One i) (-1) x → 0 < t x) : IsJ c i (a i) := by
  have H := N.w
  have hi := hall i (Reach.start rfl (by omega))
  have hd := H.down i hi (by omega)
  have hp := H.pos _ hd.1
  have hne : a i ≠ i := fun e => by rw [e] at hd; omega
  have hon : OnAll c i (a i) := fun hR => by
    have := hR (fun x => Reach c (One i) (-1) x ∧ x ≠ a i ∧ OnWay c a x (a i)) (fun x hx hw => ?_) (fun x y hx he hw => ?_)
    · rcases this.2.2.cases with h | ⟨h, _⟩
      · exact this.2.1 h.symm
      · exact h rfl
    · have hx : x = i := hx
      subst hx
      exact ⟨Reach.start rfl (by omega), hw, (OnWay.refl _ _ _).snoc (by omega)⟩
    · have hy := hx.1.step he (by have := (hr x y he).1; omega)
      refine ⟨hy, hw, ?_⟩
      rcases hx.2.2.cases with h | ⟨_, h⟩
      · exact absurd h.symm hx.2.1
      · exact ((N.m x he.1 he.2.1 (fun q hq => hall q (hx.1.step ⟨he.1, he.2.1, hq⟩ (by have := (hr x q ⟨he.1, he.2.1, hq⟩).1; omega)))).here y he.2.2).2.trans h
  refine ⟨hp.1, hp.2, hne, hon, fun b hb0 hb1 hbi hbj hob hR => ?_⟩
  have hbpos := hall b (hR.free hr h0)
  have hw := on_way H (t i).toNat i b (by omega) hi hbi hob
  have hlt : t b < t (a i) := by
    rcases hw.cases with h | ⟨_, h⟩
    · exact absurd h hbi
    · rcases (way_pos H hd.1 h).2 with h2 | h2
      · exact absurd h2 hbj
      · exact h2
  have hnot : ¬ OnAll c b (a i) := fun ho => by
    have := way_le H hbpos (on_way H (t b).toNat b (a i) (by omega) hbpos (fun e => hbj e.symm) ho)
    omega
  exact hnot (fun hK => hon (hR.trans hK))
end Go.Proofs.YtcnbifdlkalimabGreat

/-
  The walks of the package paths: the ways, their small functions; for every file.
-/
namespace Go.Proofs.YtcnbifdlkalimabGreat
open Go.RowKit
set_option linter.unusedVariables false
set_option maxRecDepth 100000

/-- block b holds ways: the file, how many, the turns, where each goes on -/
structure WaysAt (w : World) (b : Nat) (n : Int) (t v c : ByteArray) (k : Int) (T A : Int → Int) : Prop where
  lt : b < w.heap.size
  c0 : w.cell? ⟨b, 0, none⟩ = some (.int .i64 n)
  c1 : w.cell? ⟨b, 1, none⟩ = some (.string t)
  c2 : w.cell? ⟨b, 2, none⟩ = some (.string v)
  c3 : w.cell? ⟨b, 3, none⟩ = some (.string c)
  k : w.cell? ⟨b, 4, none⟩ = some (.int .i64 k)
  t : ∀ j : Nat, j < 201 → w.cell? ⟨b, 5 + j, none⟩ = some (.int .i64 (T j))
  a : ∀ j : Nat, j < 201 → w.cell? ⟨b, 206 + j, none⟩ = some (.int .i64 (A j))
  f : ∀ j : Nat, j < 407 → w.frozen? ⟨b, j, none⟩ = false

theorem WaysAt.step {w w1 : World} {b : Nat} {n : Int} {t v c : ByteArray} {k : Int} {T A : Int → Int} (h : WaysAt w b n t v c k T A) (hb : Below w.heap.size w w1) : WaysAt w1 b n t v c k T A := by
  have e : ∀ j, w1.cell? ⟨b, j, none⟩ = w.cell? ⟨b, j, none⟩ := fun j => hb.cell (p := ⟨b, j, none⟩) h.lt
  exact ⟨Nat.lt_of_lt_of_le h.lt hb.size, by rw [e]; exact h.c0, by rw [e]; exact h.c1, by rw [e]; exact h.c2, by rw [e]; exact h.c3, by rw [e]; exact h.k, fun j hj => by rw [e]; exact h.t j hj, fun j hj => by rw [e]; exact h.a j hj, fun j hj => by rw [hb.frozen (p := ⟨b, j, none⟩) h.lt]; exact h.f j hj⟩

theorem cell_far (w : World) (b i j : Nat) (x : Value) (h : i ≠ j) : (w.setCell ⟨b, i, none⟩ x).cell? ⟨b, j, none⟩ = w.cell? ⟨b, j, none⟩ :=
  World.cell?_setCell_other w ⟨b, i, none⟩ ⟨b, j, none⟩ x (by intro k; exact h (congrArg Addr.off k))

theorem WaysAt.setK {w : World} {b : Nat} {n : Int} {t v c : ByteArray} {k : Int} {T A : Int → Int} (h : WaysAt w b n t v c k T A) (x : Int) : WaysAt (w.setCell ⟨b, 4, none⟩ (.int .i64 x)) b n t v c x T A := by
  refine ⟨by simpa using h.lt, ?_, ?_, ?_, ?_, World.cell?_setCell_same _ _ _ h.k, fun j hj => ?_, fun j hj => ?_, fun j hj => by rw [World.frozen?_setCell]; exact h.f j hj⟩
  · rw [cell_far _ _ _ _ _ (by omega)]; exact h.c0
  · rw [cell_far _ _ _ _ _ (by omega)]; exact h.c1
  · rw [cell_far _ _ _ _ _ (by omega)]; exact h.c2
  · rw [cell_far _ _ _ _ _ (by omega)]; exact h.c3
  · rw [cell_far _ _ _ _ _ (by omega)]; exact h.t j hj
  · rw [cell_far _ _ _ _ _ (by omega)]; exact h.a j hj

theorem WaysAt.setT {w : World} {b : Nat} {n : Int} {t v c : ByteArray} {k : Int} {T A : Int → Int} (h : WaysAt w b n t v c k T A) (p : Nat) (hp : p < 201) (x : Int) : WaysAt (w.setCell ⟨b, 5 + p, none⟩ (.int .i64 x)) b n t v c k (upd T p x) A := by
  refine ⟨by simpa using h.lt, ?_, ?_, ?_, ?_, ?_, fun j hj => ?_, fun j hj => ?_, fun j hj => by rw [World.frozen?_setCell]; exact h.f j hj⟩
  · rw [cell_far _ _ _ _ _ (by omega)]; exact h.c0
  · rw [cell_far _ _ _ _ _ (by omega)]; exact h.c1
  · rw [cell_far _ _ _ _ _ (by omega)]; exact h.c2
  · rw [cell_far _ _ _ _ _ (by omega)]; exact h.c3
  · rw [cell_far _ _ _ _ _ (by omega)]; exact h.k
  · by_cases e : j = p
    · subst e; rw [upd_at]; exact World.cell?_setCell_same _ _ _ (h.t j hj)
    · rw [cell_far _ _ _ _ _ (by omega), upd_ne (by omega)]; exact h.t j hj
  · rw [cell_far _ _ _ _ _ (by omega)]; exact h.a j hj

theorem WaysAt.setA {w : World} {b : Nat} {n : Int} {t v c : ByteArray} {k : Int} {T A : Int → Int} (h : WaysAt w b n t v c k T A) (p : Nat) (hp : p < 201) (x : Int) : WaysAt (w.setCell ⟨b, 206 + p, none⟩ (.int .i64 x)) b n t v c k T (upd A p x) := by
  refine ⟨by simpa using h.lt, ?_, ?_, ?_, ?_, ?_, fun j hj => ?_, fun j hj => ?_, fun j hj => by rw [World.frozen?_setCell]; exact h.f j hj⟩
  · rw [cell_far _ _ _ _ _ (by omega)]; exact h.c0
  · rw [cell_far _ _ _ _ _ (by omega)]; exact h.c1
  · rw [cell_far _ _ _ _ _ (by omega)]; exact h.c2
  · rw [cell_far _ _ _ _ _ (by omega)]; exact h.c3
  · rw [cell_far _ _ _ _ _ (by omega)]; exact h.k
  · rw [cell_far _ _ _ _ _ (by omega)]; exact h.t j hj
  · by_cases e : j = p
    · subst e; rw [upd_at]; exact World.cell?_setCell_same _ _ _ (h.a j hj)
    · rw [cell_far _ _ _ _ _ (by omega), upd_ne (by omega)]; exact h.a j hj

set_option maxHeartbeats 400000 in
theorem turn_any (b : Nat) (n : Int) (t v c : ByteArray) (k : Int) (T A : Int → Int) (p : Nat) (w : World) (H : WaysAt w b n t v c k T A) (hp : p < 201) :
    Calls Tryz.prog 181 #[.pointer (some ⟨b, 0, none⟩), .int .i64 p] w fun e w' => e = .returned (.int .i64 (T p)) ∧ w' = w := by
  have hc := H.t p hp
  have hp2 : (p : Int) < 201 := by omega
  clear H
  go_enter Tryz.func181, Tryz.ntmps181
  go_wp2
  go_ret
  exact ⟨rfl, rfl⟩

set_option maxHeartbeats 400000 in
theorem step_any (b : Nat) (n : Int) (t v c : ByteArray) (k : Int) (T A : Int → Int) (p : Nat) (w : World) (H : WaysAt w b n t v c k T A) (hp : p < 201) :
    Calls Tryz.prog 179 #[.pointer (some ⟨b, 0, none⟩), .int .i64 p] w fun e w' => e = .returned (.int .i64 (A p)) ∧ w' = w := by
  have hc := H.a p hp
  have hp2 : (p : Int) < 201 := by omega
  clear H
  go_enter Tryz.func179, Tryz.ntmps179
  go_wp2
  go_ret
  exact ⟨rfl, rfl⟩

set_option maxHeartbeats 400000 in
theorem move_any (b : Nat) (n x : Int) (t v c : ByteArray) (k : Int) (T A : Int → Int) (p : Nat) (w : World) (H : WaysAt w b n t v c k T A) (hp : p < 201) :
    Calls Tryz.prog 180 #[.pointer (some ⟨b, 0, none⟩), .int .i64 p, .int .i64 x] w fun e w' => e = .returned (.tuple #[]) ∧ w' = w.setCell ⟨b, 206 + p, none⟩ (.int .i64 x) := by
  have hc := H.a p hp
  have hf := H.f (206 + p) (by omega)
  have hp2 : (p : Int) < 201 := by omega
  clear H
  go_enter Tryz.func180, Tryz.ntmps180
  go_wp2
  first | go_end0 | refine bodyPost_ret (results_none rfl _ _ _) rfl ?_
  exact ⟨rfl, rfl⟩

set_option maxHeartbeats 400000 in
theorem ends_any (b : Nat) (n : Int) (t v c : ByteArray) (k : Int) (T A : Int → Int) (p : Nat) (w : World) (H : WaysAt w b n t v c k T A) (hp : p < 201) :
    Calls Tryz.prog 121 #[.pointer (some ⟨b, 0, none⟩), .int .i64 p] w fun e w' => e = .returned (.bool (decide (0 < T p))) ∧ w' = w := by
  go_enter Tryz.func121, Tryz.ntmps121
  go_wp2_with fail
  refine (turn_any b n t v c k T A p w H hp).mono ?_
  rintro e w1 ⟨rfl, rfl⟩
  go_wp2_with fail
  go_ret
  exact ⟨rfl, rfl⟩

set_option maxHeartbeats 400000 in
theorem junctionP_any (b : Nat) (n : Int) (t v c : ByteArray) (k : Int) (T A : Int → Int) (p : Nat) (w : World) (H : WaysAt w b n t v c k T A) (hp : p < 201) (hT : 0 < T p) :
    Calls Tryz.prog 125 #[.pointer (some ⟨b, 0, none⟩), .int .i64 p] w fun e w' => e = .returned (.int .i64 (A p)) ∧ w' = w := by
  have hd : decide (0 < T p) = true := decide_eq_true hT
  go_enter Tryz.func125, Tryz.ntmps125
  go_wp2_with fail
  refine (ends_any b n t v c k T A p w H hp).mono ?_
  rintro e w1 ⟨rfl, rfl⟩
  rw [hd]
  go_wp2_with fail
  refine (step_any b n t v c k T A p _ H hp).mono ?_
  rintro e w1 ⟨rfl, rfl⟩
  go_wp2_with fail
  go_ret
  exact ⟨rfl, rfl⟩

set_option maxHeartbeats 400000 in
theorem addw_old (b : Nat) (n x : Int) (t v c : ByteArray) (k : Int) (T A : Int → Int) (p : Nat) (w : World) (H : WaysAt w b n t v c k T A) (hp : p < 201) (hT : 0 < T p) :
    Calls Tryz.prog 117 #[.pointer (some ⟨b, 0, none⟩), .int .i64 p, .int .i64 x] w fun e w' => e = .returned (.bool false) ∧ w' = w := by
  have hc := H.t p hp
  have hp2 : (p : Int) < 201 := by omega
  clear H
  go_enter Tryz.func117, Tryz.ntmps117
  go_wp2
  go_ret
  exact ⟨rfl, rfl⟩

set_option maxHeartbeats 1600000 in
theorem addw_new (b : Nat) (n x : Int) (t v c : ByteArray) (k : Int) (T A : Int → Int) (p : Nat) (w : World) (H : WaysAt w b n t v c k T A) (hp : p < 201) (hT : T p = 0) (hk0 : 0 ≤ k) (hk : k ≤ 1000) :
    Calls Tryz.prog 117 #[.pointer (some ⟨b, 0, none⟩), .int .i64 p, .int .i64 x] w fun e w' => e = .returned (.bool true) ∧ WaysAt w' b n t v c (k + 1) (upd T p (k + 1)) (upd A p x) ∧ But b w.heap.size w w' := by
  have hc := H.t p hp
  rw [hT] at hc
  have hk4 := H.k
  have hf4 := H.f 4 (by omega)
  have hp2 : (p : Int) < 201 := by omega
  have hK : Kp (WaysAt w b n t v c k T A) := ⟨H⟩
  clear H
  go_enter Tryz.func117, Tryz.ntmps117
  go_wp2
  obtain ⟨w1, hw1⟩ : ∃ w1, w1 = w.setCell ⟨b, 4, none⟩ (.int .i64 (k + 1)) := ⟨_, rfl⟩
  rw [← hw1]
  have H1 : WaysAt w1 b n t v c (k + 1) T A := by rw [hw1]; exact hK.out.setK _
  have hB1 : But b w.heap.size w w1 := by rw [hw1]; exact (But.refl _ _ _).setCell _ _
  have r4 := H1.k
  have rp := H1.t p hp
  have rf := H1.f (5 + p) (by omega)
  replace H1 : Kp _ := ⟨H1⟩
  clear hw1 hc hk4 hf4
  go_region
  obtain ⟨w2, hw2⟩ : ∃ w2, w2 = (w1.setCell ⟨b, 5 + p, none⟩ (.int .i64 (k + 1))).drew := ⟨_, rfl⟩
  rw [← hw2]
  have H2 : WaysAt w2 b n t v c (k + 1) (upd T p (k + 1)) A := by rw [hw2]; exact (H1.out.setT p hp (k + 1)).step ((Below.refl _ _).drew)
  have hB2 : But b w.heap.size w w2 := by rw [hw2]; exact hB1.trans (((But.refl _ _ _).setCell _ _).trans (But.of ((Below.refl _ _).drew)))
  have rp := H2.a p hp
  have rf := H2.f (206 + p) (by omega)
  replace H2 : Kp _ := ⟨H2⟩
  clear hw2 r4 hB1 H1 hK
  go_wp2
  go_ret
  exact ⟨rfl, H2.out.setA p hp x, hB2.setCell _ _⟩
end Go.Proofs.YtcnbifdlkalimabGreat

/-
  The walks of the package paths: where two ways meet; for every file whose ways are found.
-/
namespace Go.Proofs.YtcnbifdlkalimabGreat
open Go.RowKit
set_option linter.unusedVariables false
set_option maxRecDepth 100000

/-- what meeting answers at place p -/
structure MeetR (c : ByteArray) (T A : Int → Int) (p m : Int) (ok : Bool) : Prop where
  yes : ok = true → MeetAt c T A p m
  no : ok = false → ∃ q, q ∈ nxt c p ∧ T q = 0

/-- what is kept while two ways are gone along -/
structure MeetS (c : ByteArray) (T A : Int → Int) (q1 q2 x y : Int) : Prop where
  x0 : 0 ≤ x
  x1 : x ≤ half c
  y0 : 0 ≤ y
  y1 : y ≤ half c
  wx : OnWay c A q1 x
  wy : OnWay c A q2 y
  px : x = q1 ∨ (0 < T q1 ∧ 0 < T x)
  py : y = q2 ∨ (0 < T q2 ∧ 0 < T y)
  com : ∀ d, OnWay c A q1 d → OnWay c A q2 d → OnWay c A x d ∧ OnWay c A y d

theorem MeetS.left {c : ByteArray} {T A : Int → Int} {q1 q2 x y : Int} (H : WOk c T A) (S : MeetS c T A q1 q2 x y) (hx : T x ≠ 0) (hy : T y ≠ 0) (hlt : T y < T x) : MeetS c T A q1 q2 (A x) y ∧ T (A x) < T x ∧ 0 ≤ T (A x) := by
  have nx := H.nn x
  have ny := H.nn y
  have hK : x ≠ half c := fun e => by rw [e, H.fin] at hlt; omega
  have hd := H.down x (by omega) hK
  have hp := H.pos _ hd.1
  refine ⟨⟨hp.1, hp.2, S.y0, S.y1, S.wx.snoc hK, S.wy, .inr ⟨?_, hd.1⟩, S.py, fun d h1 h2 => ?_⟩, hd.2, by omega⟩
  · rcases S.px with h | h
    · rw [← h]; omega
    · exact h.1
  · have hc := S.com d h1 h2
    refine ⟨?_, hc.2⟩
    rcases hc.1.cases with h | ⟨_, h⟩
    · have := way_le H (by omega) hc.2
      rw [h] at this
      omega
    · exact h

theorem MeetS.right {c : ByteArray} {T A : Int → Int} {q1 q2 x y : Int} (H : WOk c T A) (S : MeetS c T A q1 q2 x y) (hx : T x ≠ 0) (hy : T y ≠ 0) (hne : x ≠ y) (hlt : ¬ T y < T x) : MeetS c T A q1 q2 x (A y) ∧ T (A y) < T y ∧ 0 ≤ T (A y) := by
  have nx := H.nn x
  have ny := H.nn y
  have hl : T x < T y := by
    rcases Int.lt_or_eq_of_le (by omega : T x ≤ T y) with h | h
    · exact h
    · exact absurd (H.inj x y (by omega) h) hne
  have hK : y ≠ half c := fun e => by rw [e, H.fin] at hl; omega
  have hd := H.down y (by omega) hK
  have hp := H.pos _ hd.1
  refine ⟨⟨S.x0, S.x1, hp.1, hp.2, S.wx, S.wy.snoc hK, S.px, .inr ⟨?_, hd.1⟩, fun d h1 h2 => ?_⟩, hd.2, by omega⟩
  · rcases S.py with h | h
    · rw [← h]; omega
    · exact h.1
  · have hc := S.com d h1 h2
    refine ⟨hc.1, ?_⟩
    rcases hc.2.cases with h | ⟨_, h⟩
    · have := way_le H (by omega) hc.1
      rw [h] at this
      omega
    · exact h

theorem MeetS.none {c : ByteArray} {T A : Int → Int} {p x y : Int} (h0 : 0 ≤ p) (h1 : p < half c) (S : MeetS c T A (nx1 c p) (nx2 c p) x y) (h : T x = 0 ∨ T y = 0) : MeetR c T A p 0 false := by
  refine ⟨fun h => absurd h (by simp), fun _ => ?_⟩
  rcases h with h | h
  · rcases S.px with k | k
    · exact ⟨nx1 c p, (mem_nxt h1).2 (.inl rfl), by rw [← k]; exact h⟩
    · omega
  · rcases S.py with k | k
    · exact ⟨nx2 c p, (mem_nxt h1).2 (.inr rfl), by rw [← k]; exact h⟩
    · omega

theorem MeetS.met {c : ByteArray} {T A : Int → Int} {p x : Int} (H : WOk c T A) (h0 : 0 ≤ p) (h1 : p < half c) (S : MeetS c T A (nx1 c p) (nx2 c p) x x) : MeetR c T A p x (decide (0 < T x)) := by
  have nx := H.nn x
  refine ⟨fun h => ?_, fun h => ?_⟩
  · have hx := of_decide_eq_true h
    refine ⟨fun q hq => ?_, fun d hd => ?_⟩
    · rcases (mem_nxt h1).1 hq with e | e
      · rw [e]
        refine ⟨?_, S.wx⟩
        rcases S.px with k | k
        · rw [← k]; exact hx
        · exact k.1
      · rw [e]
        refine ⟨?_, S.wy⟩
        rcases S.py with k | k
        · rw [← k]; exact hx
        · exact k.1
    · exact (S.com d (hd _ ((mem_nxt h1).2 (.inl rfl))) (hd _ ((mem_nxt h1).2 (.inr rfl)))).1
  · have hx := of_decide_eq_false h
    have h3 := S.none h0 h1 (.inl (by omega))
    exact h3.no rfl

set_option maxHeartbeats 1600000 in
theorem meeting_any (b p : Nat) (n k : Int) (t v c : ByteArray) (T A : Int → Int) (w : World) (hc : c.size ≤ maxLen) (hK : half c ≤ 200) (hr : Kp (Ranged c)) (H : WaysAt w b n t v c k T A) (hW : Kp (WOk c T A)) (hp : (p : Int) < half c) :
    Calls Tryz.prog 178 #[.pointer (some ⟨b, 0, none⟩), .int .i64 p] w fun e w' =>
      ∃ (m : Int) (ok : Bool), e = .returned (.tuple #[.int .i64 m, .bool ok]) ∧ Kp (MeetR c T A p m ok) ∧ Below w.heap.size w w' := by
  obtain ⟨⟨n1, n2⟩, n3, n4⟩ := nx_in hr.out (k := p) (by omega) (by omega)
  have hS : Kp (MeetS c T A (nx1 c p) (nx2 c p) (nx1 c p) (nx2 c p)) := ⟨⟨n1, n2, n3, n4, OnWay.refl _ _ _, OnWay.refl _ _ _, .inl rfl, .inl rfl, fun d h1 h2 => ⟨h1, h2⟩⟩⟩
  have q0 := H.c0
  have q1 := H.c1
  have q2 := H.c2
  have q3 := H.c3
  go_enter Tryz.func178, Tryz.ntmps178
  go_wp2_with fail
  refine (behind_any n p t v c _ hc hK (by omega) (by omega)).mono ?_
  rintro e w1 ⟨rfl, hb1⟩
  have H1 := H.step hb1
  clear q0 q1 q2 q3 H
  go_wp2_with fail
  go_loop [6, 7] (fun x y => ∃ (x1 y1 : Nat), x = .int .i64 x1 ∧ y = .int .i64 y1 ∧ Kp (MeetS c T A (nx1 c p) (nx2 c p) x1 y1)) (fun x y => (T (intOf x) + T (intOf y)).toNat)
  case atStart => exact ⟨(nx1 c p).toNat, (nx2 c p).toNat, by rw [Int.toNat_of_nonneg n1], by rw [Int.toNat_of_nonneg n3], ⟨by rw [Int.toNat_of_nonneg n1, Int.toNat_of_nonneg n3]; exact hS.out⟩⟩
  case round =>
    clear hS n1 n2 n3 n4
    obtain ⟨x, y, rfl, rfl, hS⟩ := hrel
    have x1 := hS.out.x1
    have y1 := hS.out.y1
    by_cases hxy : x = y
    · subst hxy
      have hR : Kp (MeetR c T A p x (decide (0 < T x))) := ⟨hS.out.met hW.out (by omega) hp⟩
      go_wp2_with fail
      refine (ends_any b n t v c k T A x _ H1 (by omega)).mono ?_
      rintro e w2 ⟨rfl, rfl⟩
      go_wp2_with fail
      go_ret2
      exact ⟨x, _, rfl, hR, hb1⟩
    · have hne : ((x : Int) != (y : Int)) = true := by simp; omega
      have hne' : (x : Int) ≠ (y : Int) := by omega
      replace hne' : Kp _ := ⟨hne'⟩
      clear hxy
      go_wp2_with fail
      refine (turn_any b n t v c k T A x _ H1 (by omega)).mono ?_
      rintro e w2 ⟨rfl, rfl⟩
      go_wp2_with fail
      refine (turn_any b n t v c k T A y _ H1 (by omega)).mono ?_
      rintro e w2 ⟨rfl, rfl⟩
      have nx := hW.out.nn x
      have ny := hW.out.nn y
      obtain ⟨tx, htx⟩ : ∃ tx, T x = tx := ⟨_, rfl⟩
      obtain ⟨ty, hty⟩ : ∃ ty, T y = ty := ⟨_, rfl⟩
      rw [htx, hty]
      rw [htx] at nx
      rw [hty] at ny
      by_cases h0 : tx = 0
      · have hR : Kp (MeetR c T A p 0 false) := ⟨hS.out.none (by omega) hp (.inl (by rw [htx]; exact h0))⟩
        replace htx : Kp _ := ⟨htx⟩
        replace hty : Kp _ := ⟨hty⟩
        subst h0
        go_wp2_with fail
        go_ret2
        exact ⟨0, false, rfl, hR, hb1⟩
      · have h1 : (tx == 0) = false := beq_eq_false_iff_ne.2 h0
        by_cases h02 : ty = 0
        · have hR : Kp (MeetR c T A p 0 false) := ⟨hS.out.none (by omega) hp (.inr (by rw [hty]; exact h02))⟩
          replace htx : Kp _ := ⟨htx⟩
          replace hty : Kp _ := ⟨hty⟩
          subst h02
          go_wp2_with fail
          go_ret2
          exact ⟨0, false, rfl, hR, hb1⟩
        · have h2 : (ty == 0) = false := beq_eq_false_iff_ne.2 h02
          by_cases hlt : ty < tx
          · obtain ⟨hS2, hdn, hnn⟩ := hS.out.left hW.out (by rw [htx]; omega) (by rw [hty]; omega) (by rw [htx, hty]; exact hlt)
            have hax := hS2.x0
            replace hS2 : Kp _ := ⟨hS2⟩
            replace hdn : Kp _ := ⟨hdn⟩
            replace hnn : Kp _ := ⟨hnn⟩
            replace htx : Kp _ := ⟨htx⟩
            replace hty : Kp _ := ⟨hty⟩
            go_wp2_with fail
            refine (step_any b n t v c k T A x _ H1 (by omega)).mono ?_
            rintro e w2 ⟨rfl, rfl⟩
            go_wp2_with fail
            refine ⟨⟨(A x).toNat, y, by rw [Int.toNat_of_nonneg hax], rfl, ⟨by rw [Int.toNat_of_nonneg hax]; exact hS2.out⟩⟩, ?_⟩
            have h3 := hdn.out
            have h4 := hnn.out
            have h5 := htx.out
            have h6 := hty.out
            simp only [intOf]
            omega
          · obtain ⟨hS2, hdn, hnn⟩ := hS.out.right hW.out (by rw [htx]; omega) (by rw [hty]; omega) hne'.out (by rw [htx, hty]; exact hlt)
            have hax := hS2.y0
            replace hS2 : Kp _ := ⟨hS2⟩
            replace hdn : Kp _ := ⟨hdn⟩
            replace hnn : Kp _ := ⟨hnn⟩
            replace htx : Kp _ := ⟨htx⟩
            replace hty : Kp _ := ⟨hty⟩
            go_wp2_with fail
            refine (step_any b n t v c k T A y _ H1 (by omega)).mono ?_
            rintro e w2 ⟨rfl, rfl⟩
            go_wp2_with fail
            refine ⟨⟨x, (A y).toNat, rfl, by rw [Int.toNat_of_nonneg hax], ⟨by rw [Int.toNat_of_nonneg hax]; exact hS2.out⟩⟩, ?_⟩
            have h3 := hdn.out
            have h4 := hnn.out
            have h5 := htx.out
            have h6 := hty.out
            simp only [intOf]
            omega
end Go.Proofs.YtcnbifdlkalimabGreat

/-
  The walks of the package paths: ways found and narrowed, round by round; for every file whose places are places.
-/
namespace Go.Proofs.YtcnbifdlkalimabGreat
open Go.RowKit
set_option linter.unusedVariables false
set_option maxRecDepth 100000

/-- how many of the first k places have no way yet -/
def cntW (T : Int → Int) (k : Nat) : Nat := cntF (fun j => decide (0 < T j)) k

/-- what one round of growing leaves: from k0, T0 to k1, T1; g: something was found; done from place q on -/
structure GrowS (c : ByteArray) (T0 T A : Int → Int) (k : Int) (g : Bool) (q : Int) : Prop where
  ok : GOk c T A k
  bd : k + cntW T 201 ≤ 201
  no : g = false → T = T0 ∧ ∀ x s, q ≤ x → x < half c → s ∈ nxt c x → 0 < T s → 0 < T x
  yes : g = true → cntW T 201 < cntW T0 201
  le : cntW T 201 ≤ cntW T0 201

theorem cntW_upd {T : Int → Int} {p : Nat} {x : Int} (hp : p < 201) (h : T p = 0) (hx : 0 < x) : cntW (upd T p x) 201 + 1 = cntW T 201 := by
  have h2 := cntF_set (m := fun j => decide (0 < T j)) (k := 201) (j := p) hp (by simp; omega)
  unfold cntW
  rw [← h2]
  congr 1
  refine cntF_same (fun i _ => ?_)
  by_cases e : i = p
  · subst e; rw [upd_at]; simp [hx]
  · rw [upd_ne (by omega)]; simp [e]

theorem GrowS.skip {c : ByteArray} {T0 T A : Int → Int} {k : Int} {g : Bool} {p : Int} (h : GrowS c T0 T A k g (p + 1)) (hs : ∀ s, s ∈ nxt c p → 0 < T s → 0 < T p) : GrowS c T0 T A k g p :=
  ⟨h.ok, h.bd, fun hg => ⟨(h.no hg).1, fun x s h1 h2 h3 h4 => by
    by_cases e : x = p
    · subst e; exact hs s h3 h4
    · exact (h.no hg).2 x s (by omega) h2 h3 h4⟩, h.yes, h.le⟩

theorem GrowS.add {c : ByteArray} {T0 T A : Int → Int} {k : Int} {g : Bool} {p : Nat} {s : Int} (h : GrowS c T0 T A k g ((p : Int) + 1)) (hp : (p : Int) < half c) (hK : half c ≤ 200) (hT : T p = 0) (hs : s ∈ nxt c p) (hs0 : 0 < T s) : GrowS c T0 (upd T p (k + 1)) (upd A p s) (k + 1) true p := by
  have h1 : 1 ≤ k := by have := h.ok.top (half c); rw [h.ok.fin] at this; exact this
  have hc := cntW_upd (T := T) (p := p) (x := k + 1) (by omega) hT (by omega)
  have hb := h.bd
  have hl := h.le
  exact ⟨grow_add h.ok (by omega) hp hT hs hs0, by omega, fun h => absurd h (by simp), fun _ => by omega, by omega⟩

set_option maxHeartbeats 1600000 in
theorem grow_any (b : Nat) (n k0 : Int) (t v c : ByteArray) (T0 A0 : Int → Int) (w : World) (hc : c.size ≤ maxLen) (hK : half c ≤ 200) (hr : Kp (Ranged c)) (H : WaysAt w b n t v c k0 T0 A0) (hG : Kp (GOk c T0 A0 k0)) (hbd : Kp (k0 + cntW T0 201 ≤ 201)) :
    Calls Tryz.prog 118 #[.pointer (some ⟨b, 0, none⟩)] w fun e w' =>
      ∃ (g : Bool) (k : Int) (T A : Int → Int), e = .returned (.bool g) ∧ WaysAt w' b n t v c k T A ∧ Kp (GrowS c T0 T A k g 0) ∧ But b w.heap.size w w' := by
  have hh := (half_bd c).1
  have q0 := H.c0
  have q1 := H.c1
  have q2 := H.c2
  have q3 := H.c3
  go_enter Tryz.func118, Tryz.ntmps118
  go_wp2_with fail
  refine (length_any n t v c _ hc).mono ?_
  rintro e w1 ⟨rfl, hb1⟩
  have H1 := H.step hb1
  have hlt := H.lt
  have hG1 : Kp (GrowS c T0 T0 A0 k0 false (half c)) := ⟨⟨hG.out, hbd.out, fun _ => ⟨rfl, fun x s h1 h2 => absurd h2 (by omega)⟩, fun h => absurd h (by simp), Nat.le_refl _⟩⟩
  have hB1 : But b w.heap.size w w1 := But.of hb1
  clear q0 q1 q2 q3 H hG hbd hb1
  go_wp2_with fail
  go_loopw [3, 4] (fun g i wr => ∃ (gb : Bool) (p : Nat) (k : Int) (T A : Int → Int), g = .bool gb ∧ (p : Int) ≤ half c ∧ i = .int .i64 ((p : Int) - 1) ∧ WaysAt wr b n t v c k T A ∧ Kp (GrowS c T0 T A k gb p) ∧ But b w.heap.size w wr) (fun _ i _ => (intOf i + 1).toNat)
  case atStart => exact ⟨false, (half c).toNat, k0, T0, A0, rfl, by omega, by rw [Int.toNat_of_nonneg hh], H1, ⟨by rw [Int.toNat_of_nonneg hh]; exact hG1.out⟩, hB1⟩
  case round =>
    clear H1 hG1 hB1
    obtain ⟨gb, p, k, T, A, rfl, hp, rfl, H, hS, hB⟩ := hrel
    cases p with
    | zero =>
      go_wp2_with fail
      go_ret
      exact ⟨gb, k, T, A, rfl, H, hS, hB⟩
    | succ p =>
      rw [show (((p + 1 : Nat) : Int) - 1) = (p : Int) from by omega]
      have hp2 : (p : Int) < half c := by omega
      replace hS : Kp (GrowS c T0 T A k gb ((p : Int) + 1)) := ⟨by have := hS.out; rwa [show ((p + 1 : Nat) : Int) = (p : Int) + 1 from by omega] at this⟩
      clear hp
      obtain ⟨⟨n1, n2⟩, n3, n4⟩ := nx_in hr.out (k := p) (by omega) (by omega)
      obtain ⟨a1, e1⟩ : ∃ a1 : Nat, nx1 c p = a1 := ⟨(nx1 c p).toNat, by omega⟩
      obtain ⟨a2, e2⟩ : ∃ a2 : Nat, nx2 c p = a2 := ⟨(nx2 c p).toNat, by omega⟩
      have m1 : Kp ((a1 : Int) ∈ nxt c p) := ⟨(mem_nxt hp2).2 (.inl e1.symm)⟩
      have m2 : Kp ((a2 : Int) ∈ nxt c p) := ⟨(mem_nxt hp2).2 (.inr e2.symm)⟩
      have m3 : Kp (∀ x, x ∈ nxt c p → x = a1 ∨ x = a2) := ⟨fun x hx => by have := (mem_nxt hp2).1 hx; rwa [e1, e2] at this⟩
      rw [e1] at n1 n2
      rw [e2] at n3 n4
      have q0 := H.c0
      have q1 := H.c1
      have q2 := H.c2
      have q3 := H.c3
      go_wp2_with fail
      refine (behind_any n p t v c _ hc hK (by omega) (by omega)).mono ?_
      rintro e w2 ⟨rfl, hb2⟩
      have H2 := H.step hb2
      have hB2 := hB.trans (But.of (hb2.mono hB.size))
      clear q0 q1 q2 q3 H hB hb2
      rw [e1, e2]
      clear e1 e2
      go_wp2_with fail
      refine (ends_any b n t v c k T A a1 _ H2 (by omega)).mono ?_
      rintro e w3 ⟨rfl, rfl⟩
      by_cases hT1 : 0 < T a1
      · rw [decide_eq_true hT1]
        have hmem := m1
        have hpos : Kp (0 < T a1) := ⟨hT1⟩
        go_wp2_with fail
        refine (ends_any b n t v c k T A a1 _ H2 (by omega)).mono ?_
        rintro e w3 ⟨rfl, rfl⟩
        rw [decide_eq_true hT1]
        clear hT1
        by_cases hTp : 0 < T p
        · have hS2 : Kp (GrowS c T0 T A k gb p) := ⟨hS.out.skip (fun _ _ _ => hTp)⟩
          go_wp2_with fail
          refine (addw_old b n a1 t v c k T A p _ H2 (by omega) hTp).mono ?_
          rintro e w3 ⟨rfl, rfl⟩
          go_wp2_with fail
          go_roundw
          case rel => exact ⟨gb, p, k, T, A, rfl, by omega, rfl, H2, hS2, hB2⟩
          case measure => simp [intOf]
        · have hT0 : T p = 0 := by have := hS.out.ok.nn p; omega
          have hk1 := hS.out.ok.top (half c)
          rw [hS.out.ok.fin] at hk1
          have hk2 := hS.out.bd
          have hS2 : Kp (GrowS c T0 (upd T p (k + 1)) (upd A p a1) (k + 1) true p) := ⟨hS.out.add hp2 hK hT0 hmem.out hpos.out⟩
          go_wp2_with fail
          refine (addw_new b n a1 t v c k T A p _ H2 (by omega) hT0 (by omega) (by omega)).mono ?_
          rintro e w3 ⟨rfl, H3, hb3⟩
          have hB3 := hB2.trans (hb3.mono hB2.size)
          clear H2 hB2 hb3
          go_wp2_with fail
          go_roundw
          case rel => exact ⟨true, p, k + 1, _, _, rfl, by omega, rfl, H3, hS2, hB3⟩
          case measure => simp [intOf]
      · rw [decide_eq_false hT1]
        go_wp2_with fail
        refine (ends_any b n t v c k T A a2 _ H2 (by omega)).mono ?_
        rintro e w3 ⟨rfl, rfl⟩
        by_cases hT2 : 0 < T a2
        · rw [decide_eq_true hT2]
          have hmem := m2
          have hpos : Kp (0 < T a2) := ⟨hT2⟩
          clear hT1 hT2
          by_cases hTp : 0 < T p
          · have hS2 : Kp (GrowS c T0 T A k gb p) := ⟨hS.out.skip (fun _ _ _ => hTp)⟩
            go_wp2_with fail
            refine (addw_old b n a2 t v c k T A p _ H2 (by omega) hTp).mono ?_
            rintro e w3 ⟨rfl, rfl⟩
            go_wp2_with fail
            go_roundw
            case rel => exact ⟨gb, p, k, T, A, rfl, by omega, rfl, H2, hS2, hB2⟩
            case measure => simp [intOf]
          · have hT0 : T p = 0 := by have := hS.out.ok.nn p; omega
            have hk1 := hS.out.ok.top (half c)
            rw [hS.out.ok.fin] at hk1
            have hk2 := hS.out.bd
            have hS2 : Kp (GrowS c T0 (upd T p (k + 1)) (upd A p a2) (k + 1) true p) := ⟨hS.out.add hp2 hK hT0 hmem.out hpos.out⟩
            go_wp2_with fail
            refine (addw_new b n a2 t v c k T A p _ H2 (by omega) hT0 (by omega) (by omega)).mono ?_
            rintro e w3 ⟨rfl, H3, hb3⟩
            have hB3 := hB2.trans (hb3.mono hB2.size)
            clear H2 hB2 hb3
            go_wp2_with fail
            go_roundw
            case rel => exact ⟨true, p, k + 1, _, _, rfl, by omega, rfl, H3, hS2, hB3⟩
            case measure => simp [intOf]
        · rw [decide_eq_false hT2]
          have hS2 : Kp (GrowS c T0 T A k gb p) := ⟨hS.out.skip (fun s hs h => by rcases m3.out s hs with e | e <;> (rw [e] at h; omega))⟩
          go_wp2_with fail
          go_roundw
          case rel => exact ⟨gb, p, k, T, A, rfl, by omega, rfl, H2, hS2, hB2⟩
          case measure => simp [intOf]
end Go.Proofs.YtcnbifdlkalimabGreat

/-
  The walks of the package paths: ways narrowed, round by round, until none turns; for every file whose places are places.
-/
namespace Go.Proofs.YtcnbifdlkalimabGreat
open Go.RowKit
set_option linter.unusedVariables false
set_option maxRecDepth 100000

/-- what one round of narrowing leaves: g: some way was turned; done from place q on -/
structure NarS (c : ByteArray) (T A0 A : Int → Int) (U : Int → Int → Bool) (g : Bool) (q : Int) : Prop where
  ok : WOk c T A
  pass : Pass c T A U q
  no : g = false → A = A0 ∧ ∀ x, q ≤ x → 0 ≤ x → x < half c → (∀ s, s ∈ nxt c x → 0 < T s) → MeetAt c T A0 x (A0 x)
  yes : g = true → meas c (stepU c T U) < meas c U

theorem NarS.move {c : ByteArray} {T A0 A : Int → Int} {U : Int → Int → Bool} {g : Bool} {p m : Int} (hU : UOk c T U) (h : NarS c T A0 A U g (p + 1)) (h0 : 0 ≤ p) (h1 : p < half c) (M : MeetAt c T A p m) (hne : m ≠ A p) : NarS c T A0 (upd A p m) U true p :=
  ⟨ways_move h.ok h0 h1 M, pass_move h.ok hU h0 h1 M h.pass, fun h => absurd h (by simp), fun _ => meas_falls h.ok hU h.pass.sub h0 h1 M hne⟩

theorem NarS.same {c : ByteArray} {T A0 A : Int → Int} {U : Int → Int → Bool} {g : Bool} {p : Int} (hU : UOk c T U) (h : NarS c T A0 A U g (p + 1)) (h0 : 0 ≤ p) (h1 : p < half c) (M : MeetAt c T A p (A p)) : NarS c T A0 A U g p := by
  have hp := pass_move h.ok hU h0 h1 M h.pass
  rw [upd_same rfl] at hp
  refine ⟨h.ok, hp, fun hg => ⟨(h.no hg).1, fun x h2 h3 h4 h5 => ?_⟩, h.yes⟩
  by_cases e : x = p
  · subst e; rw [← (h.no hg).1]; exact M
  · exact (h.no hg).2 x (by omega) h3 h4 h5

theorem NarS.keep {c : ByteArray} {T A0 A : Int → Int} {U : Int → Int → Bool} {g : Bool} {p : Int} (hU : UOk c T U) (h : NarS c T A0 A U g (p + 1)) (hk : ∃ q, q ∈ nxt c p ∧ T q = 0) : NarS c T A0 A U g p := by
  obtain ⟨q, hq, hq0⟩ := hk
  refine ⟨h.ok, pass_keep h.ok hU hq hq0 h.pass, fun hg => ⟨(h.no hg).1, fun x h2 h3 h4 h5 => ?_⟩, h.yes⟩
  by_cases e : x = p
  · subst e; have := h5 q hq; omega
  · exact (h.no hg).2 x (by omega) h3 h4 h5

set_option maxHeartbeats 1600000 in
theorem narrow_any (b : Nat) (n k : Int) (t v c : ByteArray) (T A0 : Int → Int) (U : Int → Int → Bool) (w : World) (hc : c.size ≤ maxLen) (hK : half c ≤ 200) (hr : Kp (Ranged c)) (H : WaysAt w b n t v c k T A0) (hW : Kp (WOk c T A0)) (hU : Kp (UOk c T U)) (hs : Kp (∀ x d, 0 < T x → OnWay c A0 x d → U x d = true)) :
    Calls Tryz.prog 119 #[.pointer (some ⟨b, 0, none⟩)] w fun e w' =>
      ∃ (g : Bool) (A : Int → Int), e = .returned (.bool g) ∧ WaysAt w' b n t v c k T A ∧ Kp (NarS c T A0 A U g 0) ∧ But b w.heap.size w w' := by
  have hh := (half_bd c).1
  have q0 := H.c0
  have q1 := H.c1
  have q2 := H.c2
  have q3 := H.c3
  go_enter Tryz.func119, Tryz.ntmps119
  go_wp2_with fail
  refine (length_any n t v c _ hc).mono ?_
  rintro e w1 ⟨rfl, hb1⟩
  have H1 := H.step hb1
  have hS1 : Kp (NarS c T A0 A0 U false (half c)) := ⟨⟨hW.out, pass_begin hW.out hs.out, fun _ => ⟨rfl, fun x h1 h2 h3 => absurd h3 (by omega)⟩, fun h => absurd h (by simp)⟩⟩
  have hB1 : But b w.heap.size w w1 := But.of hb1
  clear q0 q1 q2 q3 H hW hs hb1
  go_wp2_with fail
  go_loopw [3, 4] (fun g i wr => ∃ (gb : Bool) (p : Nat) (A : Int → Int), g = .bool gb ∧ (p : Int) ≤ half c ∧ i = .int .i64 ((p : Int) - 1) ∧ WaysAt wr b n t v c k T A ∧ Kp (NarS c T A0 A U gb p) ∧ But b w.heap.size w wr) (fun _ i _ => (intOf i + 1).toNat)
  case atStart => exact ⟨false, (half c).toNat, A0, rfl, by omega, by rw [Int.toNat_of_nonneg hh], H1, ⟨by rw [Int.toNat_of_nonneg hh]; exact hS1.out⟩, hB1⟩
  case round =>
    clear H1 hS1 hB1
    obtain ⟨gb, p, A, rfl, hp, rfl, H, hS, hB⟩ := hrel
    cases p with
    | zero =>
      go_wp2_with fail
      go_ret
      exact ⟨gb, A, rfl, H, hS, hB⟩
    | succ p =>
      rw [show (((p + 1 : Nat) : Int) - 1) = (p : Int) from by omega]
      have hp2 : (p : Int) < half c := by omega
      replace hS : Kp (NarS c T A0 A U gb ((p : Int) + 1)) := ⟨by have := hS.out; rwa [show ((p + 1 : Nat) : Int) = (p : Int) + 1 from by omega] at this⟩
      clear hp
      go_wp2_with fail
      refine (meeting_any b p n k t v c T A _ hc hK hr H ⟨hS.out.ok⟩ hp2).mono ?_
      rintro e w2 ⟨m, ok, rfl, hM, hb2⟩
      have H2 := H.step hb2
      have hB2 := hB.trans (But.of (hb2.mono hB.size))
      clear H hB hb2
      cases ok
      · have hS2 : Kp (NarS c T A0 A U gb p) := ⟨hS.out.keep hU.out (hM.out.no rfl)⟩
        go_wp2_with fail
        go_roundw
        case rel => exact ⟨gb, p, A, rfl, by omega, rfl, H2, hS2, hB2⟩
        case measure => simp [intOf]
      · have hMM : Kp (MeetAt c T A p m) := ⟨hM.out.yes rfl⟩
        by_cases hm : m = A p
        · subst hm
          have hS2 : Kp (NarS c T A0 A U gb p) := ⟨hS.out.same hU.out (by omega) hp2 hMM.out⟩
          go_wp2_with fail
          refine (step_any b n t v c k T A p _ H2 (by omega)).mono ?_
          rintro e w3 ⟨rfl, rfl⟩
          go_wp2_with fail
          go_roundw
          case rel => exact ⟨gb, p, A, rfl, by omega, rfl, H2, hS2, hB2⟩
          case measure => simp [intOf]
        · have hS2 : Kp (NarS c T A0 (upd A p m) U true p) := ⟨hS.out.move hU.out (by omega) hp2 hMM.out hm⟩
          have hne : (m != A p) = true := by simpa using hm
          go_wp2_with fail
          refine (step_any b n t v c k T A p _ H2 (by omega)).mono ?_
          rintro e w3 ⟨rfl, rfl⟩
          go_wp2_with fail
          refine (move_any b n m t v c k T A p _ H2 (by omega)).mono ?_
          rintro e w3 ⟨rfl, hw3⟩
          have H3 : WaysAt w3 b n t v c k T (upd A p m) := by rw [hw3]; exact H2.setA p (by omega) m
          have hB3 : But b w.heap.size w w3 := by rw [hw3]; exact hB2.setCell _ _
          clear hw3 H2 hB2
          go_wp2_with fail
          go_roundw
          case rel => exact ⟨true, p, _, rfl, by omega, rfl, H3, hS2, hB3⟩
          case measure => simp [intOf]
end Go.Proofs.YtcnbifdlkalimabGreat

/-
  The walks of the package paths: all ways of a file; for every file whose places are places.
-/
namespace Go.Proofs.YtcnbifdlkalimabGreat
open Go.RowKit
set_option linter.unusedVariables false
set_option maxRecDepth 100000

/-- the cells of ways -/
def wayCells (n : Int) (t v c : ByteArray) (k : Int) (T A : Int → Int) (j : Nat) : Value :=
  if j = 0 then .int .i64 n else if j = 1 then .string t else if j = 2 then .string v else if j = 3 then .string c else if j = 4 then .int .i64 k
  else if j < 206 then .int .i64 (T ((j : Int) - 5)) else .int .i64 (A ((j : Int) - 206))

theorem built_ways (n : Int) (t v c : ByteArray) : Tryz.prog.built 138 [(0, .agg #[.int .i64 n, .string t, .string v, .string c])] = some (big 407 (wayCells n t v c 0 (fun _ => 0) (fun _ => 0))) := by kernel_rfl

theorem wp_build_big {P : Program} {o : Oper} {a : Act} {w : World} {K : Act → World → Prop} {Q : Exit → Act → World → Prop} (t : TypeId) (parts : Array (Nat × Operand)) (ho : o.op = .build t parts) (arr : Array Value)
    (hf : P.built t (parts.map fun (i, x) => (i, a.eval x)).toList = some arr) (h : K (a.put o.dst (.agg arr)) w) : o.wp P a w K Q :=
  wp_build t parts ho (by rw [hf]; rfl) (by rw [hf]; exact h)

theorem way_one (n : Int) (t v c : ByteArray) (k : Int) (T A : Int → Int) (j : Nat) : (wayCells n t v c k T A j).oneCell' = true := by
  unfold wayCells
  repeat (split; rfl)
  rfl

theorem WaysAt.of_cells {w : World} {b : Nat} {n : Int} {t v c : ByteArray} {k : Int} {T A : Int → Int} (hl : b < w.heap.size) (h : ∀ j, j < 407 → w.cell? ⟨b, 0 + j, none⟩ = some (wayCells n t v c k T A j)) (hf : ∀ j, j < 407 → w.frozen? ⟨b, 0 + j, none⟩ = false) : WaysAt w b n t v c k T A := by
  have e : ∀ j, j < 407 → w.cell? ⟨b, j, none⟩ = some (wayCells n t v c k T A j) := fun j hj => by have := h j hj; rwa [Nat.zero_add] at this
  refine ⟨hl, e 0 (by omega), e 1 (by omega), e 2 (by omega), e 3 (by omega), e 4 (by omega), fun j hj => ?_, fun j hj => ?_, fun j hj => by have := hf j hj; rwa [Nat.zero_add] at this⟩
  · rw [e (5 + j) (by omega)]
    unfold wayCells
    rw [if_neg (by omega), if_neg (by omega), if_neg (by omega), if_neg (by omega), if_neg (by omega), if_pos (by omega)]
    rw [show ((5 + j : Nat) : Int) - 5 = (j : Int) from by omega]
  · rw [e (206 + j) (by omega)]
    unfold wayCells
    rw [if_neg (by omega), if_neg (by omega), if_neg (by omega), if_neg (by omega), if_neg (by omega), if_neg (by omega)]
    rw [show ((206 + j : Nat) : Int) - 206 = (j : Int) from by omega]

theorem WaysAt.cells {w : World} {b : Nat} {n : Int} {t v c : ByteArray} {k : Int} {T A : Int → Int} (h : WaysAt w b n t v c k T A) (j : Nat) (hj : j < 407) : w.cell? ⟨b, 0 + j, none⟩ = some (wayCells n t v c k T A j) := by
  rw [Nat.zero_add]
  unfold wayCells
  split
  · subst j; exact h.c0
  · split
    · subst j; exact h.c1
    · split
      · subst j; exact h.c2
      · split
        · subst j; exact h.c3
        · split
          · subst j; exact h.k
          · split
            · have := h.t (j - 5) (by omega)
              rw [show 5 + (j - 5) = j from by omega] at this
              rw [this, show ((j - 5 : Nat) : Int) = (j : Int) - 5 from by omega]
            · have := h.a (j - 206) (by omega)
              rw [show 206 + (j - 206) = j from by omega] at this
              rw [this, show ((j - 206 : Nat) : Int) = (j : Int) - 206 from by omega]

/-- a block of n cells that may be written -/
structure Room (w : World) (b n : Nat) : Prop where
  lt : b < w.heap.size
  c : ∀ j, j < n → (w.cell? ⟨b, 0 + j, none⟩).isSome = true
  f : ∀ j, j < n → w.frozen? ⟨b, 0 + j, none⟩ = false

theorem Room.of_row {w : World} {g n : Nat} {cs : Array Value} {t : TypeId} (hg : w.heap[g]? = some (.cells cs t (0, 0))) (hn : cs.size = n) : Room w g n := by
  refine ⟨(Array.getElem?_eq_some_iff.1 hg).1, fun j hj => ?_, fun j hj => ?_⟩
  · rw [Nat.zero_add, cell_of_row w g j _ t (0, 0) hg, Array.getElem?_eq_getElem (by omega)]; rfl
  · simp [World.frozen?, hg]

theorem Room.step {w w1 : World} {b n : Nat} (h : Room w b n) (hb : Below w.heap.size w w1) : Room w1 b n :=
  ⟨Nat.lt_of_lt_of_le h.lt hb.size, fun j hj => by rw [hb.cell (p := ⟨b, 0 + j, none⟩) h.lt]; exact h.c j hj, fun j hj => by rw [hb.frozen (p := ⟨b, 0 + j, none⟩) h.lt]; exact h.f j hj⟩
theorem Room.but {w w1 : World} {b b' n : Nat} (h : Room w b n) (hb : But b' w.heap.size w w1) (hne : b ≠ b') : Room w1 b n :=
  ⟨Nat.lt_of_lt_of_le h.lt hb.size, fun j hj => by rw [hb.cell (p := ⟨b, 0 + j, none⟩) h.lt hne]; exact h.c j hj, fun j hj => by rw [hb.frozen (p := ⟨b, 0 + j, none⟩) h.lt hne]; exact h.f j hj⟩

theorem waysAt_new {w : World} {b : Nat} (h : Room w b 407) (n : Int) (t v c : ByteArray) (k : Int) (T A : Int → Int) : WaysAt (w.setCells b 0 (big 407 (wayCells n t v c k T A)).toList) b n t v c k T A :=
  WaysAt.of_cells (by have := (but_cells (But.refl b 0 w) (big 407 (wayCells n t v c k T A)).toList 0).size; exact Nat.lt_of_lt_of_le h.lt this) (fun j hj => st_big_cell w b 0 407 _ h.c j hj) (fun j hj => by rw [World.frozen?_setCells]; exact h.f j hj)

set_option maxHeartbeats 1600000 in
theorem waysOf_any (n : Int) (t v c : ByteArray) (w : World) (hc : c.size ≤ maxLen) (hK : half c ≤ 200) (hr : Kp (Ranged c)) :
    Calls Tryz.prog 61 #[.agg #[.int .i64 n, .string t, .string v, .string c]] w fun e w' =>
      ∃ (k : Int) (T A : Int → Int), e = .returned (.agg (big 407 (wayCells n t v c k T A))) ∧ Kp (Narrow c T A) ∧ Below w.heap.size w w' := by
  have hh := (half_bd c).1
  obtain ⟨w0, hw0⟩ : ∃ w0, w0 = (((w.alloc (.cells #[.int .i64 n, .string t, .string v, .string c] 76)).alloc (.cells Tryz.zeroCells138 138)).alloc (.cells Tryz.zeroCells138 138)) := ⟨_, rfl⟩
  have hsz : w0.heap.size = w.heap.size + 3 := by rw [hw0]; simp
  have hR0 : Room w0 (w.heap.size + 1 + 1) 407 := by rw [hw0]; exact Room.of_row (row3 _ _ _ _) (by kernel_rfl)
  have hR1 : Room w0 (w.heap.size + 1) 407 := by rw [hw0]; exact Room.of_row (row2 _ _ _ _) (by kernel_rfl)
  have hO0 : Own w0 w.heap.size [.int .i64 n, .string t, .string v, .string c] := by rw [hw0]; exact ((Own.new4 w _ _ _ _ _).alloc _).alloc _
  have hB0 : Below w.heap.size w w0 := by rw [hw0]; exact (((Below.refl _ _).alloc (Nat.le_refl _) _).alloc (by simp) _).alloc (by simp; omega) _
  obtain ⟨w1, hw1⟩ : ∃ w1, w1 = w0.setCells (w.heap.size + 1 + 1) 0 (big 407 (wayCells n t v c 0 (fun _ => 0) (fun _ => 0))).toList := ⟨_, rfl⟩
  have hB : But (w.heap.size + 1 + 1) w0.heap.size w0 w1 := by rw [hw1]; exact but_cells (But.refl _ _ _) _ _
  have H1 : WaysAt w1 (w.heap.size + 1 + 1) n t v c 0 (fun _ => 0) (fun _ => 0) := by rw [hw1]; exact waysAt_new hR0 n t v c 0 _ _
  have hR2 := hR1.but hB (by omega)
  have hO1 := hO0.but hB (by omega)
  have hB1 : Below w.heap.size w w1 := hB0.trans ((hB.mono hB0.size).below (by omega))
  have hz1 := hB.size
  replace hw0 : Kp _ := ⟨hw0⟩
  replace hw1 : Kp _ := ⟨hw1⟩
  have q0 := hO1.c 0 _ rfl
  have q1 := hO1.c 1 _ rfl
  have q2 := hO1.c 2 _ rfl
  have q3 := hO1.c 3 _ rfl
  clear hO0 hR1 hB0 hB
  go_enter Tryz.func61, Tryz.ntmps61
  repeat (first | refine wp_build_big 138 #[(0, .tmp 7)] rfl _ (built_ways n t v c) ?_ | (refine wp_store_big 138 (.tmp 3) (.tmp 8) rfl (w.heap.size + 1 + 1) 0 407 (wayCells n t v c 0 (fun _ => 0) (fun _ => 0)) rfl rfl (by kernel_rfl) (by rw [← hw0.out]; exact hR0.c) (by rw [← hw0.out]; exact hR0.f) (fun j _ => way_one _ _ _ _ _ _ _ j) ?_; rw [← hw0.out, ← hw1.out]; dsimp only [Act.put]) | go_step)
  refine (length_any n t v c _ hc).mono ?_
  rintro e w2 ⟨rfl, hb2⟩
  have H2 := H1.step hb2
  have hR3 := hR2.step hb2
  have hB2 := hB1.trans (hb2.mono hB1.size)
  have hz2 := hb2.size
  obtain ⟨p, hp⟩ : ∃ p : Nat, half c = p := ⟨(half c).toNat, by omega⟩
  clear q0 q1 q2 q3 hO1 H1 hR2 hR0 hB1 hb2 hw0 hw1
  rw [hp]
  go_wp2_with fail
  refine (addw_new (w.heap.size + 1 + 1) n p t v c 0 (fun _ => 0) (fun _ => 0) p w2 H2 (by omega) rfl (by omega) (by omega)).mono ?_
  rintro e w3 ⟨rfl, H3, hb3⟩
  have hR4 := hR3.but hb3 (by omega)
  have hB3 : Below w.heap.size w w3 := hB2.trans ((hb3.mono hB2.size).below (by omega))
  have hz3 := hb3.size
  have hG3 : Kp (GOk c (upd (fun _ => 0) p (0 + 1)) (upd (fun _ => 0) p p) (0 + 1)) := ⟨by have := grow_begin c; rw [hp] at this; exact this⟩
  have hbd3 : Kp ((0 + 1 : Int) + cntW (upd (fun _ => 0) p (0 + 1)) 201 ≤ 201) := ⟨by
    have h1 := cntW_upd (T := fun _ => 0) (p := p) (x := 0 + 1) (by omega) rfl (by omega)
    have h2 : cntW (fun _ => 0) 201 ≤ 201 := cntF_bd _ _
    omega⟩
  clear H2 hR3 hB2 hb3
  go_wp2_with fail
  go_loopg [5] (cntW (upd (fun _ => 0) p (0 + 1)) 201 + 1) (fun gm g wr => ∃ (gb : Bool) (k : Int) (T A : Int → Int), g = .bool gb ∧ gm = cntW T 201 + (if gb then 1 else 0) ∧ WaysAt wr (w.heap.size + 1 + 1) n t v c k T A ∧ Room wr (w.heap.size + 1) 407 ∧ Below w.heap.size w wr ∧ w.heap.size + 2 < wr.heap.size ∧ Kp (GOk c T A k) ∧ Kp (k + cntW T 201 ≤ 201) ∧ Kp (gb = false → ∀ x q, 0 ≤ x → x < half c → q ∈ nxt c x → 0 < T q → 0 < T x))
  case atStart => exact ⟨true, _, _, _, rfl, by simp, H3, hR4, hB3, by omega, hG3, hbd3, ⟨fun h => absurd h (by simp)⟩⟩
  case round =>
    clear H3 hR4 hB3 hG3 hbd3
    obtain ⟨gb, k, T, A, rfl, hgm, H, hR, hB, hlt, hG, hbd, hfull⟩ := hrel
    replace hgm : Kp _ := ⟨hgm⟩
    cases gb
    · have hW : Kp (WOk c T A) := ⟨grow_done hG.out (hfull.out rfl)⟩
      clear hG hbd hfull hgm
      go_wp2_with fail
      go_loopg [6] (meas c (fun _ _ => true) + 1) (fun gm g wr => ∃ (gb : Bool) (A : Int → Int) (U : Int → Int → Bool), g = .bool gb ∧ gm = meas c U + (if gb then 1 else 0) ∧ WaysAt wr (w.heap.size + 1 + 1) n t v c k T A ∧ Room wr (w.heap.size + 1) 407 ∧ Below w.heap.size w wr ∧ w.heap.size + 2 < wr.heap.size ∧ Kp (WOk c T A) ∧ Kp (UOk c T U) ∧ Kp (∀ x d, 0 < T x → OnWay c A x d → U x d = true) ∧ Kp (gb = false → Narrow c T A))
      case atStart => exact ⟨true, _, _, rfl, by simp, H, hR, hB, hlt, hW, ⟨UOk.begin c T⟩, ⟨fun _ _ _ _ => rfl⟩, ⟨fun h => absurd h (by simp)⟩⟩
      case round =>
        clear H hR hB hlt hW
        obtain ⟨gb, A, U, rfl, hgm, H, hR, hB, hlt, hW, hU, hs, hN⟩ := hrel
        replace hgm : Kp _ := ⟨hgm⟩
        cases gb
        · have hN2 : Kp (Narrow c T A) := ⟨hN.out rfl⟩
          obtain ⟨w5, hw5⟩ : ∃ w5 : World, wr.setCells (w.heap.size + 1) 0 (big 407 (wayCells n t v c k T A)).toList = w5 := ⟨_, rfl⟩
          have hcell : Kp (∀ j, j < 407 → w5.cell? ⟨w.heap.size + 1, 0 + j, none⟩ = some (wayCells n t v c k T A j)) := ⟨by rw [← hw5]; exact st_big_cell wr (w.heap.size + 1) 0 407 _ hR.c⟩
          have hB5 : Below w.heap.size w w5 := by rw [← hw5]; exact below_cells hB (b := w.heap.size + 1) (by omega) _ 0
          replace hw5 : Kp _ := ⟨hw5⟩
          repeat (first | refine wp_load_big 138 (.tmp 3) rfl (w.heap.size + 1 + 1) 0 407 (wayCells n t v c k T A) rfl _ Tryz.underlying138 rfl (by kernel_rfl) H.cells ?_ | (refine wp_store_big 138 (.tmp 2) (.tmp 18) rfl (w.heap.size + 1) 0 407 (wayCells n t v c k T A) rfl rfl (by kernel_rfl) hR.c hR.f (fun j _ => way_one _ _ _ _ _ _ _ j) ?_; rw [hw5.out]) | go_step)
          refine bodyPost_ret (v := .agg (big 407 (wayCells n t v c k T A))) (results_cell_big rfl _ w5 (w.heap.size + 1) 0 407 (wayCells n t v c k T A) _ rfl Tryz.underlying138 rfl (by kernel_rfl) hcell.out) rfl ⟨k, T, A, rfl, hN2, hB5⟩
        · clear hN
          go_wp2_with fail
          refine (narrow_any (w.heap.size + 1 + 1) n k t v c T A U wr hc hK hr H hW hU hs).mono ?_
          rintro e w5 ⟨g, A5, rfl, H5, hS5, hb5⟩
          have hR5 := hR.but hb5 (by omega)
          have hB5 : Below w.heap.size w w5 := hB.trans ((hb5.mono hB.size).below (by omega))
          have hz5 := hb5.size
          have hle : Kp (meas c (stepU c T U) ≤ meas c U) := ⟨meas_le hU.out⟩
          clear H hR hB hb5
          go_wp2_with fail
          go_roundg (meas c (stepU c T U) + (if g then 1 else 0))
          case measure =>
            have h1 := hgm.out
            have h2 := hle.out
            have h3 := hS5.out.yes
            simp at h1
            cases g
            · simp; omega
            · have := h3 rfl; simp; omega
          case rel =>
            refine ⟨g, A5, stepU c T U, rfl, rfl, H5, hR5, hB5, by omega, ⟨hS5.out.ok⟩, ⟨hU.out.step⟩, ⟨fun x d hx hw => ?_⟩, ⟨fun hg => ?_⟩⟩
            · exact hS5.out.pass.done x d (hS5.out.ok.pos x hx).1 hx hw
            · have hno := hS5.out.no hg
              refine ⟨hS5.out.ok, fun x h0 h1 h2 => ?_⟩
              rw [hno.1]
              exact hno.2 x h0 h0 h1 h2
    · clear hfull
      go_wp2_with fail
      refine (grow_any (w.heap.size + 1 + 1) n k t v c T A wr hc hK hr H hG hbd).mono ?_
      rintro e w5 ⟨g, k5, T5, A5, rfl, H5, hS5, hb5⟩
      have hR5 := hR.but hb5 (by omega)
      have hB5 : Below w.heap.size w w5 := hB.trans ((hb5.mono hB.size).below (by omega))
      have hz5 := hb5.size
      clear H hR hB hb5
      go_wp2_with fail
      go_roundg (cntW T5 201 + (if g then 1 else 0))
      case measure =>
        have h1 := hgm.out
        have h2 := hS5.out.le
        have h3 := hS5.out.yes
        simp at h1
        cases g
        · simp; omega
        · have := h3 rfl; simp; omega
      case rel =>
        exact ⟨g, k5, T5, A5, rfl, rfl, H5, hR5, hB5, by omega, ⟨hS5.out.ok⟩, ⟨hS5.out.bd⟩, ⟨fun hg x q h0 h1 h2 h3 => (hS5.out.no hg).2 x q h0 h1 h2 h3⟩⟩
end Go.Proofs.YtcnbifdlkalimabGreat
