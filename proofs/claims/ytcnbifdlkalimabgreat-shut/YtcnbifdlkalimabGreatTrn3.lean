/-
  The walks of the package translation, third part: what the translator holds in memory, and what may happen to it; no condition but those that stand in each lemma.
-/
import Derived.Test.YtcnbifdlkalimabGreatTrn2
import Derived.Test.YtcnbifdlkalimabGreatSrc2
import Derived.Test.YtcnbifdlkalimabGreatCnv
import Derived.Maps.AppendAt
import Derived.Laws.OwnMore
namespace Go.Proofs.YtcnbifdlkalimabGreat
open Go.RowKit
set_option linter.unusedVariables false
set_option maxRecDepth 100000

/-- the cells of a statement -/
def stV (x : Sq) : List Value := [.int .i64 x.k, .int .i64 x.pl, .int .i64 x.ou, .int .i64 x.ta, .bool (x.rd 0), .bool (x.rd 1), .bool (x.rd 2), .bool (x.rd 3), .bool (x.rd 4), .bool (x.rd 5), .bool (x.tp 0), .bool (x.tp 1), .bool (x.tp 2), .bool (x.tp 3), .bool (x.tp 4), .bool (x.tp 5)]

/-- the four rows: the letters, the variables' levels, the code, the statements: the cell, the type and size of an element, how many, the cells -/
def trC (j : Nat) : Nat := if j = 0 then 41 else if j = 1 then 42 else if j = 2 then 43 else 46
def rowT (j : Nat) : TypeId := if j = 3 then 109 else 5
def rowS (j : Nat) : Nat := if j = 3 then 16 else 1
def rowN (q : Tq) (j : Nat) : Nat := if j = 0 then q.ls.length else if j = 1 then q.vs.length else if j = 2 then q.cd.length else q.ss.length
def rowV (q : Tq) (j : Nat) : List Value := if j = 0 then q.ls.map (Value.int .u8) else if j = 1 then q.vs.map (Value.int .u8) else if j = 2 then q.cd.map (Value.int .u8) else q.ss.flatMap stV

theorem rowC_or (j : Nat) : trC j = 41 ∨ trC j = 42 ∨ trC j = 43 ∨ trC j = 46 := by
  unfold trC
  split
  · exact .inl rfl
  · split
    · exact .inr (.inl rfl)
    · split
      · exact .inr (.inr (.inl rfl))
      · exact .inr (.inr (.inr rfl))

theorem orow_step {w w' : World} {B : Nat} {e : TypeId} {z : Nat} {v : Value} {k : Nat} {xs : List Value} (h : w.ownsRow B e z v k xs) (hb : Below w.heap.size w w') : w'.ownsRow B e z v k xs := by
  refine ⟨h.1, ?_⟩
  rcases h.2 with hn | ⟨g, cap, cur, rfl, hbb, hgg, rest⟩
  · exact .inl hn
  · exact .inr ⟨g, cap, cur, rfl, hbb, by rw [hb.block g (Array.getElem?_eq_some_iff.1 hgg).1]; exact hgg, rest⟩
/-- the block of the row has not changed -/
theorem orow_same {w w' : World} {B : Nat} {e : TypeId} {z : Nat} {v : Value} {k : Nat} {xs : List Value} (h : w.ownsRow B e z v k xs) (hb : ∀ g, v.ownBlock = some g → w'.heap[g]? = w.heap[g]?) : w'.ownsRow B e z v k xs := by
  refine ⟨h.1, ?_⟩
  rcases h.2 with hn | ⟨g, cap, cur, rfl, hbb, hgg, rest⟩
  · exact .inl hn
  · exact .inr ⟨g, cap, cur, rfl, hbb, by rw [hb g rfl]; exact hgg, rest⟩

/-- block b holds the translator -/
structure TrAt (w : World) (b : Nat) (s : ByteArray) (q : Tq) (S : Nat → Value) : Prop where
  lt : b < w.heap.size
  c0 : w.cell? ⟨b, 0, none⟩ = some (.string s)
  c1 : w.cell? ⟨b, 1, none⟩ = some (.int .i64 q.r.a)
  c2 : w.cell? ⟨b, 2, none⟩ = some (.int .i64 q.r.er)
  c3 : w.cell? ⟨b, 3, none⟩ = some (.int .i64 q.n)
  c4 : w.cell? ⟨b, 4, none⟩ = some (.int .i64 q.pn)
  cp : ∀ i j : Nat, i < 6 → j < 6 → w.cell? ⟨b, 5 + 6 * i + j, none⟩ = some (.bool (q.pr i j))
  ch : w.cell? ⟨b, 44, none⟩ = some (.int .i64 q.h)
  ci : w.cell? ⟨b, 45, none⟩ = some (.int .i64 q.hi)
  c : ∀ j : Nat, j < 4 → w.cell? ⟨b, trC j, none⟩ = some (S j)
  o : ∀ j : Nat, j < 4 → w.ownsRow (b + 1) (rowT j) (rowS j) (S j) (rowN q j) (rowV q j)
  d : ∀ i j : Nat, i < 4 → j < 4 → i ≠ j → (S i).ownBlock = none ∨ (S i).ownBlock ≠ (S j).ownBlock
  f : ∀ j : Nat, j < 47 → w.frozen? ⟨b, j, none⟩ = false

/-- of what was there before nothing has changed but the translator, its rows, and block g; a row is where it was, or new -/
structure TrTo (b g : Nat) (S S' : Nat → Value) (w w' : World) : Prop where
  os : w'.os = w.os
  tape : w'.tape = w.tape
  output : w'.output = w.output
  size : w.heap.size ≤ w'.heap.size
  block : ∀ k, k < w.heap.size → k ≠ b → k ≠ g → (∀ j, j < 4 → (S j).ownBlock ≠ some k) → w'.heap[k]? = w.heap[k]?
  rows : ∀ j, j < 4 → (S' j).ownBlock = (S j).ownBlock ∨ ∀ k, (S' j).ownBlock = some k → w.heap.size ≤ k

theorem TrTo.refl (b g : Nat) (S : Nat → Value) (w : World) : TrTo b g S S w w := ⟨rfl, rfl, rfl, Nat.le_refl _, fun _ _ _ _ _ => rfl, fun _ _ => .inl rfl⟩
theorem TrTo.trans {b g : Nat} {S S' S'' : Nat → Value} {x y z : World} (h : TrTo b g S S' x y) (k : TrTo b g S' S'' y z) : TrTo b g S S'' x z := by
  refine ⟨k.os.trans h.os, k.tape.trans h.tape, k.output.trans h.output, Nat.le_trans h.size k.size, fun i hi h1 h2 h3 => ?_, fun j hj => ?_⟩
  · rw [k.block i (Nat.lt_of_lt_of_le hi h.size) h1 h2 ?_, h.block i hi h1 h2 h3]
    intro j hj e
    rcases h.rows j hj with c | c
    · exact h3 j hj (by rw [← c]; exact e)
    · have := c i e; omega
  · rcases k.rows j hj with c | c
    · rcases h.rows j hj with c2 | c2
      · exact .inl (c.trans c2)
      · exact .inr fun i e => c2 i (by rw [← c]; exact e)
    · exact .inr fun i e => Nat.le_trans h.size (c i e)
theorem TrTo.up {b g : Nat} {S S' : Nat → Value} {w w' : World} (h : TrTo b b S S' w w') : TrTo b g S S' w w' := ⟨h.os, h.tape, h.output, h.size, fun k hk h1 _ h3 => h.block k hk h1 h1 h3, h.rows⟩
theorem TrTo.below {b g : Nat} {S : Nat → Value} {w w' : World} (h : Below w.heap.size w w') : TrTo b g S S w w' := ⟨h.os, h.tape, h.output, h.size, fun k hk _ _ _ => h.block k hk, fun _ _ => .inl rfl⟩
theorem TrTo.rd {b g : Nat} {S : Nat → Value} {w w' : World} {r : Rd} (h : RdTo w w' b r) : TrTo b g S S w w' := ⟨h.os, h.tape, h.output, by rw [h.size]; exact Nat.le_refl _, fun k _ hb _ _ => h.block k hb, fun _ _ => .inl rfl⟩
/-- seen from outside: what lies below b stays -/
theorem TrTo.out {b g : Nat} {s : ByteArray} {q : Tq} {S S' : Nat → Value} {w w' : World} (h : TrTo b g S S' w w') (H : TrAt w b s q S) (hg : b ≤ g) : Below b w w' :=
  ⟨h.os, h.tape, h.output, h.size, fun k hk => h.block k (Nat.lt_trans hk H.lt) (by omega) (by omega) fun j hj e => by have := ((H.o j hj).lt k e).1; omega⟩

/-- block g is none of these -/
structure Fre (w : World) (b : Nat) (S : Nat → Value) (g : Nat) : Prop where
  lt : g < w.heap.size
  ne : g ≠ b
  no : ∀ j, j < 4 → (S j).ownBlock ≠ some g
theorem Fre.to {b g h : Nat} {S S' : Nat → Value} {w w' : World} (F : Fre w b S g) (T : TrTo b h S S' w w') : Fre w' b S' g :=
  ⟨Nat.lt_of_lt_of_le F.lt T.size, F.ne, fun j hj e => by
    rcases T.rows j hj with c | c
    · exact F.no j hj (by rw [← c]; exact e)
    · have := c g e; have := F.lt; omega⟩
theorem Fre.same {b g : Nat} {S S' : Nat → Value} {w w' : World} (F : Fre w b S g) (T : TrTo b b S S' w w') : w'.heap[g]? = w.heap[g]? := T.block g F.lt F.ne F.ne F.no

theorem TrAt.rdAt {w : World} {b : Nat} {s : ByteArray} {q : Tq} {S : Nat → Value} (H : TrAt w b s q S) : RdAt w b s q.r := ⟨H.lt, H.c0, H.c1, H.c2, H.f 1 (by omega), H.f 2 (by omega)⟩

theorem TrAt.rd {w w' : World} {b : Nat} {s : ByteArray} {q : Tq} {S : Nat → Value} {r : Rd} (H : TrAt w b s q S) (h : RdTo w w' b r) : TrAt w' b s { q with r := r } S := by
  have hc : ∀ j, trC j ≠ 1 ∧ trC j ≠ 2 := fun j => by have := rowC_or j; omega
  refine ⟨by rw [h.size]; exact H.lt, (h.cell 0 (by omega) (by omega)).trans H.c0, h.c1, h.c2, (h.cell 3 (by omega) (by omega)).trans H.c3, (h.cell 4 (by omega) (by omega)).trans H.c4, fun i j hi hj => (h.cell _ (by omega) (by omega)).trans (H.cp i j hi hj), (h.cell 44 (by omega) (by omega)).trans H.ch, (h.cell 45 (by omega) (by omega)).trans H.ci, fun j hj => (h.cell _ (hc j).1 (hc j).2).trans (H.c j hj), fun j hj => ?_, H.d, fun j hj => (h.frozen j).trans (H.f j hj)⟩
  exact orow_same (H.o j hj) fun g hg => h.block g (by have := ((H.o j hj).lt g hg).1; omega)

theorem TrAt.step {w w' : World} {b : Nat} {s : ByteArray} {q : Tq} {S : Nat → Value} (H : TrAt w b s q S) (h : Below w.heap.size w w') : TrAt w' b s q S := by
  have key : ∀ k : Nat, w'.cell? ⟨b, k, none⟩ = w.cell? ⟨b, k, none⟩ := fun k => h.cell (p := ⟨b, k, none⟩) H.lt
  exact ⟨Nat.lt_of_lt_of_le H.lt h.size, (key _).trans H.c0, (key _).trans H.c1, (key _).trans H.c2, (key _).trans H.c3, (key _).trans H.c4, fun i j hi hj => (key _).trans (H.cp i j hi hj), (key _).trans H.ch, (key _).trans H.ci, fun j hj => (key _).trans (H.c j hj), fun j hj => orow_step (H.o j hj) h, H.d, fun j hj => by rw [h.frozen (p := ⟨b, j, none⟩) H.lt]; exact H.f j hj⟩

/-- a cell of the translator is set that no row lies in -/
theorem TrAt.cellSet {w : World} {b k : Nat} {s : ByteArray} {q q' : Tq} {S : Nat → Value} {x : Value} (H : TrAt w b s q S) (hk : 2 < k) (hr : ∀ j, j < 4 → trC j ≠ k)
    (h0 : q'.r = q.r) (h3 : (w.setCell ⟨b, k, none⟩ x).cell? ⟨b, 3, none⟩ = some (.int .i64 q'.n)) (h4 : (w.setCell ⟨b, k, none⟩ x).cell? ⟨b, 4, none⟩ = some (.int .i64 q'.pn))
    (hp : ∀ i j : Nat, i < 6 → j < 6 → (w.setCell ⟨b, k, none⟩ x).cell? ⟨b, 5 + 6 * i + j, none⟩ = some (.bool (q'.pr i j)))
    (hh : (w.setCell ⟨b, k, none⟩ x).cell? ⟨b, 44, none⟩ = some (.int .i64 q'.h)) (hi : (w.setCell ⟨b, k, none⟩ x).cell? ⟨b, 45, none⟩ = some (.int .i64 q'.hi))
    (hN : ∀ j, j < 4 → rowN q' j = rowN q j) (hV : ∀ j, j < 4 → rowV q' j = rowV q j) : TrAt (w.setCell ⟨b, k, none⟩ x) b s q' S ∧ TrTo b b S S w (w.setCell ⟨b, k, none⟩ x) := by
  have key : ∀ i : Nat, i ≠ k → (w.setCell ⟨b, k, none⟩ x).cell? ⟨b, i, none⟩ = w.cell? ⟨b, i, none⟩ := fun i hi => coff _ _ _ _ _ (by omega)
  have hb : ∀ g, g ≠ b → (w.setCell ⟨b, k, none⟩ x).heap[g]? = w.heap[g]? := fun g hg => Below.heap_setCell w ⟨b, k, none⟩ x g hg
  refine ⟨⟨by simpa using H.lt, (key _ (by omega)).trans H.c0, by rw [h0]; exact (key _ (by omega)).trans H.c1, by rw [h0]; exact (key _ (by omega)).trans H.c2, h3, h4, hp, hh, hi, fun j hj => (key _ (hr j hj)).trans (H.c j hj), fun j hj => ?_, H.d, fun j hj => by rw [World.frozen?_setCell]; exact H.f j hj⟩, ⟨rfl, rfl, rfl, by simp, fun i _ h1 _ _ => hb i h1, fun _ _ => .inl rfl⟩⟩
  rw [hN j hj, hV j hj]
  exact orow_same (H.o j hj) fun g hg => hb g (by have := ((H.o j hj).lt g hg).1; omega)

theorem rowC_ne {k : Nat} (h : k ≠ 41) (h1 : k ≠ 42) (h2 : k ≠ 43) (h3 : k ≠ 46) : ∀ j, j < 4 → trC j ≠ k := by
  intro j hj
  match j, hj with
  | 0, _ => exact fun e => h (by rw [← e]; rfl)
  | 1, _ => exact fun e => h1 (by rw [← e]; rfl)
  | 2, _ => exact fun e => h2 (by rw [← e]; rfl)
  | 3, _ => exact fun e => h3 (by rw [← e]; rfl)

theorem TrAt.setH {w : World} {b : Nat} {s : ByteArray} {q : Tq} {S : Nat → Value} (H : TrAt w b s q S) (y : Int) : TrAt (w.setCell ⟨b, 44, none⟩ (.int .i64 y)) b s { q with h := y } S ∧ TrTo b b S S w (w.setCell ⟨b, 44, none⟩ (.int .i64 y)) :=
  H.cellSet (by omega) (rowC_ne (by omega) (by omega) (by omega) (by omega)) rfl ((coff _ _ _ _ _ (by omega)).trans H.c3) ((coff _ _ _ _ _ (by omega)).trans H.c4) (fun i j hi hj => (coff _ _ _ _ _ (by omega)).trans (H.cp i j hi hj)) (World.cell?_setCell_same _ _ _ H.ch) ((coff _ _ _ _ _ (by omega)).trans H.ci) (fun _ _ => rfl) (fun _ _ => rfl)
theorem TrAt.setHi {w : World} {b : Nat} {s : ByteArray} {q : Tq} {S : Nat → Value} (H : TrAt w b s q S) (y : Int) : TrAt (w.setCell ⟨b, 45, none⟩ (.int .i64 y)) b s { q with hi := y } S ∧ TrTo b b S S w (w.setCell ⟨b, 45, none⟩ (.int .i64 y)) :=
  H.cellSet (by omega) (rowC_ne (by omega) (by omega) (by omega) (by omega)) rfl ((coff _ _ _ _ _ (by omega)).trans H.c3) ((coff _ _ _ _ _ (by omega)).trans H.c4) (fun i j hi hj => (coff _ _ _ _ _ (by omega)).trans (H.cp i j hi hj)) ((coff _ _ _ _ _ (by omega)).trans H.ch) (World.cell?_setCell_same _ _ _ H.ci) (fun _ _ => rfl) (fun _ _ => rfl)
theorem TrAt.setN {w : World} {b : Nat} {s : ByteArray} {q : Tq} {S : Nat → Value} (H : TrAt w b s q S) (y : Int) : TrAt (w.setCell ⟨b, 3, none⟩ (.int .i64 y)) b s { q with n := y } S ∧ TrTo b b S S w (w.setCell ⟨b, 3, none⟩ (.int .i64 y)) :=
  H.cellSet (by omega) (rowC_ne (by omega) (by omega) (by omega) (by omega)) rfl (World.cell?_setCell_same _ _ _ H.c3) ((coff _ _ _ _ _ (by omega)).trans H.c4) (fun i j hi hj => (coff _ _ _ _ _ (by omega)).trans (H.cp i j hi hj)) ((coff _ _ _ _ _ (by omega)).trans H.ch) ((coff _ _ _ _ _ (by omega)).trans H.ci) (fun _ _ => rfl) (fun _ _ => rfl)

/-- a row has grown, and is put back -/
theorem TrAt.told {w wa w3 : World} {b l : Nat} {s : ByteArray} {q q' : Tq} {S : Nat → Value} {v' : Value} (H : TrAt w b s q S) (hl : l < 4) (ha : Below w.heap.size w wa) (hg : wa.grownBy w3 (S l).ownBlock) (hown : w3.ownsRow (b + 1) (rowT l) (rowS l) v' (rowN q' l) (rowV q' l)) (hat : v'.ownBlock = (S l).ownBlock ∨ v'.ownBlock = some wa.heap.size)
    (h0 : q'.r = q.r) (hn : q'.n = q.n) (hpn : q'.pn = q.pn) (hpr : q'.pr = q.pr) (hh : q'.h = q.h) (hi : q'.hi = q.hi) (hN : ∀ j, j < 4 → j ≠ l → rowN q' j = rowN q j) (hV : ∀ j, j < 4 → j ≠ l → rowV q' j = rowV q j) :
    TrAt (w3.setCell ⟨b, trC l, none⟩ v') b s q' (fun j => if j = l then v' else S j) ∧ TrTo b b S (fun j => if j = l then v' else S j) w (w3.setCell ⟨b, trC l, none⟩ v') := by
  have hsz := ha.size
  have hlt := H.lt
  have hne : some b ≠ (S l).ownBlock := fun e => by have := (H.o l hl).lt _ e.symm; omega
  have blk : w3.heap[b]? = w.heap[b]? := by rw [hg.block b (by omega) hne, ha.block b hlt]
  have key0 : ∀ k : Nat, w3.cell? ⟨b, k, none⟩ = w.cell? ⟨b, k, none⟩ := fun k => World.cell?_of_block (w := w) (a := ⟨b, k, none⟩) blk
  have key : ∀ k : Nat, k ≠ trC l → (w3.setCell ⟨b, trC l, none⟩ v').cell? ⟨b, k, none⟩ = w.cell? ⟨b, k, none⟩ := fun k hk => (coff _ _ _ _ _ (by omega)).trans (key0 k)
  have hrc : ∀ k, (k < 41 ∨ k = 44 ∨ k = 45) → k ≠ trC l := by
    intro k hk e
    have := rowC_or l
    omega
  have hcc : ∀ j, j < 4 → j ≠ l → trC j ≠ trC l := by
    intro j hj hjl e
    unfold trC at e
    match j, l, hj, hl with
    | 0, 0, _, _ => exact hjl rfl
    | 1, 1, _, _ => exact hjl rfl
    | 2, 2, _, _ => exact hjl rfl
    | 3, 3, _, _ => exact hjl rfl
    | 0, 1, _, _ => simp at e
    | 0, 2, _, _ => simp at e
    | 0, 3, _, _ => simp at e
    | 1, 0, _, _ => simp at e
    | 1, 2, _, _ => simp at e
    | 1, 3, _, _ => simp at e
    | 2, 0, _, _ => simp at e
    | 2, 1, _, _ => simp at e
    | 2, 3, _, _ => simp at e
    | 3, 0, _, _ => simp at e
    | 3, 1, _, _ => simp at e
    | 3, 2, _, _ => simp at e
  have hsb : ∀ g, g ≠ b → (w3.setCell ⟨b, trC l, none⟩ v').heap[g]? = w3.heap[g]? := fun g hg => Below.heap_setCell w3 ⟨b, trC l, none⟩ v' g hg
  have old : ∀ k : Nat, k < 4 → (S k).ownBlock ≠ some wa.heap.size := fun k hk e => by have := (H.o k hk).lt _ e; omega
  refine ⟨⟨?_, ?_, ?_, ?_, ?_, ?_, fun i j hi hj => ?_, ?_, ?_, fun j hj => ?_, fun j hj => ?_, fun i j hi hj hij => ?_, fun j hj => ?_⟩, ⟨?_, ?_, ?_, ?_, fun k hk h1 _ h3 => ?_, fun j hj => ?_⟩⟩
  · have := hg.size
    simp
    omega
  · exact (key _ (hrc 0 (by omega))).trans H.c0
  · rw [h0]; exact (key _ (hrc 1 (by omega))).trans H.c1
  · rw [h0]; exact (key _ (hrc 2 (by omega))).trans H.c2
  · rw [hn]; exact (key _ (hrc 3 (by omega))).trans H.c3
  · rw [hpn]; exact (key _ (hrc 4 (by omega))).trans H.c4
  · rw [hpr]; exact (key _ (hrc _ (by omega))).trans (H.cp i j hi hj)
  · rw [hh]; exact (key _ (hrc 44 (by omega))).trans H.ch
  · rw [hi]; exact (key _ (hrc 45 (by omega))).trans H.ci
  · by_cases e : j = l
    · subst e
      rw [if_pos rfl]
      exact World.cell?_setCell_same _ _ _ ((key0 _).trans (H.c j hj))
    · rw [if_neg e, key _ (hcc j hj e)]
      exact H.c j hj
  · by_cases e : j = l
    · subst e
      rw [if_pos rfl]
      exact orow_same hown fun g hg => hsb g (by have := (hown.lt g hg).1; omega)
    · rw [if_neg e, hN j hj e, hV j hj e]
      exact orow_same ((orow_step (H.o j hj) ha).kept hg (H.d j l hj hl e)) fun g hg => hsb g (by have := ((H.o j hj).lt g hg).1; omega)
  · show (if i = l then v' else S i).ownBlock = none ∨ (if i = l then v' else S i).ownBlock ≠ (if j = l then v' else S j).ownBlock
    by_cases e : i = l
    · subst e
      rw [if_pos rfl, if_neg (fun k => hij k.symm)]
      rcases hat with hat | hat
      · rw [hat]; exact H.d i j hi hj hij
      · rw [hat]; exact .inr (fun k => old j hj k.symm)
    · rw [if_neg e]
      by_cases e2 : j = l
      · subst e2
        rw [if_pos rfl]
        rcases hat with hat | hat
        · rw [hat]; exact H.d i j hi hj hij
        · rw [hat]; exact .inr (old i hi)
      · rw [if_neg e2]; exact H.d i j hi hj hij
  · rw [World.frozen?_setCell, World.frozen?_of_block (w := w) (a := ⟨b, j, none⟩) blk]
    exact H.f j hj
  · exact hg.os.trans ha.os
  · exact hg.tape.trans ha.tape
  · exact hg.output.trans ha.output
  · have := hg.size
    simp
    omega
  · rw [hsb k h1, hg.block k (by omega) (fun e => h3 l hl e.symm), ha.block k hk]
  · by_cases e : j = l
    · subst e
      show (if j = j then v' else S j).ownBlock = _ ∨ _
      rw [if_pos rfl]
      rcases hat with hat | hat
      · exact .inl hat
      · refine .inr fun k hk => ?_
        rw [hat] at hk
        have := Option.some.inj hk
        omega
    · show (if j = l then v' else S j).ownBlock = _ ∨ _
      rw [if_neg e]
      exact .inl rfl
end Go.Proofs.YtcnbifdlkalimabGreat
