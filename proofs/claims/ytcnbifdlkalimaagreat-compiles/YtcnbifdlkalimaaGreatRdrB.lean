import Derived.Test.YtcnbifdlkalimaaGreatRdrA
import Derived.Test.YtcnbifdlkalimaaGreatSrcB

/-
  The walks of the document's reading: what it holds in memory, and what may happen to it; no condition but those that stand in each lemma.
-/
namespace Go.Proofs.YtcnbifdlkalimaaGreat
open Go.RowKit
set_option linter.unusedVariables false
set_option maxRecDepth 100000

/-- the cells of a node, and of a statement with its two lists -/
def exV (x : Ex) : List Value := [.int .i64 x.op, .int .i64 x.v, .int .i64 x.l, .int .i64 x.r]
def smV (x : Sm × (Value × Value)) : List Value := [.int .u8 x.1.k, .int .i64 x.1.a, .int .i64 x.1.v, .int .i64 x.1.e, x.2.1, x.2.2, .bool x.1.two]
def itV (l : List Nat) : List Value := l.map fun n => Value.int .i64 (n : Nat)
/-- the two rows -/
def pT (j : Nat) : TypeId := if j = 0 then 166 else 168
def pZ (j : Nat) : Nat := if j = 0 then 4 else 7
def pN (p : Rs) (j : Nat) : Nat := if j = 0 then p.ex.length else p.sm.length
def pV (p : Rs) (sv : List (Value × Value)) (j : Nat) : List Value := if j = 0 then p.ex.flatMap exV else (List.zip p.sm sv).flatMap smV

/-- a list of numbers that none of the two rows touches -/
def IRow (w : World) (B : Nat) (S : Nat → Value) (v : Value) (l : List Nat) : Prop := w.ownsRow B 3 1 v l.length (itV l) ∧ ∀ k, v.ownBlock = some k → ∀ j, j < 2 → (S j).ownBlock ≠ some k

/-- block rb holds the reader, block sb the source -/
structure PsAt (w : World) (rb sb B : Nat) (s : ByteArray) (p : Rs) (tb : ByteArray) (tp : Value) (S : Nat → Value) (sv : List (Value × Value)) : Prop where
  rd : RdAt w rb s p.r
  c3 : w.cell? ⟨rb, 3, none⟩ = some (.pointer (some ⟨sb, 0, none⟩))
  lt : sb < w.heap.size
  ne : sb ≠ rb
  b0 : rb < B
  b1 : sb < B
  cn : w.cell? ⟨sb, 0, none⟩ = some (.int .i64 p.n)
  ct : w.cell? ⟨sb, 1, none⟩ = some (.string tb)
  cl : w.cell? ⟨sb, 2, none⟩ = some (.string (bs p.ls))
  cv : w.cell? ⟨sb, 3, none⟩ = some (.string (bs p.vs))
  c : ∀ j : Nat, j < 2 → w.cell? ⟨sb, 4 + j, none⟩ = some (S j)
  cp : w.cell? ⟨sb, 6, none⟩ = some tp
  f : ∀ j : Nat, j < 7 → w.frozen? ⟨sb, j, none⟩ = false
  o : ∀ j : Nat, j < 2 → w.ownsRow B (pT j) (pZ j) (S j) (pN p j) (pV p sv j)
  d : ∀ i j : Nat, i < 2 → j < 2 → i ≠ j → (S i).ownBlock = none ∨ (S i).ownBlock ≠ (S j).ownBlock
  k : sv.length = p.sm.length
  i : ∀ (i : Nat) (x : Sm) (y : Value × Value), p.sm[i]? = some x → sv[i]? = some y → IRow w B S y.1 x.bo ∧ IRow w B S y.2 x.el
  hB : B ≤ w.heap.size

/-- of what was there before nothing has changed but the reader, the source and its rows; a row is where it was, or new -/
structure PsTo (rb sb : Nat) (S S' : Nat → Value) (w w' : World) : Prop where
  os : w'.os = w.os
  tape : w'.tape = w.tape
  output : w'.output = w.output
  size : w.heap.size ≤ w'.heap.size
  block : ∀ k, k < w.heap.size → k ≠ rb → k ≠ sb → (∀ j, j < 2 → (S j).ownBlock ≠ some k) → w'.heap[k]? = w.heap[k]?
  rows : ∀ j, j < 2 → (S' j).ownBlock = (S j).ownBlock ∨ ∀ k, (S' j).ownBlock = some k → w.heap.size ≤ k

theorem PsTo.refl (rb sb : Nat) (S : Nat → Value) (w : World) : PsTo rb sb S S w w := ⟨rfl, rfl, rfl, Nat.le_refl _, fun _ _ _ _ _ => rfl, fun _ _ => .inl rfl⟩
theorem PsTo.trans {rb sb : Nat} {S S' S'' : Nat → Value} {x y z : World} (h : PsTo rb sb S S' x y) (k : PsTo rb sb S' S'' y z) : PsTo rb sb S S'' x z := by
  refine ⟨k.os.trans h.os, k.tape.trans h.tape, k.output.trans h.output, Nat.le_trans h.size k.size, fun i hi h1 h2 h3 => ?_, fun j hj => ?_⟩
  · rw [k.block i (Nat.lt_of_lt_of_le hi h.size) h1 h2 ?_, h.block i hi h1 h2 h3]
    intro j hj e
    rcases h.rows j hj with c | c
    · exact h3 j hj (by rw [← c]; exact e)
    · have := c i e; omega
  · rcases k.rows j hj with c | c
    · rcases h.rows j hj with c2 | c2
      · exact .inl (c.trans c2)
      · exact .inr fun i e => c2 i (by rw [← c]; exact e)
    · exact .inr fun i e => Nat.le_trans h.size (c i e)
theorem PsTo.below {rb sb : Nat} {S : Nat → Value} {w w' : World} (h : Below w.heap.size w w') : PsTo rb sb S S w w' := ⟨h.os, h.tape, h.output, h.size, fun k hk _ _ _ => h.block k hk, fun _ _ => .inl rfl⟩
theorem PsTo.rd {rb sb : Nat} {S : Nat → Value} {w w' : World} {r : Rd} (h : RdTo w w' rb r) : PsTo rb sb S S w w' := ⟨h.os, h.tape, h.output, by rw [h.size]; exact Nat.le_refl _, fun k _ hb _ _ => h.block k hb, fun _ _ => .inl rfl⟩
theorem PsTo.drewN {rb sb : Nat} {S S' : Nat → Value} {w w' : World} (h : PsTo rb sb S S' w w') (k : Nat) : PsTo rb sb S S' w (w'.drewN k) := ⟨h.os, h.tape, h.output, h.size, h.block, h.rows⟩

theorem IRow.to {rb sb B : Nat} {S S' : Nat → Value} {w w' : World} {v : Value} {l : List Nat} (h : IRow w B S v l) (T : PsTo rb sb S S' w w') (h0 : rb < B) (h1 : sb < B) : IRow w' B S' v l := by
  refine ⟨orow_same h.1 fun k hk => ?_, fun k hk j hj e => ?_⟩
  · have := h.1.lt k hk
    exact T.block k this.2 (by omega) (by omega) (h.2 k hk)
  · have := h.1.lt k hk
    rcases T.rows j hj with c | c
    · exact h.2 k hk j hj (by rw [← c]; exact e)
    · have := c k e; omega
theorem IRow.nil (w : World) (B : Nat) (S : Nat → Value) : IRow w B S (.slice none 0 0) [] := ⟨⟨rfl, .inl ⟨rfl, rfl⟩⟩, fun k hk => by cases hk⟩

theorem PsAt.to {w : World} {rb sb B : Nat} {s : ByteArray} {p : Rs} {tb : ByteArray} {tp : Value} {S : Nat → Value} {sv : List (Value × Value)} (H : PsAt w rb sb B s p tb tp S sv) {w' : World} {S' : Nat → Value} (T : PsTo rb sb S S' w w') (i : Nat) (x : Sm) (y : Value × Value) (hx : p.sm[i]? = some x) (hy : sv[i]? = some y) : IRow w' B S' y.1 x.bo ∧ IRow w' B S' y.2 x.el :=
  ⟨(H.i i x y hx hy).1.to T H.b0 H.b1, (H.i i x y hx hy).2.to T H.b0 H.b1⟩

theorem PsAt.rdto {w w' : World} {rb sb B : Nat} {s : ByteArray} {p : Rs} {tb : ByteArray} {tp : Value} {S : Nat → Value} {sv : List (Value × Value)} {r : Rd} (H : PsAt w rb sb B s p tb tp S sv) (h : RdTo w w' rb r) : PsAt w' rb sb B s { p with r := r } tb tp S sv := by
  have key : ∀ k : Nat, w'.cell? ⟨sb, k, none⟩ = w.cell? ⟨sb, k, none⟩ := fun k => World.cell?_of_block (w := w) (a := ⟨sb, k, none⟩) (h.block sb H.ne)
  exact ⟨H.rd.to h, (h.cell 3 (by omega) (by omega)).trans H.c3, by rw [h.size]; exact H.lt, H.ne, H.b0, H.b1, (key _).trans H.cn, (key _).trans H.ct, (key _).trans H.cl, (key _).trans H.cv, fun j hj => (key _).trans (H.c j hj), (key _).trans H.cp, fun j hj => by rw [World.frozen?_of_block (w := w) (a := ⟨sb, j, none⟩) (h.block sb H.ne)]; exact H.f j hj, fun j hj => orow_same (H.o j hj) fun g hg => h.block g (by have := ((H.o j hj).lt g hg).1; have := H.b0; omega), H.d, H.k, H.to (PsTo.rd h), by rw [h.size]; exact H.hB⟩

theorem PsAt.step {w w' : World} {rb sb B : Nat} {s : ByteArray} {p : Rs} {tb : ByteArray} {tp : Value} {S : Nat → Value} {sv : List (Value × Value)} (H : PsAt w rb sb B s p tb tp S sv) (h : Below w.heap.size w w') : PsAt w' rb sb B s p tb tp S sv := by
  have key : ∀ k : Nat, w'.cell? ⟨sb, k, none⟩ = w.cell? ⟨sb, k, none⟩ := fun k => h.cell (p := ⟨sb, k, none⟩) H.lt
  have keyr : ∀ k : Nat, w'.cell? ⟨rb, k, none⟩ = w.cell? ⟨rb, k, none⟩ := fun k => h.cell (p := ⟨rb, k, none⟩) H.rd.lt
  exact ⟨⟨Nat.lt_of_lt_of_le H.rd.lt h.size, (keyr _).trans H.rd.c0, (keyr _).trans H.rd.c1, (keyr _).trans H.rd.c2, by rw [h.frozen (p := ⟨rb, 1, none⟩) H.rd.lt]; exact H.rd.f1, by rw [h.frozen (p := ⟨rb, 2, none⟩) H.rd.lt]; exact H.rd.f2⟩, (keyr _).trans H.c3, Nat.lt_of_lt_of_le H.lt h.size, H.ne, H.b0, H.b1, (key _).trans H.cn, (key _).trans H.ct, (key _).trans H.cl, (key _).trans H.cv, fun j hj => (key _).trans (H.c j hj), (key _).trans H.cp, fun j hj => by rw [h.frozen (p := ⟨sb, j, none⟩) H.lt]; exact H.f j hj, fun j hj => orow_step (H.o j hj) h, H.d, H.k, H.to (PsTo.below h), Nat.le_trans H.hB h.size⟩

/-- a cell of the source is set that no row lies in -/
theorem PsAt.setC {w : World} {rb sb B k : Nat} {s : ByteArray} {p p' : Rs} {tb tb' : ByteArray} {tp tp' : Value} {S : Nat → Value} {sv : List (Value × Value)} {x : Value} (H : PsAt w rb sb B s p tb tp S sv) (hk : k ≠ 4 ∧ k ≠ 5)
    (hr : p'.r = p.r) (he : p'.ex = p.ex) (hm : p'.sm = p.sm) (h0 : (w.setCell ⟨sb, k, none⟩ x).cell? ⟨sb, 0, none⟩ = some (.int .i64 p'.n)) (h1 : (w.setCell ⟨sb, k, none⟩ x).cell? ⟨sb, 1, none⟩ = some (.string tb')) (h2 : (w.setCell ⟨sb, k, none⟩ x).cell? ⟨sb, 2, none⟩ = some (.string (bs p'.ls))) (h3 : (w.setCell ⟨sb, k, none⟩ x).cell? ⟨sb, 3, none⟩ = some (.string (bs p'.vs))) (h6 : (w.setCell ⟨sb, k, none⟩ x).cell? ⟨sb, 6, none⟩ = some tp') :
    PsAt (w.setCell ⟨sb, k, none⟩ x) rb sb B s p' tb' tp' S sv ∧ PsTo rb sb S S w (w.setCell ⟨sb, k, none⟩ x) := by
  have hb : ∀ g, g ≠ sb → (w.setCell ⟨sb, k, none⟩ x).heap[g]? = w.heap[g]? := fun g hg => Below.heap_setCell w ⟨sb, k, none⟩ x g hg
  have keyr : ∀ i : Nat, (w.setCell ⟨sb, k, none⟩ x).cell? ⟨rb, i, none⟩ = w.cell? ⟨rb, i, none⟩ := fun i => World.cell?_of_block (w := w) (a := ⟨rb, i, none⟩) (hb rb (fun e => H.ne e.symm))
  have T : PsTo rb sb S S w (w.setCell ⟨sb, k, none⟩ x) := ⟨rfl, rfl, rfl, by simp, fun i _ _ h1 _ => hb i h1, fun _ _ => .inl rfl⟩
  have eN : ∀ j, pN p' j = pN p j := fun j => by unfold pN; rw [he, hm]
  have eV : ∀ j, pV p' sv j = pV p sv j := fun j => by unfold pV; rw [he, hm]
  refine ⟨⟨?_, (keyr _).trans H.c3, by simpa using H.lt, H.ne, H.b0, H.b1, h0, h1, h2, h3, fun j hj => (coff _ _ _ _ _ (by omega)).trans (H.c j hj), h6, fun j hj => by rw [World.frozen?_setCell]; exact H.f j hj, fun j hj => ?_, H.d, by rw [hm]; exact H.k, by rw [hm]; exact H.to T, by simpa using H.hB⟩, T⟩
  · rw [hr]
    exact ⟨by simpa using H.rd.lt, (keyr _).trans H.rd.c0, (keyr _).trans H.rd.c1, (keyr _).trans H.rd.c2, by rw [World.frozen?_setCell]; exact H.rd.f1, by rw [World.frozen?_setCell]; exact H.rd.f2⟩
  · rw [eN, eV]
    exact orow_same (H.o j hj) fun g hg => hb g (by have := ((H.o j hj).lt g hg).1; have := H.b1; omega)

/-- a row has grown, and is put back -/
theorem PsAt.told {w wa w3 : World} {rb sb B l : Nat} {s : ByteArray} {p p' : Rs} {tb : ByteArray} {tp : Value} {S : Nat → Value} {sv sv' : List (Value × Value)} {v' : Value} (H : PsAt w rb sb B s p tb tp S sv) (hl : l < 2) (ha : Below w.heap.size w wa) (hg : wa.grownBy w3 (S l).ownBlock) (hown : w3.ownsRow B (pT l) (pZ l) v' (pN p' l) (pV p' sv' l)) (hat : v'.ownBlock = (S l).ownBlock ∨ v'.ownBlock = some wa.heap.size)
    (h0 : p'.r = p.r) (hn : p'.n = p.n) (hls : p'.ls = p.ls) (hvs : p'.vs = p.vs) (hN : ∀ j, j < 2 → j ≠ l → pN p' j = pN p j) (hV : ∀ j, j < 2 → j ≠ l → pV p' sv' j = pV p sv j) (hk : sv'.length = p'.sm.length)
    (hi : ∀ (i : Nat) (x : Sm) (y : Value × Value), p'.sm[i]? = some x → sv'[i]? = some y → IRow w B S y.1 x.bo ∧ IRow w B S y.2 x.el) :
    PsAt (w3.setCell ⟨sb, 4 + l, none⟩ v') rb sb B s p' tb tp (fun j => if j = l then v' else S j) sv' ∧ PsTo rb sb S (fun j => if j = l then v' else S j) w (w3.setCell ⟨sb, 4 + l, none⟩ v') := by
  have hsz := ha.size
  have hlt := H.lt
  have hltr := H.rd.lt
  have hb0 := H.b0
  have hb1 := H.b1
  have hne : some sb ≠ (S l).ownBlock := fun e => by have := ((H.o l hl).lt _ e.symm).1; omega
  have hner : some rb ≠ (S l).ownBlock := fun e => by have := ((H.o l hl).lt _ e.symm).1; omega
  have blk : w3.heap[sb]? = w.heap[sb]? := by rw [hg.block sb (by omega) hne, ha.block sb hlt]
  have blkr : w3.heap[rb]? = w.heap[rb]? := by rw [hg.block rb (by omega) hner, ha.block rb hltr]
  have key0 : ∀ k : Nat, w3.cell? ⟨sb, k, none⟩ = w.cell? ⟨sb, k, none⟩ := fun k => World.cell?_of_block (w := w) (a := ⟨sb, k, none⟩) blk
  have key : ∀ k : Nat, k ≠ 4 + l → (w3.setCell ⟨sb, 4 + l, none⟩ v').cell? ⟨sb, k, none⟩ = w.cell? ⟨sb, k, none⟩ := fun k hk => (coff _ _ _ _ _ (by omega)).trans (key0 k)
  have hsb : ∀ g, g ≠ sb → (w3.setCell ⟨sb, 4 + l, none⟩ v').heap[g]? = w3.heap[g]? := fun g hg => Below.heap_setCell w3 ⟨sb, 4 + l, none⟩ v' g hg
  have blkr2 : (w3.setCell ⟨sb, 4 + l, none⟩ v').heap[rb]? = w.heap[rb]? := (hsb rb (fun e => H.ne e.symm)).trans blkr
  have keyr : ∀ k : Nat, (w3.setCell ⟨sb, 4 + l, none⟩ v').cell? ⟨rb, k, none⟩ = w.cell? ⟨rb, k, none⟩ := fun k => World.cell?_of_block (w := w) (a := ⟨rb, k, none⟩) blkr2
  have keyf : ∀ k : Nat, (w3.setCell ⟨sb, 4 + l, none⟩ v').frozen? ⟨rb, k, none⟩ = w.frozen? ⟨rb, k, none⟩ := fun k => World.frozen?_of_block (w := w) (a := ⟨rb, k, none⟩) blkr2
  have old : ∀ k : Nat, k < 2 → (S k).ownBlock ≠ some wa.heap.size := fun k hk e => by have := (H.o k hk).lt _ e; omega
  have hsz3 : w.heap.size ≤ (w3.setCell ⟨sb, 4 + l, none⟩ v').heap.size := by
    have := hg.size
    simp
    omega
  have T : PsTo rb sb S (fun j => if j = l then v' else S j) w (w3.setCell ⟨sb, 4 + l, none⟩ v') := by
    refine ⟨hg.os.trans ha.os, hg.tape.trans ha.tape, hg.output.trans ha.output, hsz3, fun k hk _ h1 h3 => ?_, fun j hj => ?_⟩
    · rw [hsb k h1, hg.block k (by omega) (fun e => h3 l hl e.symm), ha.block k hk]
    · by_cases e : j = l
      · subst e
        show (if j = j then v' else S j).ownBlock = _ ∨ _
        rw [if_pos rfl]
        rcases hat with hat | hat
        · exact .inl hat
        · refine .inr fun k hk => ?_
          rw [hat] at hk
          have := Option.some.inj hk
          omega
      · show (if j = l then v' else S j).ownBlock = _ ∨ _
        rw [if_neg e]
        exact .inl rfl
  refine ⟨⟨?_, (keyr _).trans H.c3, Nat.lt_of_lt_of_le hlt hsz3, H.ne, hb0, hb1, ?_, (key _ (by omega)).trans H.ct, ?_, ?_, fun j hj => ?_, (key _ (by omega)).trans H.cp, fun j hj => ?_, fun j hj => ?_, fun i j hi hj hij => ?_, hk, fun i x y hx hy => ⟨(hi i x y hx hy).1.to T hb0 hb1, (hi i x y hx hy).2.to T hb0 hb1⟩, Nat.le_trans H.hB hsz3⟩, T⟩
  · rw [h0]
    exact ⟨Nat.lt_of_lt_of_le hltr hsz3, (keyr _).trans H.rd.c0, (keyr _).trans H.rd.c1, (keyr _).trans H.rd.c2, (keyf _).trans H.rd.f1, (keyf _).trans H.rd.f2⟩
  · rw [hn]; exact (key _ (by omega)).trans H.cn
  · rw [hls]; exact (key _ (by omega)).trans H.cl
  · rw [hvs]; exact (key _ (by omega)).trans H.cv
  · by_cases e : j = l
    · subst e
      rw [if_pos rfl]
      exact World.cell?_setCell_same _ _ _ ((key0 _).trans (H.c j hj))
    · rw [if_neg e, key _ (by omega)]
      exact H.c j hj
  · rw [World.frozen?_setCell, World.frozen?_of_block (w := w) (a := ⟨sb, j, none⟩) blk]
    exact H.f j hj
  · by_cases e : j = l
    · subst e
      rw [if_pos rfl]
      exact orow_same hown fun g hg => hsb g (by have := (hown.lt g hg).1; omega)
    · rw [if_neg e, hN j hj e, hV j hj e]
      exact orow_same ((orow_step (H.o j hj) ha).kept hg (H.d j l hj hl e)) fun g hg => hsb g (by have := ((H.o j hj).lt g hg).1; omega)
  · show (if i = l then v' else S i).ownBlock = none ∨ (if i = l then v' else S i).ownBlock ≠ (if j = l then v' else S j).ownBlock
    by_cases e : i = l
    · subst e
      rw [if_pos rfl, if_neg (fun k => hij k.symm)]
      rcases hat with hat | hat
      · rw [hat]; exact H.d i j hi hj hij
      · rw [hat]; exact .inr (fun k => old j hj k.symm)
    · rw [if_neg e]
      by_cases e2 : j = l
      · subst e2
        rw [if_pos rfl]
        rcases hat with hat | hat
        · rw [hat]; exact H.d i j hi hj hij
        · rw [hat]; exact .inr (old i hi)
      · rw [if_neg e2]; exact H.d i j hi hj hij

/-- block k holds one of these lists -/
def FinIn (sv : List (Value × Value)) (k : Nat) : Prop := ∃ y, y ∈ sv ∧ (y.1.ownBlock = some k ∨ y.2.ownBlock = some k)
/-- lists that have come lie in new blocks -/
def PsFin (w : World) (sv sv' : List (Value × Value)) : Prop := ∀ k, FinIn sv' k → FinIn sv k ∨ w.heap.size ≤ k
theorem PsFin.refl (w : World) (sv : List (Value × Value)) : PsFin w sv sv := fun _ h => .inl h
theorem PsFin.trans {w w' : World} {a b c : List (Value × Value)} (h : PsFin w a b) (k : PsFin w' b c) (hs : w.heap.size ≤ w'.heap.size) : PsFin w a c := fun i hi => by
  rcases k i hi with e | e
  · exact h i e
  · exact .inr (by omega)
theorem PsAt.fin {w : World} {rb sb B : Nat} {s : ByteArray} {p : Rs} {tb : ByteArray} {tp : Value} {S : Nat → Value} {sv : List (Value × Value)} (H : PsAt w rb sb B s p tb tp S sv) {k : Nat} (h : FinIn sv k) : B ≤ k ∧ k < w.heap.size := by
  obtain ⟨y, hy, e⟩ := h
  obtain ⟨i, hi, rfl⟩ := List.mem_iff_getElem.1 hy
  have hi2 : i < p.sm.length := by rw [← H.k]; exact hi
  have := H.i i _ _ (List.getElem?_eq_getElem hi2) (List.getElem?_eq_getElem hi)
  rcases e with e | e
  · exact this.1.1.lt k e
  · exact this.2.1.lt k e

/-- block g is none of these -/
structure Fr (rb sb : Nat) (S : Nat → Value) (sv : List (Value × Value)) (g : Nat) : Prop where
  r : g ≠ rb
  s : g ≠ sb
  o : ∀ j, j < 2 → (S j).ownBlock ≠ some g
  f : ¬ FinIn sv g
theorem Fr.to {rb sb g : Nat} {S S' : Nat → Value} {sv sv' : List (Value × Value)} {w w' : World} (F : Fr rb sb S sv g) (hg : g < w.heap.size) (T : PsTo rb sb S S' w w') (N : PsFin w sv sv') : Fr rb sb S' sv' g :=
  ⟨F.r, F.s, fun j hj e => by
    rcases T.rows j hj with c | c
    · exact F.o j hj (by rw [← c]; exact e)
    · have := c g e; omega, fun e => by
    rcases N g e with c | c
    · exact F.f c
    · omega⟩
theorem Fr.same {rb sb g : Nat} {S S' : Nat → Value} {sv : List (Value × Value)} {w w' : World} (F : Fr rb sb S sv g) (hg : g < w.heap.size) (T : PsTo rb sb S S' w w') : w'.heap[g]? = w.heap[g]? := T.block g hg F.r F.s F.o
theorem PsAt.new {w : World} {rb sb B : Nat} {s : ByteArray} {p : Rs} {tb : ByteArray} {tp : Value} {S : Nat → Value} {sv : List (Value × Value)} (H : PsAt w rb sb B s p tb tp S sv) {g : Nat} (hg : w.heap.size ≤ g) : Fr rb sb S sv g :=
  ⟨by have := H.rd.lt; omega, by have := H.lt; omega, fun j hj e => by have := ((H.o j hj).lt g e).2; omega, fun e => by have := (H.fin e).2; omega⟩

/-- another block has changed -/
theorem PsAt.grow {w w' : World} {rb sb B : Nat} {s : ByteArray} {p : Rs} {tb : ByteArray} {tp : Value} {S : Nat → Value} {sv : List (Value × Value)} {row : Option Nat} (H : PsAt w rb sb B s p tb tp S sv) (h : w.grownBy w' row) (F : ∀ g, row = some g → Fr rb sb S sv g) : PsAt w' rb sb B s p tb tp S sv := by
  have nr : some rb ≠ row := fun e => (F rb e.symm).r rfl
  have ns : some sb ≠ row := fun e => (F sb e.symm).s rfl
  have key : ∀ k : Nat, w'.cell? ⟨sb, k, none⟩ = w.cell? ⟨sb, k, none⟩ := fun k => World.cell?_of_block (w := w) (a := ⟨sb, k, none⟩) (h.block sb H.lt ns)
  have keyr : ∀ k : Nat, w'.cell? ⟨rb, k, none⟩ = w.cell? ⟨rb, k, none⟩ := fun k => World.cell?_of_block (w := w) (a := ⟨rb, k, none⟩) (h.block rb H.rd.lt nr)
  have keyf : ∀ k : Nat, w'.frozen? ⟨rb, k, none⟩ = w.frozen? ⟨rb, k, none⟩ := fun k => World.frozen?_of_block (w := w) (a := ⟨rb, k, none⟩) (h.block rb H.rd.lt nr)
  refine ⟨⟨Nat.lt_of_lt_of_le H.rd.lt h.size, (keyr _).trans H.rd.c0, (keyr _).trans H.rd.c1, (keyr _).trans H.rd.c2, (keyf _).trans H.rd.f1, (keyf _).trans H.rd.f2⟩, (keyr _).trans H.c3, Nat.lt_of_lt_of_le H.lt h.size, H.ne, H.b0, H.b1, (key _).trans H.cn, (key _).trans H.ct, (key _).trans H.cl, (key _).trans H.cv, fun j hj => (key _).trans (H.c j hj), (key _).trans H.cp, fun j hj => by rw [World.frozen?_of_block (w := w) (a := ⟨sb, j, none⟩) (h.block sb H.lt ns)]; exact H.f j hj, fun j hj => (H.o j hj).kept h ?_, H.d, H.k, fun i x y hx hy => ⟨⟨(H.i i x y hx hy).1.1.kept h ?_, (H.i i x y hx hy).1.2⟩, ⟨(H.i i x y hx hy).2.1.kept h ?_, (H.i i x y hx hy).2.2⟩⟩, Nat.le_trans H.hB h.size⟩
  · cases e : (S j).ownBlock with
    | none => exact .inl rfl
    | some k => exact .inr fun c => (F k c.symm).o j hj e
  · cases e : y.1.ownBlock with
    | none => exact .inl rfl
    | some k => exact .inr fun c => (F k c.symm).f ⟨y, List.mem_of_getElem? hy, .inl e⟩
  · cases e : y.2.ownBlock with
    | none => exact .inl rfl
    | some k => exact .inr fun c => (F k c.symm).f ⟨y, List.mem_of_getElem? hy, .inr e⟩
theorem PsTo.grow {rb sb : Nat} {S S' : Nat → Value} {w w1 w2 : World} {row : Option Nat} (T : PsTo rb sb S S' w w1) (h : w1.grownBy w2 row) (hr : ∀ g, row = some g → w.heap.size ≤ g) : PsTo rb sb S S' w w2 :=
  ⟨h.os.trans T.os, h.tape.trans T.tape, h.output.trans T.output, Nat.le_trans T.size h.size, fun k hk h1 h2 h3 => by
    rw [h.block k (Nat.lt_of_lt_of_le hk T.size) (fun e => by have := hr k e.symm; omega)]
    exact T.block k hk h1 h2 h3, T.rows⟩
theorem IRow.grow {w w' : World} {B : Nat} {S : Nat → Value} {v : Value} {l : List Nat} {row : Option Nat} (h : IRow w B S v l) (hg : w.grownBy w' row) (hn : ∀ g, row = some g → v.ownBlock ≠ some g) : IRow w' B S v l := by
  refine ⟨h.1.kept hg ?_, h.2⟩
  cases e : v.ownBlock with
  | none => exact .inl rfl
  | some k => exact .inr fun c => hn k c.symm e
theorem grown_set (w : World) (g k : Nat) (x : Value) : w.grownBy (w.setCell ⟨g, k, none⟩ x) (some g) := ⟨rfl, rfl, rfl, by simp, fun i _ h => Below.heap_setCell w ⟨g, k, none⟩ x i (fun e => h (by rw [e]))⟩
end Go.Proofs.YtcnbifdlkalimaaGreat

/-
  The walks of the document's reading: which bytes stand there; one byte taken; for every text of at most 300 bytes, wherever one stands.
-/
namespace Go.Proofs.YtcnbifdlkalimaaGreat
open Go.RowKit
set_option linter.unusedVariables false
set_option maxRecDepth 100000

theorem see_in {s set : ByteArray} {r : Rd} {b : Bool} (h1 : b = true → tok s r ∈ bl set) (h0 : tok s r ∈ bl set → b = true) : seeB s set r = b := by
  unfold seeB
  cases hb : b with
  | true =>
    obtain ⟨i, hi, e⟩ := List.mem_iff_getElem.1 (h1 hb)
    refine decide_eq_true ?_
    have := fnd_le (tok s r) (bl set)
    by_cases c : fnd (tok s r) (bl set) < (bl set).length
    · exact c
    · exact absurd (by rw [List.getElem?_eq_getElem hi, e]) (fnd_before (c := tok s r) (l := bl set) (j := i) (by omega))
  | false =>
    refine (fn_no (fnd_none fun j hj e => ?_)).2
    have := h0 (List.mem_of_getElem? e)
    rw [hb] at this
    cases this

theorem see_dig (s : ByteArray) (r : Rd) : seeB s ⟨#[48, 49, 50, 51, 52, 53, 54, 55, 56, 57]⟩ r = decide (48 ≤ tok s r ∧ tok s r ≤ 57) := by
  have hb : bl ⟨#[48, 49, 50, 51, 52, 53, 54, 55, 56, 57]⟩ = [48, 49, 50, 51, 52, 53, 54, 55, 56, 57] := by decide
  refine see_in (fun h => ?_) (fun h => ?_)
  · rw [hb]
    have := of_decide_eq_true h
    simp
    omega
  · rw [hb] at h
    simp at h
    exact decide_eq_true (by omega)
theorem digZ : NoZ ⟨#[48, 49, 50, 51, 52, 53, 54, 55, 56, 57]⟩ := fun x hx => by
  have hb : bl ⟨#[48, 49, 50, 51, 52, 53, 54, 55, 56, 57]⟩ = [48, 49, 50, 51, 52, 53, 54, 55, 56, 57] := by decide
  rw [hb] at hx; simp at hx; omega
theorem see_stm (s : ByteArray) (r : Rd) : seeB s ⟨#[97, 98, 99, 100, 101, 102, 103, 104, 62, 63, 64]⟩ r = isS (tok s r) := by
  have hb : bl ⟨#[97, 98, 99, 100, 101, 102, 103, 104, 62, 63, 64]⟩ = [97, 98, 99, 100, 101, 102, 103, 104, 62, 63, 64] := by decide
  refine see_in (fun h => ?_) (fun h => ?_)
  · rw [hb]
    unfold isS isL at h
    simp at h
    simp
    omega
  · rw [hb] at h
    unfold isS isL
    simp at h
    simp
    omega
theorem stmZ : NoZ ⟨#[97, 98, 99, 100, 101, 102, 103, 104, 62, 63, 64]⟩ := fun x hx => by
  have hb : bl ⟨#[97, 98, 99, 100, 101, 102, 103, 104, 62, 63, 64]⟩ = [97, 98, 99, 100, 101, 102, 103, 104, 62, 63, 64] := by decide
  rw [hb] at hx; simp at hx; omega
theorem bin_bl : bl ⟨#[43, 45, 42, 60, 126]⟩ = [43, 45, 42, 60, 126] := by decide
theorem binZ : NoZ ⟨#[43, 45, 42, 60, 126]⟩ := fun x hx => by rw [bin_bl] at hx; simp at hx; omega
theorem see_bin (s : ByteArray) (r : Rd) : seeB s ⟨#[43, 45, 42, 60, 126]⟩ r = (opOf (tok s r) != 0) ∧ (opOf (tok s r) ≠ 0 → ((fnI (tok s r) (bl ⟨#[43, 45, 42, 60, 126]⟩) : Nat) : Int) = opOf (tok s r) - 3) := by
  unfold seeB
  rw [bin_bl]
  generalize tok s r = t
  by_cases h : t = 43 ∨ t = 45 ∨ t = 42 ∨ t = 60 ∨ t = 126
  · rcases h with rfl | rfl | rfl | rfl | rfl <;> decide
  · have e : opOf t = 0 := by
      unfold opOf
      rw [if_neg (by omega), if_neg (by omega), if_neg (by omega), if_neg (by omega), if_neg (by omega)]
    rw [e]
    refine ⟨(fn_no (fnd_none fun j hj e => ?_)).2, fun k => absurd rfl k⟩
    have := List.mem_of_getElem? e
    simp at this
    omega

theorem see_one {s set : ByteArray} {r : Rd} {c : Int} (hb : bl set = [c]) : seeB s set r = (tok s r == c) ∧ fnI (tok s r) (bl set) = 0 := by
  unfold seeB
  rw [hb]
  by_cases h : tok s r = c
  · have e : fnd (tok s r) [c] = 0 := fnd_eq (by rw [h]; rfl) fun j hj => by omega
    have hy := fn_yes e (by simp)
    exact ⟨by rw [hy.2, h]; simp, hy.1⟩
  · have hn := fn_no (c := tok s r) (l := [c]) (fnd_none fun j hj e => by
      have := List.mem_of_getElem? e
      simp at this
      exact h this)
    exact ⟨by rw [hn.2]; exact (beq_eq_false_iff_ne.2 h).symm, hn.1⟩
theorem oneZ {set : ByteArray} {c : Int} (hb : bl set = [c]) (hc : c ≠ 0) : NoZ set := fun x hx => by
  rw [hb] at hx
  have := List.mem_singleton.1 hx
  omega
theorem sees1_any (b : Nat) (s set : ByteArray) (c : Int) (r : Rd) (w : World) (H : RdAt w b s r) (O : RdOk s r) (hb : bl set = [c]) (hc : c ≠ 0) :
    Calls Tryz.prog 174 #[.pointer (some ⟨b, 0, none⟩), .string set] w fun e w' => e = .returned (.bool (tok s r == c)) ∧ RdTo w w' b (adv s r) := by
  have h := sees_any b s set r w H O (oneZ hb hc) (by rw [← bl_len, hb]; simp)
  rw [(see_one hb).1] at h
  exact h
theorem takes1_any (b : Nat) (s set : ByteArray) (c : Int) (r : Rd) (w : World) (H : RdAt w b s r) (O : RdOk s r) (hb : bl set = [c]) (hc : c ≠ 0) :
    Calls Tryz.prog 173 #[.pointer (some ⟨b, 0, none⟩), .string set] w fun e w' => e = .returned (.int .i64 0) ∧ RdTo w w' b (tk s r c) := by
  have h := takesP_any b s set r w H O (oneZ hb hc) (by rw [← bl_len, hb]; simp)
  rw [(see_one hb).1, (see_one hb).2] at h
  exact h
end Go.Proofs.YtcnbifdlkalimaaGreat
