import Derived.Test.YtcnbifdlkalimaaGreatChk5
import Derived.Test.YtcnbifdlkalimaaGreatChk6
import Derived.Test.YtcnbifdlkalimaaGreatChkB
import Derived.Test.YtcnbifdlkalimaaGreatRf5
import Derived.Test.YtcnbifdlkalimaaGreatLabC

/-
  The walk of the document's own answer on what is let through (package sluiceref, P5), twelfth part: Check; for every text.
-/
namespace Go.Proofs.YtcnbifdlkalimaaGreat
open Go.RowKit Go.Deep
set_option linter.unusedVariables false
set_option maxRecDepth 100000

/-- what Check has laid: the unit and the marks of what is live -/
structure CB (w wr : World) (u gl : Nat) (n : Int) (t v c : ByteArray) (lm : Nat → Bool) : Prop where
  b : Below w.heap.size w wr
  o : Own wr u [.int .i64 n, .string t, .string v, .string c, .int .i64 (half c)]
  rl : wr.rowIs gl 4 ((half c).toNat + 1) (fun j => .bool (lm j))

theorem CB.step {w wr w1 : World} {u gl : Nat} {n : Int} {t v c : ByteArray} {lm : Nat → Bool} (H : CB w wr u gl n t v c lm) (hb : Below wr.heap.size wr w1) : CB w w1 u gl n t v c lm :=
  ⟨H.b.trans (hb.mono H.b.size), H.o.step hb, H.rl.of_block (hb.block _ H.rl.lt)⟩

theorem info_slb : (Tryz.prog.info? 57).map (fun i => (i.zero, i.size, i.bytes)) = some (some (.slice none 0 0), 1, 24) := by kernel_rfl
theorem info_mks : (Tryz.prog.info? 69).map (fun i => (i.zero, i.size, i.bytes)) = some (some (.pointer none), 1, 8) := by kernel_rfl

theorem keep5 {w W : World} {u : Nat} {n : Int} {t v c : ByteArray} (O : Own w u [.int .i64 n, .string t, .string v, .string c, .int .i64 (half c)]) (hb : Below w.heap.size w W) : W.cell? ⟨u, 0, none⟩ = some (.int .i64 n) ∧ W.cell? ⟨u, 1, none⟩ = some (.string t) ∧ W.cell? ⟨u, 2, none⟩ = some (.string v) ∧ W.cell? ⟨u, 3, none⟩ = some (.string c) ∧ W.cell? ⟨u, 4, none⟩ = some (.int .i64 (half c)) :=
  have O' := O.step hb
  ⟨O'.c 0 _ rfl, O'.c 1 _ rfl, O'.c 2 _ rfl, O'.c 3 _ rfl, O'.c 4 _ rfl⟩

/-- what Check has laid while it lays the regions: those below k are there -/
structure FlP (w wr : World) (u gl gh f gr : Nat) (n : Int) (t v c : ByteArray) (lm : Nat → Bool) (h : Nat → Int) (R : Nat → Nat → Bool) (rv : Nat → Value) (k : Nat) : Prop where
  cb : CB w wr u gl n t v c lm
  rh : wr.rowIs gh 3 ((half c).toNat + 1) (fun j => .int .i64 (h j))
  oF : Own wr f [.int .i64 n, .string t, .string v, .string c, .int .i64 (half c), .slice (some ⟨gl, 0, none⟩) ((half c).toNat + 1) ((half c).toNat + 1), .slice (some ⟨gh, 0, none⟩) ((half c).toNat + 1) ((half c).toNat + 1), .slice (some ⟨gr, 0, none⟩) ((half c).toNat + 1) ((half c).toNat + 1)]
  rr : wr.rowIs gr 57 ((half c).toNat + 1) rv
  gw : w.heap.size ≤ gr
  ne : gr ≠ u ∧ gr ≠ gl ∧ gr ≠ gh ∧ gr ≠ f
  rc : ∀ i : Nat, i < k → lm i = true → bv c (2 * i) = 9 → ∃ g, g < wr.heap.size ∧ g ≠ gr ∧ rv i = .slice (some ⟨g, 0, none⟩) ((half c).toNat + 1) ((half c).toNat + 1) ∧ ∀ j, j < (half c).toNat + 1 → wr.cell? ⟨g, j, none⟩ = some (.bool (R i j))

theorem FlP.step {w wr w1 : World} {u gl gh f gr : Nat} {n : Int} {t v c : ByteArray} {lm : Nat → Bool} {h : Nat → Int} {R : Nat → Nat → Bool} {rv : Nat → Value} {k : Nat} (H : FlP w wr u gl gh f gr n t v c lm h R rv k) (hb : Below wr.heap.size wr w1) : FlP w w1 u gl gh f gr n t v c lm h R rv k :=
  ⟨H.cb.step hb, H.rh.of_block (hb.block _ H.rh.lt), H.oF.step hb, H.rr.of_block (hb.block _ H.rr.lt), H.gw, H.ne, fun i h1 h2 h3 => by
    obtain ⟨g, g1, g2, g3, g4⟩ := H.rc i h1 h2 h3
    exact ⟨g, Nat.lt_of_lt_of_le g1 hb.size, g2, g3, fun j hj => by rw [hb.cell (p := ⟨g, j, none⟩) g1]; exact g4 j hj⟩⟩

theorem FlP.skip {w wr : World} {u gl gh f gr : Nat} {n : Int} {t v c : ByteArray} {lm : Nat → Bool} {h : Nat → Int} {R : Nat → Nat → Bool} {rv : Nat → Value} {k : Nat} (H : FlP w wr u gl gh f gr n t v c lm h R rv k) (hn : ¬ (lm k = true ∧ bv c (2 * k) = 9)) : FlP w wr u gl gh f gr n t v c lm h R rv (k + 1) :=
  ⟨H.cb, H.rh, H.oF, H.rr, H.gw, H.ne, fun i h1 h2 h3 => by
    by_cases e : i = k
    · subst e; exact absurd ⟨h2, h3⟩ hn
    · exact H.rc i (by omega) h2 h3⟩

theorem FlP.set {w wr : World} {u gl gh f gr g : Nat} {n : Int} {t v c : ByteArray} {lm : Nat → Bool} {h : Nat → Int} {R : Nat → Nat → Bool} {rv : Nat → Value} {k : Nat} {m : Nat → Bool} (H : FlP w wr u gl gh f gr n t v c lm h R rv k) (hg : wr.rowIs g 4 ((half c).toNat + 1) (fun j => .bool (m j))) (hne : g ≠ gr) :
    FlP w (wr.setCell ⟨gr, k, none⟩ (.slice (some ⟨g, 0, none⟩) ((half c).toNat + 1) ((half c).toNat + 1))) u gl gh f gr n t v c lm h (fun i j => if i = k then m j else R i j) (fun i => if i = k then .slice (some ⟨g, 0, none⟩) ((half c).toNat + 1) ((half c).toNat + 1) else rv i) (k + 1) := by
  obtain ⟨n1, n2, n3, n4⟩ := H.ne
  have cell : ∀ b j, b ≠ gr → (wr.setCell ⟨gr, k, none⟩ (.slice (some ⟨g, 0, none⟩) ((half c).toNat + 1) ((half c).toNat + 1))).cell? ⟨b, j, none⟩ = wr.cell? ⟨b, j, none⟩ := fun b j hb => World.cell?_setCell_other wr ⟨gr, k, none⟩ ⟨b, j, none⟩ _ (by intro e; have e2 := congrArg Addr.block e; exact hb e2.symm)
  refine ⟨⟨H.cb.b.setCell H.gw _, own_far H.cb.o _ _ n1, H.cb.rl.setOther (Ne.symm n2) _⟩, H.rh.setOther (Ne.symm n3) _, own_far H.oF _ _ n4, (H.rr.set k _).congr (fun i _ => by split <;> rfl), H.gw, H.ne, fun i h1 h2 h3 => ?_⟩
  by_cases e : i = k
  · subst e
    refine ⟨g, by simpa using hg.lt, hne, if_pos rfl, fun j hj => ?_⟩
    rw [cell g j hne, hg.cell hj, if_pos rfl]
  · obtain ⟨g', g1, g2, g3, g4⟩ := H.rc i (by omega) h2 h3
    refine ⟨g', by simpa using g1, g2, by rw [if_neg e]; exact g3, fun j hj => ?_⟩
    rw [cell g' j g2, g4 j hj, if_neg e]

theorem FlP.all {w wr : World} {u gl gh f gr : Nat} {n : Int} {t v c : ByteArray} {lm : Nat → Bool} {h : Nat → Int} {R : Nat → Nat → Bool} {rv : Nat → Value} {k : Nat} (H : FlP w wr u gl gh f gr n t v c lm h R rv k) (hk : ¬ (k : Int) < half c) : FlAt wr f gl gh gr n t v c lm h R :=
  ⟨H.oF.lt, H.cb.rl.lt, H.rh.lt, H.rr.lt, H.oF.c 0 _ rfl, H.oF.c 1 _ rfl, H.oF.c 2 _ rfl, H.oF.c 3 _ rfl, H.oF.c 4 _ rfl, H.oF.c 5 _ rfl, H.oF.c 6 _ rfl, H.oF.c 7 _ rfl, fun j hj => H.cb.rl.cell hj, fun j hj => H.rh.cell hj, fun i h1 h2 h3 => by
    obtain ⟨g, g1, g2, g3, g4⟩ := H.rc i (by omega) h2 h3
    exact ⟨g, g1, by rw [H.rr.cell (i := i) (by omega), g3], g4⟩⟩

theorem own_cells (w : World) (vs : List Value) (t : TypeId) : Own (w.alloc (.cells vs.toArray t)) w.heap.size vs := by
  refine ⟨by simp, fun i x hx => ?_, fun i x hx => ?_⟩
  · rw [cell_of_row _ _ i _ _ (0, 0) (heap_alloc_last w _)]
    simpa using hx
  · simp only [World.frozen?, heap_alloc_last]
    simp

theorem FlP.begin {w wr : World} {u gl gh : Nat} {n : Int} {t v c : ByteArray} {lm : Nat → Bool} {h : Nat → Int} (C : CB w wr u gl n t v c lm) (hrow : wr.rowIs gh 3 ((half c).toNat + 1) (fun j => .int .i64 (h j))) :
    FlP w ((wr.alloc (.cells (madeCells #[.slice none 0 0] ((half c).toNat + 1)) 57)).alloc (.cells #[.int .i64 n, .string t, .string v, .string c, .int .i64 (half c), .slice (some ⟨gl, 0, none⟩) ((half c).toNat + 1) ((half c).toNat + 1), .slice (some ⟨gh, 0, none⟩) ((half c).toNat + 1) ((half c).toNat + 1), .slice (some ⟨wr.heap.size, 0, none⟩) ((half c).toNat + 1) ((half c).toNat + 1)] 66)) u gl gh (wr.heap.size + 1) wr.heap.size n t v c lm h (fun _ _ => false) (fun _ => .slice none 0 0) 0 := by
  have hb : Below wr.heap.size wr ((wr.alloc (.cells (madeCells #[.slice none 0 0] ((half c).toNat + 1)) 57)).alloc (.cells #[.int .i64 n, .string t, .string v, .string c, .int .i64 (half c), .slice (some ⟨gl, 0, none⟩) ((half c).toNat + 1) ((half c).toNat + 1), .slice (some ⟨gh, 0, none⟩) ((half c).toNat + 1) ((half c).toNat + 1), .slice (some ⟨wr.heap.size, 0, none⟩) ((half c).toNat + 1) ((half c).toNat + 1)] 66)) := ((Below.refl _ _).alloc (Nat.le_refl _) _).alloc (by simp) _
  have h1 := C.o.lt
  have h2 := C.rl.lt
  have h3 := hrow.lt
  refine ⟨C.step hb, hrow.of_block (hb.block _ h3), ?_, ?_, C.b.size, ⟨by omega, by omega, by omega, by omega⟩, fun i hi => absurd hi (by omega)⟩
  · have := own_cells (wr.alloc (.cells (madeCells #[.slice none 0 0] ((half c).toNat + 1)) 57)) [.int .i64 n, .string t, .string v, .string c, .int .i64 (half c), .slice (some ⟨gl, 0, none⟩) ((half c).toNat + 1) ((half c).toNat + 1), .slice (some ⟨gh, 0, none⟩) ((half c).toNat + 1) ((half c).toNat + 1), .slice (some ⟨wr.heap.size, 0, none⟩) ((half c).toNat + 1) ((half c).toNat + 1)] 66
    simpa using this
  · exact (World.rowIs_made wr (.slice none 0 0) ((half c).toNat + 1) 57).alloc _

/-- the marks of the levels below k, their pointers in ps -/
structure MkP (w : World) (ps : List Value) (k : Nat) (c : ByteArray) (Mf : Int → Int → Int → Bool) : Prop where
  len : ps.length = k
  m : ∀ a : Nat, a < k → ∃ mb gp gs, ps[a]? = some (.pointer (some ⟨mb, 0, none⟩)) ∧ MkAt w mb gp gs c (Mf a)

theorem MkP.step {w w1 : World} {ps : List Value} {k : Nat} {c : ByteArray} {Mf : Int → Int → Int → Bool} (H : MkP w ps k c Mf) (hb : Below w.heap.size w w1) : MkP w1 ps k c Mf :=
  ⟨H.len, fun a ha => by
    obtain ⟨mb, gp, gs, h1, h2⟩ := H.m a ha
    exact ⟨mb, gp, gs, h1, h2.step hb⟩⟩

theorem MkAt.keep {w w1 : World} {mb gp gs : Nat} {c : ByteArray} {M : Int → Int → Bool} (H : MkAt w mb gp gs c M) (hs : w.heap.size ≤ w1.heap.size) (e : ∀ b, (b = mb ∨ b = gp ∨ b = gs) → w1.heap[b]? = w.heap[b]?) : MkAt w1 mb gp gs c M := by
  have ec : ∀ b j, (b = mb ∨ b = gp ∨ b = gs) → w1.cell? ⟨b, j, none⟩ = w.cell? ⟨b, j, none⟩ := fun b j hb => World.cell?_of_block (e b hb)
  have ef : ∀ b j, (b = mb ∨ b = gp ∨ b = gs) → w1.frozen? ⟨b, j, none⟩ = w.frozen? ⟨b, j, none⟩ := fun b j hb => World.frozen?_of_block (e b hb)
  exact ⟨Nat.lt_of_lt_of_le H.lm hs, Nat.lt_of_lt_of_le H.lp hs, Nat.lt_of_lt_of_le H.ls hs, H.n1, H.n2, H.n3, by rw [ec _ _ (.inl rfl)]; exact H.c0, by rw [ec _ _ (.inl rfl)]; exact H.c1, fun j hj => by rw [ec _ _ (.inr (.inl rfl))]; exact H.p j hj, fun j d hj hd => by rw [ec _ _ (.inr (.inr rfl))]; exact H.s j d hj hd, fun j hj => by rw [ef _ _ (.inr (.inl rfl))]; exact H.fp j hj, fun j d hj hd => by rw [ef _ _ (.inr (.inr rfl))]; exact H.fs j d hj hd⟩

/-- a block whose first cell is no pointer is not the row of pointers -/
theorem row_ne {w : World} {B : Nat} {e : TypeId} {sv : Value} {k : Nat} {ps : List Value} (h : w.ownsRow B e 1 sv k ps) (hk : 0 < k) {q : Option Addr} (h0 : ps[0]? = some (.pointer q)) {b : Nat} {x : Value} (hx : w.cell? ⟨b, 0, none⟩ = some x) (hn : ∀ q, x ≠ .pointer q) : some b ≠ sv.ownBlock := by
  intro e
  have h2 := h
  rcases h2.2 with ⟨_, k0⟩ | ⟨g, cap, cur, hv, _⟩
  · omega
  · subst hv
    have e2 : b = g := by simpa [Value.ownBlock] using e
    subst e2
    rw [h.cellAt 0 (by omega), h0] at hx
    exact hn q (by simpa using hx.symm)

theorem MkP.push {wr w2 w3 : World} {B : Nat} {e : TypeId} {sv : Value} {k mb gp gs : Nat} {ps : List Value} {c : ByteArray} {Mf : Int → Int → Int → Bool} {M : Int → Int → Bool} {o : Obj} (H : MkP w2 ps k c Mf) (own : w2.ownsRow B e 1 sv k ps) (own0 : wr.ownsRow B e 1 sv k ps) (hg : (w2.alloc o).grownBy w3 sv.ownBlock) (K : MkAt w2 mb gp gs c M) (m1 : wr.heap.size ≤ mb) (m2 : wr.heap.size ≤ gp) (m3 : wr.heap.size ≤ gs) : MkP w3 (ps ++ [.pointer (some ⟨mb, 0, none⟩)]) (k + 1) c (fun a => if a = k then M else Mf a) := by
  have hz : w2.heap.size ≤ w3.heap.size := Nat.le_trans (by simp) hg.size
  have keep : ∀ b, b < w2.heap.size → some b ≠ sv.ownBlock → w3.heap[b]? = w2.heap[b]? := fun b hb hne => by
    rw [hg.block b (by simp; omega) hne, Below.heap_alloc w2 o b hb]
  refine ⟨by simp [H.len], fun a ha => ?_⟩
  by_cases e : a = k
  · subst e
    refine ⟨mb, gp, gs, ?_, ?_⟩
    · rw [List.getElem?_append_right (by rw [H.len]; omega), H.len]; simp
    · simp only [if_pos]
      have far : ∀ b, wr.heap.size ≤ b → some b ≠ sv.ownBlock := fun b hb e2 => by have := (own0.lt b e2.symm).2; omega
      refine K.keep hz (fun b hb => ?_)
      rcases hb with rfl | rfl | rfl
      · exact keep _ K.lm (far _ m1)
      · exact keep _ K.lp (far _ m2)
      · exact keep _ K.ls (far _ m3)
  · obtain ⟨b1, b2, b3, h1, h2⟩ := H.m a (by omega)
    obtain ⟨z1, z2, z3, h01, _⟩ := H.m 0 (by omega)
    have e2 : ¬ ((a : Int) = (k : Int)) := by omega
    refine ⟨b1, b2, b3, ?_, ?_⟩
    · rw [List.getElem?_append_left (by rw [H.len]; omega)]; exact h1
    · simp only [if_neg e2]
      refine h2.keep hz (fun b hb => ?_)
      rcases hb with rfl | rfl | rfl
      · exact keep _ h2.lm (row_ne own (by omega) h01 h2.c0 (fun q => by simp))
      · exact keep _ h2.lp (row_ne own (by omega) h01 (h2.p 0 (by omega)) (fun q => by simp))
      · exact keep _ h2.ls (row_ne own (by omega) h01 (by have := h2.s 0 0 (by omega) (by omega); simpa using this) (fun q => by simp))

theorem MkP.list {w : World} {B : Nat} {e : TypeId} {sv : Value} {k : Nat} {ps : List Value} {c : ByteArray} {Mf : Int → Int → Int → Bool} {n : Int} (H : MkP w ps k c Mf) (own : w.ownsRow B e 1 sv k ps) (hn : 1 ≤ n) (hk : (k : Int) = n) : ∃ gL cap, sv = .slice (some ⟨gL, 0, none⟩) n.toNat cap ∧ MkL w gL n c Mf := by
  rcases own.2 with ⟨_, k0⟩ | ⟨g, cap, cur, hv, hb, hg, _⟩
  · omega
  · subst hv
    have e : n.toNat = k := by omega
    refine ⟨g, cap, by rw [e], ⟨(Array.getElem?_eq_some_iff.1 hg).1, fun a ha => ?_⟩⟩
    obtain ⟨mb, gp, gs, h1, h2⟩ := H.m a (by omega)
    exact ⟨mb, gp, gs, by rw [own.cellAt a (by omega)]; exact h1, h2⟩
end Go.Proofs.YtcnbifdlkalimaaGreat

/-
  The walk of the document's own answer on what is let through (package sluiceref, P5), thirteenth part: Check; for every text.
-/
namespace Go.Proofs.YtcnbifdlkalimaaGreat
open Go.RowKit Go.Deep
set_option linter.unusedVariables false
set_option maxRecDepth 100000

set_option maxHeartbeats 25600000 in
theorem rcheck_code (s t v c : ByteArray) (n : Int) (w : World) (F : Kp (FileF c v t n)) (hA : Kp (∀ p x, CodeIs c v t n p x → CheckIs s p x)) (hRead : Kp (∀ W : World, Calls Tryz.prog 16 #[.string s] W fun e w' => e = .returned (.tuple #[.agg #[.int .i64 n, .string t, .string v, .string c, .int .i64 (half c)], .int .i64 0]) ∧ Below W.heap.size W w')) :
    Calls Tryz.prog 7 #[.string s] w (CheckPost s w) := by
  have hh := (half_bd c).1
  have hK := F.out.hK
  have hc := F.out.hc
  have hr : Kp (Ranged c) := ⟨ranged_of F.out.ok⟩
  have hop : Kp (∀ i : Int, 0 ≤ i → i < half c → bv c (2 * i) ≤ 11) := ⟨fun i h0 h1 => by have := of_decide_eq_true (ops_of F.out.ok h0 h1); omega⟩
  have hn1 := F.out.lat.tab.lo
  have hn6 := F.out.lat.tab.hi
  go_enter Tryz.func7, Tryz.ntmps7
  go_wp2_with fail
  refine (hRead.out _).mono ?_
  rintro e w1 ⟨rfl, hb1⟩
  have hU := UBox.begin n t v c w1
  have ol := hU.o.lt
  have q0 := hU.o.c 0 _ rfl
  have q1 := hU.o.c 1 _ rfl
  have q2 := hU.o.c 2 _ rfl
  have q3 := hU.o.c 3 _ rfl
  have q4 := hU.o.c 4 _ rfl
  go_wp2_with fail
  go_region_held (fun w' => w'.cell? ⟨w1.heap.size, 0, none⟩ = some (.int .i64 n) ∧ w'.cell? ⟨w1.heap.size, 1, none⟩ = some (.string t) ∧ w'.cell? ⟨w1.heap.size, 2, none⟩ = some (.string v) ∧ w'.cell? ⟨w1.heap.size, 3, none⟩ = some (.string c) ∧ w'.cell? ⟨w1.heap.size, 4, none⟩ = some (.int .i64 (half c))) (go_keep) (first | (go_at_call 18; refine (only_ref n 0 t v c _ hK (by omega)).mono ?_; rintro e w2 ⟨g, rfl, hg, hrow, hb2⟩; have hU1 := hU.step ((Below.refl _ _).drew.trans hb2); have o0 := hU1.o.c 0 _ rfl; have o1 := hU1.o.c 1 _ rfl; have o2 := hU1.o.c 2 _ rfl; have o3 := hU1.o.c 3 _ rfl; have o4 := hU1.o.c 4 _ rfl) | (go_at_call 17; refine (from_ref n (-1) g (fun j => decide (j = 0)) t v c _ hc hK hr hrow).mono ?_; rintro e w3 ⟨rfl, lm, hrow2, hm, hb3⟩; replace hm : Kp _ := ⟨hm⟩; have hU2 := hU1.step hb3; have p0 := hU2.o.c 0 _ rfl; have p1 := hU2.o.c 1 _ rfl; have p2 := hU2.o.c 2 _ rfl; have p3 := hU2.o.c 3 _ rfl; have p4 := hU2.o.c 4 _ rfl))
  all_goals
    obtain ⟨u, hu⟩ : ∃ u, w1.heap.size = u := ⟨_, rfl⟩
    obtain ⟨gl, hgl⟩ : ∃ gl, w2.heap.size + 1 = gl := ⟨_, rfl⟩
    have C0 : CB w w3 u gl n t v c lm := ⟨hb1.trans (hU2.b.mono hb1.size), by rw [← hu]; exact hU2.o, by rw [← hgl]; exact hrow2⟩
    have hlive : Kp (∀ j : Nat, (j : Int) ≤ half c → (lm j = true ↔ Live c j)) := ⟨fun j hj => by rw [hm.out j hj]; exact marked_one (i := 0) (by omega) (-1) j⟩
    rw [hu, hgl]
    clear hU hU1 hU2 hm hrow hrow2 hb1 hb2 hb3 p0 p1 p2 p3 p4 o0 o1 o2 o3 o4 q0 q1 q2 q3 q4 ol hg hu hgl
    go_wp2_with fail
    go_loopw [7] (fun iv wr => ∃ k : Nat, k ≤ (half c).toNat + 1 ∧ iv = .int .i64 k ∧ CB w wr u gl n t v c lm ∧ Kp (∀ q : Nat, q < k → ¬ Trap c q)) (fun iv _ => (half c).toNat + 1 - (intOf iv).toNat)
    case atStart => exact ⟨0, by omega, rfl, C0, ⟨fun q hq => absurd hq (by omega)⟩⟩
    case round =>
      clear C0
      obtain ⟨k, hk, rfl, C, hT⟩ := hrel
      have ol := C.o.lt
      have q0 := C.o.c 0 _ rfl
      have q1 := C.o.c 1 _ rfl
      have q2 := C.o.c 2 _ rfl
      have q3 := C.o.c 3 _ rfl
      have q4 := C.o.c 4 _ rfl
      by_cases hlt : (k : Int) ≤ half c
      · have ql := C.rl.cell (i := k) (by omega)
        have hkN : (k : Int) < ((half c).toNat + 1 : Nat) := by omega
        cases hlm : lm k with
        | false =>
          rw [hlm] at ql
          have hT2 : Kp (∀ q : Nat, q < k + 1 → ¬ Trap c q) := ⟨fun q hq ht => by
            by_cases e : q = k
            · subst e
              rw [(hlive.out q hlt).2 ht.2.1] at hlm
              exact absurd hlm (by simp)
            · exact hT.out q (by omega) ht⟩
          go_wp2_with fail
          go_roundw
          case rel => exact ⟨k + 1, by omega, by go_num, C, hT2⟩
          case measure => simp [intOf]; omega
        | true =>
          rw [hlm] at ql
          have hlv : Kp (Live c k) := ⟨(hlive.out k hlt).1 hlm⟩
          replace hlm : Kp _ := ⟨hlm⟩
          go_wp2_with fail
          go_region_held (fun w' => w'.cell? ⟨u, 0, none⟩ = some (.int .i64 n) ∧ w'.cell? ⟨u, 1, none⟩ = some (.string t) ∧ w'.cell? ⟨u, 2, none⟩ = some (.string v) ∧ w'.cell? ⟨u, 3, none⟩ = some (.string c) ∧ w'.cell? ⟨u, 4, none⟩ = some (.int .i64 (half c))) (go_keep) (first | (go_at_call 18; refine (only_ref n k t v c _ hK (by omega)).mono ?_; rintro e w2 ⟨g, rfl, hg, hrow, hb2⟩; have C1 := C.step ((Below.refl _ _).drew.trans hb2); have o0 := C1.o.c 0 _ rfl; have o1 := C1.o.c 1 _ rfl; have o2 := C1.o.c 2 _ rfl; have o3 := C1.o.c 3 _ rfl; have o4 := C1.o.c 4 _ rfl) | (go_at_call 17; refine (from_ref n (-1) g (fun j => decide (j = k)) t v c _ hc hK hr hrow).mono ?_; rintro e w3 ⟨rfl, m, hrow2, hm, hb3⟩; replace hm : Kp _ := ⟨hm⟩; have C2 := C1.step hb3; have p0 := C2.o.c 0 _ rfl; have p1 := C2.o.c 1 _ rfl; have p2 := C2.o.c 2 _ rfl; have p3 := C2.o.c 3 _ rfl; have p4 := C2.o.c 4 _ rfl))
          all_goals
            have hcell := hrow2.cell (i := (half c).toNat) (by omega)
            have hKc : Kp (m (half c).toNat = true ↔ Reach c (One k) (-1) (half c)) := ⟨by
              rw [hm.out (half c).toNat (by omega), marked_one (by omega)]
              rw [Int.toNat_of_nonneg hh]⟩
            clear hb2 hb3 C1 p0 p1 p2 p3 p4 o0 o1 o2 o3 o4 ol q0 q1 q2 q3 q4 hrow hrow2 hm hg ql C
            have ol := C2.o.lt
            have q4 := C2.o.c 4 _ rfl
            have hkb : half c < half c + 1 := by omega
            cases hmK : m (half c).toNat
            · rw [hmK] at hcell
              have hR : Kp (CheckIs s k 7) := ⟨hA.out _ _ (.inl ⟨rfl, ⟨⟨by omega, hlt⟩, hlv.out, fun h => by rw [hKc.out.2 h] at hmK; exact absurd hmK (by simp)⟩, fun q hq ht => by
                have e : ((q.toNat : Nat) : Int) = q := Int.toNat_of_nonneg ht.1.1
                exact hT.out q.toNat (by omega) (by rw [e]; exact ht)⟩)⟩
              clear hmK hKc hT
              go_wp2_with fail
              go_ret2
              exact ⟨k, 7, rfl, hR, C2.b⟩
            · rw [hmK] at hcell
              have hT2 : Kp (∀ q : Nat, q < k + 1 → ¬ Trap c q) := ⟨fun q hq ht => by
                by_cases e : q = k
                · subst e; exact ht.2.2 (hKc.out.1 hmK)
                · exact hT.out q (by omega) ht⟩
              clear hmK hKc hT
              go_wp2_with fail
              go_roundw
              case rel => exact ⟨k + 1, by omega, by go_num, C2, hT2⟩
              case measure => simp [intOf]; omega
      · have hnoT : Kp (∀ q, ¬ Trap c q) := ⟨fun q ht => by
          have e : ((q.toNat : Nat) : Int) = q := Int.toNat_of_nonneg ht.1.1
          have h2 := ht.1.2
          exact hT.out q.toNat (by omega) (by rw [e]; exact ht)⟩
        clear hT
        go_wp2_with fail
        refine (heights_ref n gl lm t v c _ hc hK hr hop C.rl hlive).mono ?_
        rintro e w3 ⟨ok, rfl, h, hrow, hH, hb3⟩
        have C3 := C.step hb3
        cases ok
        · have hR : Kp (CheckIs s 0 8) := ⟨hA.out _ _ (.inr ⟨hnoT.out, .inl ⟨rfl, rfl, hH.out.2 rfl⟩⟩)⟩
          clear q0 q1 q2 q3 q4 ol hH
          go_wp2_with fail
          go_ret2
          exact ⟨0, 8, rfl, hR, C3.b⟩
        · have HH : Kp (HeightsOk c h) := ⟨hH.out.1 rfl⟩
          have FC : Kp (CodeF c v t n h) := ⟨F.out.code HH.out⟩
          have hend : Kp (∀ i : Nat, Live c i → ∀ x, Reach c (One i) (-1) x → Reach c (One x) (-1) (half c)) := ⟨fun i hl x hx => by
            have hl2 : Live c x := Reach.trans hl hx
            exact Classical.byContradiction fun k => hnoT.out x ⟨live_rng hr.out hl2, hl2, k⟩⟩
          obtain ⟨gh, hgh⟩ : ∃ gh, wr.heap.size + 1 = gh := ⟨_, rfl⟩
          rw [hgh] at hrow ⊢
          clear q0 q1 q2 q3 q4 ol hH C hb3 hgh
          have hmk := run_make_row' (P := Tryz.prog) 64 57 (.slice none 0 0) 24 Tryz.underlying64 info_slb rfl .i64 .i64 ((half c).toNat + 1) (by omega) (by omega)
          rw [show ((((half c).toNat + 1) : Nat) : Int) = half c + 1 from by omega] at hmk
          have hwr : IntKind.i64.wrap (half c + 1) = half c + 1 := by rw [IntKind.wrap_i64]; omega
          have q0 := C3.o.c 0 _ rfl
          have q1 := C3.o.c 1 _ rfl
          have q2 := C3.o.c 2 _ rfl
          have q3 := C3.o.c 3 _ rfl
          have q4 := C3.o.c 4 _ rfl
          go_wp2_with fail
          go_region_held (fun w' => w'.cell? ⟨u, 0, none⟩ = some (.int .i64 n) ∧ w'.cell? ⟨u, 1, none⟩ = some (.string t) ∧ w'.cell? ⟨u, 2, none⟩ = some (.string v) ∧ w'.cell? ⟨u, 3, none⟩ = some (.string c) ∧ w'.cell? ⟨u, 4, none⟩ = some (.int .i64 (half c))) ((refine keep5 C3.o ?_; first | exact (Below.refl _ _).drew | exact ((Below.refl _ _).alloc (Nat.le_refl _) _).drew | exact (((Below.refl _ _).alloc (Nat.le_refl _) _).alloc (by simp) _).drew)) (fail)
          all_goals
            have P0 := (FlP.begin C3 hrow).step ((Below.refl _ _).drew)
            obtain ⟨w4, hw4⟩ : ∃ w4, w4 = ((w3.alloc (.cells (madeCells #[.slice none 0 0] ((half c).toNat + 1)) 57)).alloc (.cells #[.int .i64 n, .string t, .string v, .string c, .int .i64 (half c), .slice (some ⟨gl, 0, none⟩) ((half c).toNat + 1) ((half c).toNat + 1), .slice (some ⟨gh, 0, none⟩) ((half c).toNat + 1) ((half c).toNat + 1), .slice (some ⟨w3.heap.size, 0, none⟩) ((half c).toNat + 1) ((half c).toNat + 1)] 66)).drew := ⟨_, rfl⟩
            rw [← hw4] at P0 ⊢
            obtain ⟨gr, hgr⟩ : ∃ gr, w3.heap.size = gr := ⟨_, rfl⟩
            rw [hgr] at P0 ⊢
            obtain ⟨f, hf⟩ : ∃ f, gr + 1 = f := ⟨_, rfl⟩
            rw [hf] at P0 ⊢
            clear q0 q1 q2 q3 q4 hmk hwr hw4 hgr hf C3 hrow
            go_wp2_with fail
            go_loopw [12] (fun iv wr => ∃ (k : Nat) (R : Nat → Nat → Bool) (rv : Nat → Value), (k : Int) ≤ half c ∧ iv = .int .i64 k ∧ FlP w wr u gl gh f gr n t v c lm h R rv k ∧ Kp (∀ i p : Nat, i < k → Live c i → bv c (2 * i) = 9 → (p : Int) ≤ half c → (R i p = true ↔ Reg c i p))) (fun iv _ => (half c).toNat - (intOf iv).toNat)
            case atStart => exact ⟨0, _, _, by omega, rfl, P0, ⟨fun i p hi => absurd hi (by omega)⟩⟩
            case round =>
              clear P0
              obtain ⟨k, R, rv, hk, rfl, P, hReg⟩ := hrel
              have ol := P.cb.o.lt
              have q4 := P.cb.o.c 4 _ rfl
              by_cases hlt : (k : Int) < half c
              · have ql := P.cb.rl.cell (i := k) (by omega)
                have hkN : (k : Int) < ((half c).toNat + 1 : Nat) := by omega
                have skipR : Kp (¬ (lm k = true ∧ bv c (2 * k) = 9) → ∀ i p : Nat, i < k + 1 → Live c i → bv c (2 * i) = 9 → (p : Int) ≤ half c → (R i p = true ↔ Reg c i p)) := ⟨fun hno i p hi hl h9 hp => by
                  by_cases e : i = k
                  · subst e; exact absurd ⟨(hlive.out i hk).2 hl, h9⟩ hno
                  · exact hReg.out i p (by omega) hl h9 hp⟩
                cases hlm : lm k with
                | false =>
                  rw [hlm] at ql
                  have hno : ¬ (lm k = true ∧ bv c (2 * k) = 9) := fun e => by rw [hlm] at e; exact absurd e.1 (by simp)
                  have P2 := P.skip hno
                  have hR2 : Kp _ := ⟨skipR.out hno⟩
                  clear P hReg skipR hno hlm
                  go_wp2_with fail
                  go_roundw
                  case rel => exact ⟨k + 1, R, rv, by omega, by go_num, P2, hR2⟩
                  case measure => simp [intOf]; omega
                | true =>
                  rw [hlm] at ql
                  have hlv : Kp (Live c k) := ⟨(hlive.out k hk).1 hlm⟩
                  replace hlm : Kp _ := ⟨hlm⟩
                  have q0 := P.cb.o.c 0 _ rfl
                  have q1 := P.cb.o.c 1 _ rfl
                  have q2 := P.cb.o.c 2 _ rfl
                  have q3 := P.cb.o.c 3 _ rfl
                  go_wp2_with fail
                  refine (uop_any n k t v c _ hc (by omega) hlt).mono ?_
                  rintro e w5 ⟨rfl, hb5⟩
                  have P5 := P.step hb5
                  clear q0 q1 q2 q3 q4 ql P hb5 ol
                  by_cases h9 : bv c (2 * k) = 9
                  · rw [h9]
                    have ol := P5.cb.o.lt
                    have q0 := P5.cb.o.c 0 _ rfl
                    have q1 := P5.cb.o.c 1 _ rfl
                    have q2 := P5.cb.o.c 2 _ rfl
                    have q3 := P5.cb.o.c 3 _ rfl
                    have q4 := P5.cb.o.c 4 _ rfl
                    have q7 := P5.oF.c 7 _ rfl
                    have hgr5 := P5.rr.lt
                    replace h9 : Kp _ := ⟨h9⟩
                    clear skipR
                    go_wp2_with fail
                    go_region_with ((go_at_call 21; refine (region_ref n k t v c _ hc hK hlt hr ⟨hend.out k hlv.out⟩).mono ?_; rintro e w6 ⟨g, rfl, hg, m, hrow, hreg, hb6⟩; have P6 := P5.step ((Below.refl _ _).drew.trans hb6); have a7 := P6.oF.c 7 _ rfl; have a8 := P6.rr.cell (i := k) (by omega); have fz := P6.rr.frozen k))
                    all_goals
                      have P7 := P6.set hrow (by have hg' : w5.heap.size ≤ g := (by simpa using hg); omega)
                      have hR2 : Kp (∀ i p : Nat, i < k + 1 → Live c i → bv c (2 * i) = 9 → (p : Int) ≤ half c → ((if i = k then m p else R i p) = true ↔ Reg c i p)) := ⟨fun i p hi hl h9 hp => by
                        by_cases e : i = k
                        · subst e; rw [if_pos rfl]; exact hreg.out p hp
                        · rw [if_neg e]; exact hReg.out i p (by omega) hl h9 hp⟩
                      clear P5 P6 hReg hreg hrow hb6 q0 q1 q2 q3 q4 q7 a7 a8 fz hg
                      go_wp2_with fail
                      go_roundw
                      case rel => exact ⟨k + 1, _, _, by omega, by go_num, P7, hR2⟩
                      case measure => simp [intOf]; omega
                  · have h9' : (bv c (2 * k) == 9) = false := beq_eq_false_iff_ne.2 h9
                    have hno : ¬ (lm k = true ∧ bv c (2 * k) = 9) := fun e => h9 e.2
                    have P2 := P5.skip hno
                    have hR2 : Kp _ := ⟨skipR.out hno⟩
                    clear P5 hReg skipR hno
                    go_wp2_with fail
                    go_roundw
                    case rel => exact ⟨k + 1, R, rv, by omega, by go_num, P2, hR2⟩
                    case measure => simp [intOf]; omega
              · have H := P.all hlt
                have C := P.cb
                have hReg2 : Kp (∀ i p : Nat, (i : Int) < half c → Live c i → bv c (2 * i) = 9 → (p : Int) ≤ half c → (R i p = true ↔ Reg c i p)) := ⟨fun i p hi => hReg.out i p (by omega)⟩
                obtain ⟨i0, hi0, hz0, hz1, hz2⟩ := info_parts info_mks
                clear hReg P
                go_wp2_with fail
                clear ol q4
                obtain ⟨wa, rfl⟩ : ∃ x, x = wr := ⟨_, rfl⟩
                go_loopw [13, 14] (fun sv iv w7 => ∃ (k : Nat) (ps : List Value) (Mf : Int → Int → Int → Bool), (k : Int) ≤ n ∧ iv = .int .i64 k ∧ Kp (w7.ownsRow wa.heap.size 69 1 sv k ps) ∧ MkP w7 ps k c Mf ∧ Below wa.heap.size wa w7 ∧ Kp (∀ a : Nat, a < k → ∀ p d, Mf a p d = true ↔ Flow c v h a p d)) (fun _ iv _ => n.toNat - (intOf iv).toNat)
                case atStart => exact ⟨0, [], fun _ _ _ => false, by omega, rfl, ⟨World.ownsRow_nil _ _ _ _⟩, ⟨rfl, fun a ha => absurd ha (by omega)⟩, Below.refl _ _, ⟨fun a ha => absurd ha (by omega)⟩⟩
                case round =>
                  obtain ⟨k, ps, Mf, hk, rfl, hown, hMk, hB, hFl⟩ := hrel
                  have C7 := C.step hB
                  have H7 := H.step hB
                  have ol := C7.o.lt
                  have q0 := C7.o.c 0 _ rfl
                  by_cases hlt : (k : Int) < n
                  · go_wp2_with fail
                    refine (spread_ref f gl gh gr n k t v c lm h R _ H7 FC hlive hReg2).mono ?_
                    rintro e w8 ⟨mb, gp, gs, M, rfl, m1, m2, m3, K, hb8, hM⟩
                    have hown2 : Kp (w8.ownsRow wa.heap.size 69 1 u13 k ps) := ⟨row_below hown.out hb8⟩
                    have hMk2 := hMk.step hb8
                    have hB8 := hB.trans (hb8.mono hB.size)
                    have hz := hB8.size
                    have hFl2 : Kp (∀ a : Nat, a < k + 1 → ∀ p d, (fun a : Int => if a = k then M else Mf a) a p d = true ↔ Flow c v h a p d) := ⟨fun a ha p d => by
                      by_cases e : a = k
                      · subst e; simp only [if_pos]; exact hM.out p d
                      · have e2 : ¬ ((a : Int) = (k : Int)) := by omega
                        simp only [if_neg e2]; exact hFl.out a (by omega) p d⟩
                    clear q0 ol hb8 hFl C7 H7 hM
                    go_wp2_with (at_builtin; refine wpList_append_own _ rfl _ _ 68 rfl wa.heap.size 69 i0 (.pointer none) 1 8 Tryz.underlying68 hi0 hz0 hz1 hz2 rfl (by decide) _ _ _ rfl (hown2.out.alloc _) ⟨w8.heap.size, 0, none⟩ 1 1 [.pointer (some ⟨mb, 0, none⟩)] rfl rfl ?a1 ?a2 ?a3 ?a4 ?a5 ?_)
                    case a1 =>
                      intro j y hj
                      match j, hj with
                      | 0, hj => simp at hj; subst hj; simp [Addr.add]
                    case a2 => intro y hy; simp at hy; subst hy; rfl
                    case a3 => unfold maxLen; omega
                    case a4 => omega
                    case a5 => simp; omega
                    intro v' w9 hown3 hgrow _
                    have hB9 : Below wa.heap.size wa w9 := (hB8.alloc hz _).grown hgrow (by simp; omega) (fun j hj => ((hown2.out.lt j hj).1))
                    have hMk3 := hMk2.push hown2.out hown.out hgrow K m1 m2 m3
                    replace hown3 : Kp _ := ⟨hown3⟩
                    clear hgrow hown hown2 hMk hMk2 K hB8 hB hz m1 m2 m3
                    go_wp2
                    go_roundw
                    case rel => exact ⟨k + 1, _, _, by omega, by go_num, hown3, hMk3, hB9, hFl2⟩
                    case measure => simp [intOf]; omega
                  · obtain ⟨gL, cap, hsv, L7⟩ := hMk.list hown.out hn1 (by omega)
                    have hMf : Kp (∀ a p d, Lv n a → (Mf a p d = true ↔ Flow c v h a p d)) := ⟨fun a p d ha => by
                      have h1 := ha.1
                      have h2 := ha.2
                      have e : ((a.toNat : Nat) : Int) = a := Int.toNat_of_nonneg h1
                      have := hFl.out a.toNat (by omega) p d
                      rwa [e] at this⟩
                    have hBw := C7.b
                    subst hsv
                    clear hFl hown hMk
                    go_wp2_with fail
                    clear q0 ol
                    obtain ⟨wb, rfl⟩ : ∃ x, x = wr := ⟨_, rfl⟩
                    go_loopw [15] (fun iv w8 => ∃ k : Nat, (k : Int) ≤ half c ∧ iv = .int .i64 k ∧ Below wb.heap.size wb w8 ∧ Kp (∀ q : Nat, q < k → ¬ Breaks c v t n h q)) (fun iv _ => (half c).toNat - (intOf iv).toNat)
                    case atStart => exact ⟨0, by omega, rfl, Below.refl _ _, ⟨fun q hq => absurd hq (by omega)⟩⟩
                    case round =>
                      obtain ⟨k, hk, rfl, hB8, hN⟩ := hrel
                      have C8 := C7.step hB8
                      have H8 := H7.step hB8
                      have L8 := L7.step hB8
                      have ol := C8.o.lt
                      have q4 := C8.o.c 4 _ rfl
                      have hBt := hBw.trans (hB8.mono hBw.size)
                      by_cases hlt : (k : Int) < half c
                      · go_wp2_with fail
                        refine (breaks_ref f gl gh gr gL cap n t v c lm h R Mf k _ H8 L8 FC hlive hMf hlt).mono ?_
                        rintro e w9 ⟨b, rfl, hbr, hb9⟩
                        have hB9 := hB8.trans (hb9.mono hB8.size)
                        have hBt9 := hBt.trans (hb9.mono hBt.size)
                        clear q4 ol H8 L8 C8 hBt
                        cases b
                        · have hN2 : Kp (∀ q : Nat, q < k + 1 → ¬ Breaks c v t n h q) := ⟨fun q hq hbk => by
                            by_cases e : q = k
                            · subst e; exact absurd (hbr.out.2 hbk) (by simp)
                            · exact hN.out q (by omega) hbk⟩
                          clear hbr hN hb9 hB8
                          go_wp2_with fail
                          go_roundw
                          case rel => exact ⟨k + 1, by omega, by go_num, hB9, hN2⟩
                          case measure => simp [intOf]; omega
                        · have hR : Kp (CheckIs s k 9) := ⟨hA.out _ _ (.inr ⟨hnoT.out, .inr ⟨h, HH.out, .inl ⟨rfl, hbr.out.1 rfl, fun q hq hbk => by
                            have e : ((q.toNat : Nat) : Int) = q := Int.toNat_of_nonneg hbk.1.1
                            exact hN.out q.toNat (by omega) (by rw [e]; exact hbk)⟩⟩⟩)⟩
                          clear hbr hN hb9 hB8
                          go_wp2_with fail
                          go_ret2
                          exact ⟨k, 9, rfl, hR, hBt9⟩
                      · have hR : Kp (CheckIs s 0 0) := ⟨hA.out _ _ (.inr ⟨hnoT.out, .inr ⟨h, HH.out, .inr ⟨rfl, rfl, fun q hbk => by
                          have e : ((q.toNat : Nat) : Int) = q := Int.toNat_of_nonneg hbk.1.1
                          have h2 := hbk.1.2
                          exact hN.out q.toNat (by omega) (by rw [e]; exact hbk)⟩⟩⟩)⟩
                        clear hN hB8 L8 H8
                        go_wp2_with fail
                        go_ret2
                        exact ⟨0, 0, rfl, hR, hBt⟩

/-- the document's own Check answers what the document's words give; for every text -/
theorem rcheck_any (s : ByteArray) (w : World) (hs : s.size ≤ maxLen) : Calls Tryz.prog 7 #[.string s] w (CheckPost s w) := by
  by_cases h : scanE s = 0
  · exact rcheck_code s (fTab s) (fVars s) (fCode s) (bv s 1) w ⟨file_ok hs h⟩ ⟨fun p x hc => .inr ⟨h, hc⟩⟩ ⟨fun W => rread_yes s W hs h⟩
  · have hk : (scanE s != 0) = true := bne_iff_ne.2 h
    replace h : Kp _ := ⟨h⟩
    have hC : Kp (CheckIs s 0 (scanE s)) := ⟨.inl ⟨h.out, rfl, rfl⟩⟩
    generalize hE : scanE s = er at hk hC ⊢
    replace hE : Kp _ := ⟨hE⟩
    go_enter Tryz.func7, Tryz.ntmps7
    go_wp2_with fail
    refine (rread_no s _ hs h.out).mono ?_
    rintro e w1 ⟨rfl, hb1⟩
    rw [hE.out]
    have hB := hb1.trans (((Below.refl _ _).alloc (Nat.le_refl _) (.cells #[.int .i64 0, .string { data := #[] }, .string { data := #[] }, .string { data := #[] }, .int .i64 0] 54)).mono hb1.size)
    go_wp2_with fail
    go_ret2
    exact ⟨0, er, rfl, hC, hB⟩
end Go.Proofs.YtcnbifdlkalimaaGreat
