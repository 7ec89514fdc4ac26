/-
  The walk of machine.Run: it tells what the plain run gives; for every file that is let through, all tapes and every fuel within its bounds.
-/
import Derived.Test.YtcnbifdlkalimaaMchB
import Derived.Test.YtcnbifdlkalimaaWay9
namespace Go.Proofs.Ytcnbifdlkalimaa
open Go.RowKit
set_option linter.unusedVariables false
set_option maxRecDepth 100000

/-- the cells of a machine that begins -/
def mchCells (n : Int) (t v c : ByteArray) (T : Int → ByteArray) (j : Nat) : Value :=
  if j = 0 then .int .i64 n else if j = 1 then .string t else if j = 2 then .string v else if j = 3 then .string c
  else if j < 10 then .string (T ((j : Int) - 4)) else if j < 34 then .int .i64 0 else .slice none 0 0

theorem built_mch (n : Int) (t v c : ByteArray) (T : Int → ByteArray) : Try.prog.built 132 [(0, .agg #[.int .i64 n, .string t, .string v, .string c]), (1, .agg #[.string (T 0), .string (T 1), .string (T 2), .string (T 3), .string (T 4), .string (T 5)])] = some (big 40 (mchCells n t v c T)) := by kernel_rfl

theorem mch_one (n : Int) (t v c : ByteArray) (T : Int → ByteArray) (j : Nat) : (mchCells n t v c T j).oneCell' = true := by
  unfold mchCells
  repeat (split; rfl)
  rfl

theorem mchAt_new {w : World} {b : Nat} (h : Room w b 40) (n : Int) (t v c : ByteArray) (T : Int → ByteArray) : MchAt (w.setCells b 0 (big 40 (mchCells n t v c T)).toList) b n t v c T start := by
  have e : ∀ j, j < 40 → (w.setCells b 0 (big 40 (mchCells n t v c T)).toList).cell? ⟨b, j, none⟩ = some (mchCells n t v c T j) := fun j hj => by
    have := st_big_cell w b 0 40 (mchCells n t v c T) h.c j hj
    rwa [Nat.zero_add] at this
  refine ⟨by have := (but_cells (But.refl b 0 w) (big 40 (mchCells n t v c T)).toList 0).size; exact Nat.lt_of_lt_of_le h.lt this, e 0 (by omega), e 1 (by omega), e 2 (by omega), e 3 (by omega), fun j hj => ?_, ?_, fun j hj => ?_, ?_, fun j hj => ?_, fun j hj => ?_, ⟨fun _ => .slice none 0 0, fun j hj => ?_, fun j hj => ?_, fun i j hi hj hij => .inl rfl⟩, fun j hj => ?_⟩
  · rw [e (4 + j) (by omega)]
    unfold mchCells
    rw [if_neg (by omega), if_neg (by omega), if_neg (by omega), if_neg (by omega), if_pos (by omega), show ((4 + j : Nat) : Int) - 4 = (j : Int) from by omega]
  · exact e 10 (by omega)
  · rw [e (11 + j) (by omega)]
    unfold mchCells
    rw [if_neg (by omega), if_neg (by omega), if_neg (by omega), if_neg (by omega), if_neg (by omega), if_pos (by omega)]
    rfl
  · exact e 19 (by omega)
  · rw [e (20 + j) (by omega)]
    unfold mchCells
    rw [if_neg (by omega), if_neg (by omega), if_neg (by omega), if_neg (by omega), if_neg (by omega), if_pos (by omega)]
    rfl
  · rw [e (28 + j) (by omega)]
    unfold mchCells
    rw [if_neg (by omega), if_neg (by omega), if_neg (by omega), if_neg (by omega), if_neg (by omega), if_pos (by omega)]
    show _ = some (Value.int .i64 ((min 0 (T j).size : Nat) : Int))
    rw [Nat.zero_min]
    rfl
  · rw [e (34 + j) (by omega)]
    unfold mchCells
    rw [if_neg (by omega), if_neg (by omega), if_neg (by omega), if_neg (by omega), if_neg (by omega), if_neg (by omega)]
  · exact World.ownsRow_nil _ _ _ _
  · have := h.f j hj
    rw [Nat.zero_add] at this
    rw [World.frozen?_setCells]
    exact this

/-- the world in which a machine begins -/
def mchW (w : World) (n : Int) (t v c : ByteArray) (T : Int → ByteArray) : World := (((w.alloc (.cells #[.int .i64 n, .string t, .string v, .string c] 77)).alloc (.cells #[.string (T 0), .string (T 1), .string (T 2), .string (T 3), .string (T 4), .string (T 5)] 49)).alloc (.cells #[.int .i64 0, .int .i64 0, .string { data := #[] }, .string { data := #[] }, .string { data := #[] }, .string { data := #[] }, .string { data := #[] }, .string { data := #[] }, .string { data := #[] }] 51)).alloc (.cells #[.int .i64 0, .string { data := #[] }, .string { data := #[] }, .string { data := #[] }, .string { data := #[] }, .string { data := #[] }, .string { data := #[] }, .string { data := #[] }, .string { data := #[] }, .string { data := #[] }, .int .i64 0, .int .i64 0, .int .i64 0, .int .i64 0, .int .i64 0, .int .i64 0, .int .i64 0, .int .i64 0, .int .i64 0, .int .i64 0, .int .i64 0, .int .i64 0, .int .i64 0, .int .i64 0, .int .i64 0, .int .i64 0, .int .i64 0, .int .i64 0, .int .i64 0, .int .i64 0, .int .i64 0, .int .i64 0, .int .i64 0, .int .i64 0, .slice none 0 0, .slice none 0 0, .slice none 0 0, .slice none 0 0, .slice none 0 0, .slice none 0 0] 132)

theorem room_last (w : World) (cs : Array Value) (t : TypeId) (b k : Nat) (hb : b = w.heap.size) (hk : cs.size = k) : Room (w.alloc (.cells cs t)) b k := by
  subst hb
  exact Room.of_row (heap_alloc_last w _) hk

/-- block g holds a result -/
structure ResAt (w : World) (g : Nat) (en st : Int) (lg : Nat → ByteArray) (vs : ByteArray) : Prop where
  lt : g < w.heap.size
  c0 : w.cell? ⟨g, 0, none⟩ = some (.int .i64 en)
  c1 : w.cell? ⟨g, 1, none⟩ = some (.int .i64 st)
  cl : ∀ j : Nat, j < 6 → w.cell? ⟨g, 2 + j, none⟩ = some (.string (lg j))
  cv : w.cell? ⟨g, 8, none⟩ = some (.string vs)
  f : ∀ j : Nat, j < 9 → w.frozen? ⟨g, j, none⟩ = false

theorem ResAt.step {w w1 : World} {g : Nat} {en st : Int} {lg : Nat → ByteArray} {vs : ByteArray} (H : ResAt w g en st lg vs) (hb : Below w.heap.size w w1) : ResAt w1 g en st lg vs := by
  have key : ∀ k : Nat, w1.cell? ⟨g, k, none⟩ = w.cell? ⟨g, k, none⟩ := fun k => hb.cell (p := ⟨g, k, none⟩) H.lt
  exact ⟨Nat.lt_of_lt_of_le H.lt hb.size, (key _).trans H.c0, (key _).trans H.c1, fun j hj => (key _).trans (H.cl j hj), (key _).trans H.cv, fun j hj => by rw [hb.frozen (p := ⟨g, j, none⟩) H.lt]; exact H.f j hj⟩

theorem ResAt.but {w w1 : World} {g b : Nat} {en st : Int} {lg : Nat → ByteArray} {vs : ByteArray} (H : ResAt w g en st lg vs) (hb : But b w.heap.size w w1) (hne : g ≠ b) : ResAt w1 g en st lg vs := by
  have key : ∀ k : Nat, w1.cell? ⟨g, k, none⟩ = w.cell? ⟨g, k, none⟩ := fun k => hb.cell (p := ⟨g, k, none⟩) H.lt hne
  exact ⟨Nat.lt_of_lt_of_le H.lt hb.size, (key _).trans H.c0, (key _).trans H.c1, fun j hj => (key _).trans (H.cl j hj), (key _).trans H.cv, fun j hj => by rw [hb.frozen (p := ⟨g, j, none⟩) H.lt hne]; exact H.f j hj⟩

theorem ResAt.new (w : World) (t : TypeId) (en st : Int) : ResAt (w.alloc (.cells #[.int .i64 en, .int .i64 st, .string { data := #[] }, .string { data := #[] }, .string { data := #[] }, .string { data := #[] }, .string { data := #[] }, .string { data := #[] }, .string { data := #[] }] t)) w.heap.size en st (fun _ => { data := #[] }) { data := #[] } := by
  refine ⟨by simp, by simp [go_sem], by simp [go_sem], fun j hj => ?_, by simp [go_sem], fun j hj => ?_⟩
  · match j with
    | 0 => simp [go_sem]
    | 1 => simp [go_sem]
    | 2 => simp [go_sem]
    | 3 => simp [go_sem]
    | 4 => simp [go_sem]
    | 5 => simp [go_sem]
    | j + 6 => omega
  · simp [go_sem]

theorem ResAt.setEnd {w : World} {g : Nat} {en st : Int} {lg : Nat → ByteArray} {vs : ByteArray} (H : ResAt w g en st lg vs) (x : Int) : ResAt (w.setCell ⟨g, 0, none⟩ (.int .i64 x)) g x st lg vs := by
  have key : ∀ k : Nat, k ≠ 0 → (w.setCell ⟨g, 0, none⟩ (.int .i64 x)).cell? ⟨g, k, none⟩ = w.cell? ⟨g, k, none⟩ := fun k hk => cell_off _ _ _ _ _ (by omega)
  exact ⟨by simpa using H.lt, World.cell?_setCell_same _ _ _ H.c0, (key _ (by omega)).trans H.c1, fun j hj => (key _ (by omega)).trans (H.cl j hj), (key _ (by omega)).trans H.cv, fun j hj => by rw [World.frozen?_setCell]; exact H.f j hj⟩

theorem ResAt.setVars {w : World} {g : Nat} {en st : Int} {lg : Nat → ByteArray} {vs : ByteArray} (H : ResAt w g en st lg vs) (x : ByteArray) : ResAt (w.setCell ⟨g, 8, none⟩ (.string x)) g en st lg x := by
  have key : ∀ k : Nat, k ≠ 8 → (w.setCell ⟨g, 8, none⟩ (.string x)).cell? ⟨g, k, none⟩ = w.cell? ⟨g, k, none⟩ := fun k hk => cell_off _ _ _ _ _ (by omega)
  exact ⟨by simpa using H.lt, (key _ (by omega)).trans H.c0, (key _ (by omega)).trans H.c1, fun j hj => (key _ (by omega)).trans (H.cl j hj), World.cell?_setCell_same _ _ _ H.cv, fun j hj => by rw [World.frozen?_setCell]; exact H.f j hj⟩

theorem ResAt.setLog {w : World} {g k : Nat} {en st : Int} {lg : Nat → ByteArray} {vs : ByteArray} (H : ResAt w g en st lg vs) (hk : k < 6) (x : ByteArray) : ResAt (w.setCell ⟨g, 2 + k, none⟩ (.string x)) g en st (fun j => if j = k then x else lg j) vs := by
  have key : ∀ i : Nat, i ≠ 2 + k → (w.setCell ⟨g, 2 + k, none⟩ (.string x)).cell? ⟨g, i, none⟩ = w.cell? ⟨g, i, none⟩ := fun i hi => cell_off _ _ _ _ _ (by omega)
  refine ⟨by simpa using H.lt, (key _ (by omega)).trans H.c0, (key _ (by omega)).trans H.c1, fun j hj => ?_, (key _ (by omega)).trans H.cv, fun j hj => by rw [World.frozen?_setCell]; exact H.f j hj⟩
  by_cases e : j = k
  · subst e
    rw [World.cell?_setCell_same _ _ _ (H.cl j hj), if_pos rfl]
  · rw [key _ (by omega), if_neg e]; exact H.cl j hj

/-- the six logs of a result set one behind the other -/
def resW (w : World) (g : Nat) (y : Nat → ByteArray) : World := (((((w.setCell ⟨g, 2, none⟩ (.string (y 0))).setCell ⟨g, 3, none⟩ (.string (y 1))).setCell ⟨g, 4, none⟩ (.string (y 2))).setCell ⟨g, 5, none⟩ (.string (y 3))).setCell ⟨g, 6, none⟩ (.string (y 4))).setCell ⟨g, 7, none⟩ (.string (y 5))

theorem ResAt.setAt {w : World} {g k p : Nat} {en st : Int} {lg : Nat → ByteArray} {vs : ByteArray} (H : ResAt w g en st lg vs) (hk : k < 6) (hp : p = 2 + k) (x : ByteArray) : ResAt (w.setCell ⟨g, p, none⟩ (.string x)) g en st (fun j => if j = k then x else lg j) vs := by
  subst hp
  exact H.setLog hk x

theorem ResAt.same {w : World} {g : Nat} {en st : Int} {lg lg' : Nat → ByteArray} {vs : ByteArray} (H : ResAt w g en st lg vs) (h : ∀ j, j < 6 → lg j = lg' j) : ResAt w g en st lg' vs :=
  ⟨H.lt, H.c0, H.c1, fun j hj => by rw [← h j hj]; exact H.cl j hj, H.cv, H.f⟩

theorem ResAt.setLogs {w : World} {g : Nat} {en st : Int} {lg : Nat → ByteArray} {vs : ByteArray} (H : ResAt w g en st lg vs) (y : Nat → ByteArray) : ResAt (resW w g y) g en st y vs := by
  have K0 := H.setAt (k := 0) (p := 2) (by omega) rfl (y 0)
  have K1 := K0.setAt (k := 1) (p := 3) (by omega) rfl (y 1)
  have K2 := K1.setAt (k := 2) (p := 4) (by omega) rfl (y 2)
  have K3 := K2.setAt (k := 3) (p := 5) (by omega) rfl (y 3)
  have K4 := K3.setAt (k := 4) (p := 6) (by omega) rfl (y 4)
  have K5 := K4.setAt (k := 5) (p := 7) (by omega) rfl (y 5)
  unfold resW
  refine K5.same fun j hj => ?_
  by_cases e5 : j = 5
  · subst e5; simp
  by_cases e4 : j = 4
  · subst e4; simp
  by_cases e3 : j = 3
  · subst e3; simp
  by_cases e2 : j = 2
  · subst e2; simp
  by_cases e1 : j = 1
  · subst e1; simp
  have e0 : j = 0 := by omega
  subst e0; simp

theorem below_resW {B : Nat} {x w : World} (h : Below B x w) (g : Nat) (hg : B ≤ g) (y : Nat → ByteArray) : Below B x (resW w g y) :=
  (((((h.setCell hg _).setCell hg _).setCell hg _).setCell hg _).setCell hg _).setCell hg _

theorem num_next {c : ByteArray} {T : Int → ByteArray} : ∀ (k : Nat) (m : Hnd), (runM c T k m).pl ≠ half c → numM c T (k + 1) m = k + 1
  | 0, m, h => by
    have h' : m.pl ≠ half c := h
    rw [stepsM_go h']
    rfl
  | k + 1, m, h => by
    by_cases e : m.pl = half c
    · rw [runM_end e] at h; exact absurd e h
    · rw [runM_go e] at h
      rw [stepsM_go e, num_next k _ h]

set_option maxHeartbeats 1600000 in
theorem mrun_any (n : Int) (t v c : ByteArray) (T : Int → ByteArray) (h : Nat → Int) (f : Nat) (w : World) (F : RunF c v n T) (P : Kp (Through c v t n h)) (hf : f ≤ 20000) :
    Calls Try.prog 52 #[.agg #[.int .i64 n, .string t, .string v, .string c], tapV T, .int .i64 f] w fun e w' => e = .returned (resV c v T f) ∧ Below w.heap.size w w' := by
  have hc := F.hc
  have hK := F.hK
  have hv8 := F.hv
  have hh := (half_bd c).1
  have hsz : (mchW w n t v c T).heap.size = w.heap.size + 4 := by unfold mchW; simp
  have hR0 : Room (mchW w n t v c T) (w.heap.size + 1 + 1 + 1) 40 := room_last _ _ _ _ _ (by simp) rfl
  have hO0 : Own (mchW w n t v c T) w.heap.size [.int .i64 n, .string t, .string v, .string c] := (((Own.new4 w _ _ _ _ _).alloc _).alloc _).alloc _
  have hX0 : ResAt (mchW w n t v c T) (w.heap.size + 1 + 1) 0 0 (fun _ => { data := #[] }) { data := #[] } := by
    have := (ResAt.new (en := 0) (st := 0) ((w.alloc (.cells #[.int .i64 n, .string t, .string v, .string c] 77)).alloc (.cells #[.string (T 0), .string (T 1), .string (T 2), .string (T 3), .string (T 4), .string (T 5)] 49)) 51).step ((Below.refl _ _).alloc (Nat.le_refl _) (.cells #[.int .i64 0, .string { data := #[] }, .string { data := #[] }, .string { data := #[] }, .string { data := #[] }, .string { data := #[] }, .string { data := #[] }, .string { data := #[] }, .string { data := #[] }, .string { data := #[] }, .int .i64 0, .int .i64 0, .int .i64 0, .int .i64 0, .int .i64 0, .int .i64 0, .int .i64 0, .int .i64 0, .int .i64 0, .int .i64 0, .int .i64 0, .int .i64 0, .int .i64 0, .int .i64 0, .int .i64 0, .int .i64 0, .int .i64 0, .int .i64 0, .int .i64 0, .int .i64 0, .int .i64 0, .int .i64 0, .int .i64 0, .int .i64 0, .slice none 0 0, .slice none 0 0, .slice none 0 0, .slice none 0 0, .slice none 0 0, .slice none 0 0] 132))
    unfold mchW
    simpa using this
  have hB0 : Below w.heap.size w (mchW w n t v c T) := ((((Below.refl _ _).alloc (Nat.le_refl _) _).alloc (by simp) _).alloc (by simp; omega) _).alloc (by simp; omega) _
  obtain ⟨w1, hw1⟩ : ∃ w1, w1 = (mchW w n t v c T).setCells (w.heap.size + 1 + 1 + 1) 0 (big 40 (mchCells n t v c T)).toList := ⟨_, rfl⟩
  have hB : But (w.heap.size + 1 + 1 + 1) (mchW w n t v c T).heap.size (mchW w n t v c T) w1 := by rw [hw1]; exact but_cells (But.refl _ _ _) _ _
  have H1 : MchAt w1 (w.heap.size + 1 + 1 + 1) n t v c T start := by rw [hw1]; exact mchAt_new hR0 n t v c T
  have hX1 := hX0.but hB (by omega)
  have hO1 := hO0.but hB (by omega)
  have hB1 : Below w.heap.size w w1 := hB0.trans ((hB.mono hB0.size).below (by omega))
  replace hw1 : Kp _ := ⟨hw1⟩
  have q0 := hO1.c 0 _ rfl
  have q1 := hO1.c 1 _ rfl
  have q2 := hO1.c 2 _ rfl
  have q3 := hO1.c 3 _ rfl
  replace H1 : Kp _ := ⟨H1⟩
  replace hX1 : Kp _ := ⟨hX1⟩
  replace hB1 : Kp _ := ⟨hB1⟩
  replace hR0 : Kp _ := ⟨hR0⟩
  have hb := built_mch n t v c T
  replace hb : Kp _ := ⟨hb⟩
  clear hO0 hO1 hX0 hB0 hB
  replace F : Kp _ := ⟨F⟩
  unfold tapV
  go_enter Try.func52, Try.ntmps52
  iterate 24 go_step
  refine wp_build_big 132 #[(0, .tmp 11), (1, .tmp 12)] rfl (big 40 (mchCells n t v c T)) ?hf ?_
  case hf => exact (congrArg (Program.built Try.prog 132) (by simp [Act.eval])).trans hb.out
  iterate 5 go_step
  refine wp_store_big 132 (.tmp 7) (.tmp 13) rfl (w.heap.size + 1 + 1 + 1) 0 40 (mchCells n t v c T) rfl rfl (by kernel_rfl) hR0.out.c hR0.out.f (fun j _ => mch_one _ _ _ _ _ j) ?_
  rw [show (((w.alloc (.cells #[.int .i64 n, .string t, .string v, .string c] 77)).alloc (.cells #[.string (T 0), .string (T 1), .string (T 2), .string (T 3), .string (T 4), .string (T 5)] 49)).alloc (.cells #[.int .i64 0, .int .i64 0, .string { data := #[] }, .string { data := #[] }, .string { data := #[] }, .string { data := #[] }, .string { data := #[] }, .string { data := #[] }, .string { data := #[] }] 51)).alloc (.cells #[.int .i64 0, .string { data := #[] }, .string { data := #[] }, .string { data := #[] }, .string { data := #[] }, .string { data := #[] }, .string { data := #[] }, .string { data := #[] }, .string { data := #[] }, .string { data := #[] }, .int .i64 0, .int .i64 0, .int .i64 0, .int .i64 0, .int .i64 0, .int .i64 0, .int .i64 0, .int .i64 0, .int .i64 0, .int .i64 0, .int .i64 0, .int .i64 0, .int .i64 0, .int .i64 0, .int .i64 0, .int .i64 0, .int .i64 0, .int .i64 0, .int .i64 0, .int .i64 0, .int .i64 0, .int .i64 0, .int .i64 0, .int .i64 0, .slice none 0 0, .slice none 0 0, .slice none 0 0, .slice none 0 0, .slice none 0 0, .slice none 0 0] 132) = mchW w n t v c T from rfl, ← hw1.out]
  dsimp only [Act.put]
  clear hR0 hw1 hsz hb
  obtain ⟨mb, hmb⟩ : ∃ mb, mb = w.heap.size + 1 + 1 + 1 := ⟨_, rfl⟩
  obtain ⟨xb, hxb⟩ : ∃ xb, xb = w.heap.size + 1 + 1 := ⟨_, rfl⟩
  rw [← hmb, ← hxb]
  rw [← hmb] at H1
  rw [← hxb] at hX1
  have hwx : w.heap.size ≤ xb := by omega
  have hxm : xb < mb := by omega
  clear hmb hxb
  go_wp2_with fail
  refine (length_any n t v c _ hc).mono ?_
  rintro e w2 ⟨rfl, hb2⟩
  have H2 : Kp _ := ⟨H1.out.step hb2⟩
  have hX2 : Kp _ := ⟨hX1.out.step hb2⟩
  have hB2 : Kp _ := ⟨hB1.out.trans (hb2.mono hB1.out.size)⟩
  clear H1 hX1 hB1 hb2 q0 q1 q2 q3
  go_wp2_with fail
  go_loopw [9] (fun sv wr => ∃ k : Nat, k ≤ f ∧ sv = .int .i64 k ∧ Kp (MchAt wr mb n t v c T (runM c T k start)) ∧ Kp (numM c T k start = k) ∧ Kp (ResAt wr xb 0 0 (fun _ => { data := #[] }) { data := #[] }) ∧ Kp (Below w.heap.size w wr)) (fun sv _ => f - (intOf sv).toNat)
  case atStart => exact ⟨0, by omega, rfl, H2, ⟨rfl⟩, hX2, hB2⟩
  case round =>
    clear H2 hX2 hB2
    obtain ⟨k, hk, rfl, H, hN, hX, hB⟩ := hrel
    have hpl := H.out.pl
    obtain ⟨Sd, Vd, _⟩ := run_keeps (T := T) P.out k start (start_sound P.out) start_vals
    obtain ⟨pl, hple⟩ : ∃ pl, (runM c T k start).pl = pl := ⟨_, rfl⟩
    rw [hple] at hpl
    replace Sd : Kp _ := ⟨Sd⟩
    replace Vd : Kp _ := ⟨Vd⟩
    by_cases he : pl = half c
    · have hnx : Kp (endOf c T f = 1 ∧ cntOf c T f = k ∧ (∀ l, logOf c T f l = bs ((runM c T k start).lo l)) ∧ varsOf c v T f = bs (lst (runM c T k start).va v.size)) := ⟨by
        obtain ⟨r1, r2⟩ := numM_last (T := T) (m := start) (k := k) (by rw [hple]; exact he) f hk
        unfold endOf cntOf logOf varsOf
        rw [r1, r2, hN.out, hple, if_pos he]
        exact ⟨rfl, rfl, fun _ => rfl, rfl⟩⟩
      subst he
      have hnn : (half c != half c) = false := by simp
      have hxl := hX.out.lt
      have hml := H.out.lt
      by_cases hkf : k < f
      all_goals
        clear hN hple Sd
        go_wp2_with fail
        obtain ⟨wa, hwa⟩ : ∃ wa, wa = wr.alloc (.cells #[.int .i64 1, .int .i64 k, .string { data := #[] }, .string { data := #[] }, .string { data := #[] }, .string { data := #[] }, .string { data := #[] }, .string { data := #[] }, .string { data := #[] }] 51) := ⟨_, rfl⟩
        rw [← hwa]
        have A0 : ResAt wa wr.heap.size 1 k (fun _ => { data := #[] }) { data := #[] } := by rw [hwa]; exact ResAt.new wr _ 1 k
        have hbA : Below wr.heap.size wr wa := by rw [hwa]; exact (Below.refl _ _).alloc (Nat.le_refl _) _
        have hL := allLogs_any mb n t v c T _ wa (H.out.step hbA)
        unfold tapV at hL
        dsimp only at hL
        obtain ⟨y, hy⟩ : ∃ y : Nat → ByteArray, ∀ j : Nat, bs ((runM c T k start).lo j) = y j := ⟨_, fun _ => rfl⟩
        have z0 : bs ((runM c T k start).lo 0) = y 0 := hy 0
        have z1 : bs ((runM c T k start).lo 1) = y 1 := hy 1
        have z2 : bs ((runM c T k start).lo 2) = y 2 := hy 2
        have z3 : bs ((runM c T k start).lo 3) = y 3 := hy 3
        have z4 : bs ((runM c T k start).lo 4) = y 4 := hy 4
        have z5 : bs ((runM c T k start).lo 5) = y 5 := hy 5
        rw [z0, z1, z2, z3, z4, z5] at hL
        obtain ⟨yv, hyv⟩ : ∃ yv, bs (lst (runM c T k start).va v.size) = yv := ⟨_, rfl⟩
        have hres : Kp (resV c v T f = .agg #[.int .i64 1, .int .i64 k, .string (y 0), .string (y 1), .string (y 2), .string (y 3), .string (y 4), .string (y 5), .string yv]) := ⟨by
          unfold resV
          rw [hnx.out.1, hnx.out.2.1, hnx.out.2.2.1, hnx.out.2.2.1, hnx.out.2.2.1, hnx.out.2.2.1, hnx.out.2.2.1, hnx.out.2.2.1, hnx.out.2.2.2, z0, z1, z2, z3, z4, z5, hyv]⟩
        replace hyv : Kp _ := ⟨hyv⟩
        clear z0 z1 z2 z3 z4 z5 hy hwa hpl hnx
        refine hL.mono ?_
        rintro e w3 ⟨rfl, hb3⟩
        have A1 := A0.step hb3
        have hbr3 : Below wr.heap.size wr w3 := hbA.trans (hb3.mono hbA.size)
        have A2 : Kp _ := ⟨A1.setLogs y⟩
        have hbr4 : Kp _ := ⟨below_resW hbr3 wr.heap.size (Nat.le_refl _) y⟩
        have d0 := A1.cl 0 (by omega)
        have d1 := A1.cl 1 (by omega)
        have d2 := A1.cl 2 (by omega)
        have d3 := A1.cl 3 (by omega)
        have d4 := A1.cl 4 (by omega)
        have d5 := A1.cl 5 (by omega)
        have g0 := A1.f 2 (by omega)
        have g1 := A1.f 3 (by omega)
        have g2 := A1.f 4 (by omega)
        have g3 := A1.f 5 (by omega)
        have g4 := A1.f 6 (by omega)
        have g5 := A1.f 7 (by omega)
        have hl3 := A1.lt
        clear A1 A0 hb3 hbA hbr3 hL
        go_wp2_with fail
        rw [show (((((w3.setCell ⟨wr.heap.size, 2, none⟩ (.string (y 0))).setCell ⟨wr.heap.size, 3, none⟩ (.string (y 1))).setCell ⟨wr.heap.size, 4, none⟩ (.string (y 2))).setCell ⟨wr.heap.size, 5, none⟩ (.string (y 3))).setCell ⟨wr.heap.size, 6, none⟩ (.string (y 4))).setCell ⟨wr.heap.size, 7, none⟩ (.string (y 5)) = resW w3 wr.heap.size y from rfl]
        have hV := allVars_any mb n t v c T _ (resW w3 wr.heap.size y) (H.out.step hbr4.out) hc hv8 Vd
        rw [hyv.out] at hV
        clear d0 d1 d2 d3 d4 d5 g0 g1 g2 g3 g4 g5 hl3
        refine hV.mono ?_
        rintro e w5 ⟨rfl, hb5⟩
        have A3 := A2.out.step hb5
        have hbr5 : Below wr.heap.size wr w5 := hbr4.out.trans (hb5.mono hbr4.out.size)
        have X5 := hX.out.step hbr5
        have hB5 : Below w.heap.size w w5 := hB.out.trans (hbr5.mono (by omega))
        have hx5 := X5.lt
        have ha5 := A3.lt
        have d0 := A3.c0
        have d1 := A3.c1
        have d2 := A3.cl 0 (by omega)
        have d3 := A3.cl 1 (by omega)
        have d4 := A3.cl 2 (by omega)
        have d5 := A3.cl 3 (by omega)
        have d6 := A3.cl 4 (by omega)
        have d7 := A3.cl 5 (by omega)
        have d8 := A3.cv
        have g8 := A3.f 8 (by omega)
        have r0 := X5.c0
        have r1 := X5.c1
        have r2 := X5.cl 0 (by omega)
        have r3 := X5.cl 1 (by omega)
        have r4 := X5.cl 2 (by omega)
        have r5 := X5.cl 3 (by omega)
        have r6 := X5.cl 4 (by omega)
        have r7 := X5.cl 5 (by omega)
        have r8 := X5.cv
        have f0 := X5.f 0 (by omega)
        have f1 := X5.f 1 (by omega)
        have f2 := X5.f 2 (by omega)
        have f3 := X5.f 3 (by omega)
        have f4 := X5.f 4 (by omega)
        have f5 := X5.f 5 (by omega)
        have f6 := X5.f 6 (by omega)
        have f7 := X5.f 7 (by omega)
        have f8 := X5.f 8 (by omega)
        have hne2 : wr.heap.size ≠ xb := by omega
        have hgw : w.heap.size ≤ wr.heap.size := by omega
        clear hV hbr5 X5 A3 A2 hb5 H hX hB hbr4
        go_wp2_with fail
        exact bodyPost_ret (v := .agg #[.int .i64 1, .int .i64 k, .string (y 0), .string (y 1), .string (y 2), .string (y 3), .string (y 4), .string (y 5), .string yv]) (by simp [results, Try.results52, go_sem, r0, r1, r2, r3, r4, r5, r6, r7, r8]) rfl ⟨by rw [hres.out], ((((((((((hB5.setCell hgw _).setCell hwx _).setCell hwx _).setCell hwx _).setCell hwx _).setCell hwx _).setCell hwx _).setCell hwx _).setCell hwx _).setCell hwx _)⟩
    · by_cases hkf : k < f
      · have hki : (k : Int) < (f : Int) := by omega
        have hne : (pl != half c) = true := bne_iff_ne.2 he
        have hlt : (runM c T k start).pl < half c := by have := Sd.out.r1; omega
        have hlen : Kp (∀ l, ((runM c T k start).lo l).length ≤ 20000) := ⟨fun l => by have := run_len c T l k start; have e : (start.lo l).length = 0 := rfl; omega⟩
        have hst := stepM_any mb n t v c T h _ wr H.out F.out P Sd Vd hlt hlen
        have hnx : Kp (runM c T (k + 1) start = stepM c T (runM c T k start) ∧ numM c T (k + 1) start = k + 1) := ⟨runM_last (by rw [hple]; exact he), num_next k start (by rw [hple]; exact he)⟩
        rw [← hnx.out.1] at hst
        have hBm := hX.out.lt
        replace hst : Kp _ := ⟨hst⟩
        clear hlt hlen he
        go_wp2_with fail
        refine hst.out.mono ?_
        rintro e w3 ⟨rfl, H3, hb3⟩
        have hX3 : Kp (ResAt w3 xb 0 0 (fun _ => { data := #[] }) { data := #[] }) := ⟨by
          have key : ∀ j : Nat, w3.cell? ⟨xb, j, none⟩ = wr.cell? ⟨xb, j, none⟩ := fun j => hb3.cell (p := ⟨xb, j, none⟩) hxm
          exact ⟨Nat.lt_of_lt_of_le hX.out.lt hb3.size, (key _).trans hX.out.c0, (key _).trans hX.out.c1, fun j hj => (key _).trans (hX.out.cl j hj), (key _).trans hX.out.cv, fun j hj => by rw [hb3.frozen (p := ⟨xb, j, none⟩) hxm]; exact hX.out.f j hj⟩⟩
        have hB3 : Kp (Below w.heap.size w w3) := ⟨hB.out.trans (hb3.mono (by omega))⟩
        replace H3 : Kp _ := ⟨H3⟩
        clear hb3 hX hB H hpl hst
        go_wp2_with fail
        go_roundw
        case rel => exact ⟨k + 1, by omega, by go_num, H3, ⟨hnx.out.2⟩, hX3, hB3⟩
        case measure => simp [intOf]; omega
      · have ekf : k = f := by omega
        subst ekf
        have hne : (pl == half c) = false := beq_eq_false_iff_ne.2 he
        have hnx : Kp (endOf c T k = 2 ∧ cntOf c T k = k ∧ (∀ l, logOf c T k l = bs ((runM c T k start).lo l)) ∧ varsOf c v T k = bs (lst (runM c T k start).va v.size)) := ⟨by
          unfold endOf cntOf logOf varsOf
          rw [hN.out, hple, if_neg he]
          exact ⟨rfl, rfl, fun _ => rfl, rfl⟩⟩
        have hxl := hX.out.lt
        have hml := H.out.lt
        clear hN hple Sd
        go_wp2_with fail
        obtain ⟨wa, hwa⟩ : ∃ wa, wa = wr.alloc (.cells #[.int .i64 2, .int .i64 k, .string { data := #[] }, .string { data := #[] }, .string { data := #[] }, .string { data := #[] }, .string { data := #[] }, .string { data := #[] }, .string { data := #[] }] 51) := ⟨_, rfl⟩
        rw [← hwa]
        have A0 : ResAt wa wr.heap.size 2 k (fun _ => { data := #[] }) { data := #[] } := by rw [hwa]; exact ResAt.new wr _ 2 k
        have hbA : Below wr.heap.size wr wa := by rw [hwa]; exact (Below.refl _ _).alloc (Nat.le_refl _) _
        have hL := allLogs_any mb n t v c T _ wa (H.out.step hbA)
        unfold tapV at hL
        dsimp only at hL
        obtain ⟨y, hy⟩ : ∃ y : Nat → ByteArray, ∀ j : Nat, bs ((runM c T k start).lo j) = y j := ⟨_, fun _ => rfl⟩
        have z0 : bs ((runM c T k start).lo 0) = y 0 := hy 0
        have z1 : bs ((runM c T k start).lo 1) = y 1 := hy 1
        have z2 : bs ((runM c T k start).lo 2) = y 2 := hy 2
        have z3 : bs ((runM c T k start).lo 3) = y 3 := hy 3
        have z4 : bs ((runM c T k start).lo 4) = y 4 := hy 4
        have z5 : bs ((runM c T k start).lo 5) = y 5 := hy 5
        rw [z0, z1, z2, z3, z4, z5] at hL
        obtain ⟨yv, hyv⟩ : ∃ yv, bs (lst (runM c T k start).va v.size) = yv := ⟨_, rfl⟩
        have hres : Kp (resV c v T k = .agg #[.int .i64 2, .int .i64 k, .string (y 0), .string (y 1), .string (y 2), .string (y 3), .string (y 4), .string (y 5), .string yv]) := ⟨by
          unfold resV
          rw [hnx.out.1, hnx.out.2.1, hnx.out.2.2.1, hnx.out.2.2.1, hnx.out.2.2.1, hnx.out.2.2.1, hnx.out.2.2.1, hnx.out.2.2.1, hnx.out.2.2.2, z0, z1, z2, z3, z4, z5, hyv]⟩
        replace hyv : Kp _ := ⟨hyv⟩
        clear z0 z1 z2 z3 z4 z5 hy hwa hpl hnx
        refine hL.mono ?_
        rintro e w3 ⟨rfl, hb3⟩
        have A1 := A0.step hb3
        have hbr3 : Below wr.heap.size wr w3 := hbA.trans (hb3.mono hbA.size)
        have A2 : Kp _ := ⟨A1.setLogs y⟩
        have hbr4 : Kp _ := ⟨below_resW hbr3 wr.heap.size (Nat.le_refl _) y⟩
        have d0 := A1.cl 0 (by omega)
        have d1 := A1.cl 1 (by omega)
        have d2 := A1.cl 2 (by omega)
        have d3 := A1.cl 3 (by omega)
        have d4 := A1.cl 4 (by omega)
        have d5 := A1.cl 5 (by omega)
        have g0 := A1.f 2 (by omega)
        have g1 := A1.f 3 (by omega)
        have g2 := A1.f 4 (by omega)
        have g3 := A1.f 5 (by omega)
        have g4 := A1.f 6 (by omega)
        have g5 := A1.f 7 (by omega)
        have hl3 := A1.lt
        clear A1 A0 hb3 hbA hbr3 hL
        go_wp2_with fail
        rw [show (((((w3.setCell ⟨wr.heap.size, 2, none⟩ (.string (y 0))).setCell ⟨wr.heap.size, 3, none⟩ (.string (y 1))).setCell ⟨wr.heap.size, 4, none⟩ (.string (y 2))).setCell ⟨wr.heap.size, 5, none⟩ (.string (y 3))).setCell ⟨wr.heap.size, 6, none⟩ (.string (y 4))).setCell ⟨wr.heap.size, 7, none⟩ (.string (y 5)) = resW w3 wr.heap.size y from rfl]
        have hV := allVars_any mb n t v c T _ (resW w3 wr.heap.size y) (H.out.step hbr4.out) hc hv8 Vd
        rw [hyv.out] at hV
        clear d0 d1 d2 d3 d4 d5 g0 g1 g2 g3 g4 g5 hl3
        refine hV.mono ?_
        rintro e w5 ⟨rfl, hb5⟩
        have A3 := A2.out.step hb5
        have hbr5 : Below wr.heap.size wr w5 := hbr4.out.trans (hb5.mono hbr4.out.size)
        have X5 := hX.out.step hbr5
        have hB5 : Below w.heap.size w w5 := hB.out.trans (hbr5.mono (by omega))
        have hx5 := X5.lt
        have ha5 := A3.lt
        have d0 := A3.c0
        have d1 := A3.c1
        have d2 := A3.cl 0 (by omega)
        have d3 := A3.cl 1 (by omega)
        have d4 := A3.cl 2 (by omega)
        have d5 := A3.cl 3 (by omega)
        have d6 := A3.cl 4 (by omega)
        have d7 := A3.cl 5 (by omega)
        have d8 := A3.cv
        have g8 := A3.f 8 (by omega)
        have r0 := X5.c0
        have r1 := X5.c1
        have r2 := X5.cl 0 (by omega)
        have r3 := X5.cl 1 (by omega)
        have r4 := X5.cl 2 (by omega)
        have r5 := X5.cl 3 (by omega)
        have r6 := X5.cl 4 (by omega)
        have r7 := X5.cl 5 (by omega)
        have r8 := X5.cv
        have f0 := X5.f 0 (by omega)
        have f1 := X5.f 1 (by omega)
        have f2 := X5.f 2 (by omega)
        have f3 := X5.f 3 (by omega)
        have f4 := X5.f 4 (by omega)
        have f5 := X5.f 5 (by omega)
        have f6 := X5.f 6 (by omega)
        have f7 := X5.f 7 (by omega)
        have f8 := X5.f 8 (by omega)
        have hne2 : wr.heap.size ≠ xb := by omega
        have hgw : w.heap.size ≤ wr.heap.size := by omega
        clear hV hbr5 X5 A3 A2 hb5 H hX hB hbr4
        go_wp2_with fail
        exact bodyPost_ret (v := .agg #[.int .i64 2, .int .i64 k, .string (y 0), .string (y 1), .string (y 2), .string (y 3), .string (y 4), .string (y 5), .string yv]) (by simp [results, Try.results52, go_sem, r0, r1, r2, r3, r4, r5, r6, r7, r8]) rfl ⟨by rw [hres.out], ((((((((((hB5.setCell hgw _).setCell hwx _).setCell hwx _).setCell hwx _).setCell hwx _).setCell hwx _).setCell hwx _).setCell hwx _).setCell hwx _).setCell hwx _)⟩
end Go.Proofs.Ytcnbifdlkalimaa
