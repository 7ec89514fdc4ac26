/-
  The walks of the package program: a file is written; for every table, all levels of variables and every code that is not too long.
-/
import Derived.Test.YtcnbifdlkalimabGreatTrn4
import Derived.Test.YtcnbifdlkalimabGreatLatB
import Derived.Lib.AppendStr
import Derived.Deep.AppendSrc
namespace Go.Proofs.YtcnbifdlkalimabGreat
open Go.RowKit
set_option linter.unusedVariables false
set_option maxRecDepth 100000

/-- a row appended to a row of one's own -/
theorem run_append_row {P : Program} (w : World) (base B : Nat) (t ty e : TypeId) (i : TypeInfo) (z : Value) (ht : P.underlying t = some (.slice e)) (hi : P.info? e = some i) (hz : i.zero = some z)
    (hsize : i.size = 1) (hby : i.bytes = 1) (hzs : z.cells.size = 1) (v : Value) (n : Nat) (xs : List Value) (hown : w.ownsRow base e 1 v n xs) (V : Value) (m : Nat) (ys : List Value) (hV : w.ownsRow B e 1 V m ys) (h1 : ∀ u ∈ ys, u.oneCell' = true)
    (h63 : n + m ≤ maxLen) (hbytes : n + m ≤ 140737488355328) (hbase : base ≤ w.heap.size) (hn : 0 < n) :
    ∃ v' w', (Builtin.append_ #[t, t] ty #[v, V]).run P w = .ok v' w' ∧ w'.ownsRow base e 1 v' (n + m) (xs ++ ys) ∧ w.grownBy w' v.ownBlock := by
  rcases hV.2 with ⟨rfl, rfl⟩ | ⟨g, cap, cur, rfl, hg, _⟩
  · have hy : ys = [] := List.eq_nil_of_length_eq_zero (by simpa using hV.1)
    subst hy
    rcases hown.2 with ⟨_, h0⟩ | ⟨gv, capv, curv, rfl, hbg, hgv, hnc, hcm, hcs, htake⟩
    · omega
    · have hr := run_append_room_src (P := P) w t t ty e i ht hi gv 0 n capv (.slice none 0 0) 0 [] (by rw [hsize]; exact Src.ofNil w ht 0) (by omega) (by intro j hj; simp at hj) (by intro j hj; simp at hj)
      refine ⟨_, _, hr, ?_, ⟨rfl, rfl, rfl, Nat.le_refl _, fun _ _ _ => rfl⟩⟩
      rw [Nat.add_zero, List.append_nil]
      exact hown
  · obtain ⟨v', w', hr, h2, h3, _, _⟩ := run_append_own_at (P := P) w base t ty e i z 1 1 ht hi hz hsize hby hzs (by omega) v n xs hown ⟨g, 0, none⟩ m cap ys hV.1 (hV.cells rfl) h1 h63 (by omega) hbase
    exact ⟨v', w', hr, h2, h3⟩

theorem wpList_append_row {P : Program} (w : World) {ops : Array Oper} {rest : List Oper} {o : Oper} {a : Act} {Q : Exit → Act → World → Prop} (hgd : o.guard = none) (s x : Operand) (t : TypeId)
    (ho : o.op = .call { callee := .builtin .append, args := #[s, x], argTypes := #[t, t] })
    (base B : Nat) (e : TypeId) (i : TypeInfo) (z : Value) (ht : P.underlying t = some (.slice e)) (hi : P.info? e = some i) (hz : i.zero = some z)
    (hsize : i.size = 1) (hby : i.bytes = 1) (hzs : z.cells.size = 1) (v : Value) (n : Nat) (xs : List Value) (hs : a.eval s = v) (hown : w.ownsRow base e 1 v n xs) (V : Value) (m : Nat) (ys : List Value) (hx : a.eval x = V) (hV : w.ownsRow B e 1 V m ys) (h1 : ∀ u ∈ ys, u.oneCell' = true)
    (h63 : n + m ≤ maxLen) (hbytes : n + m ≤ 140737488355328) (hbase : base ≤ w.heap.size) (hn : 0 < n)
    (h : ∀ v' w', w'.ownsRow base e 1 v' (n + m) (xs ++ ys) → w.grownBy w' v.ownBlock → wpList P ops Q rest (a.put o.dst v') w') : wpList P ops Q (o :: rest) a w := by
  refine wpList_plain hgd fun K hK => ?_
  obtain ⟨v', w', hr, h2, h3⟩ := run_append_row (P := P) w base B t o.type e i z ht hi hz hsize hby hzs v n xs hown V m ys hV h1 h63 hbytes hbase hn
  unfold Oper.wp execOp
  simp only [ho, resolve, invoke, builtin, Sem.run_bind, Sem.run_pure, Result.andThen_ok, List.map_toArray, List.map_cons, List.map_nil, hs, hx, hr]
  exact hK _ _ (h v' w' h2 h3)

/-- a text's bytes -/
def bl (s : ByteArray) : List Int := s.data.toList.map fun b => (b.toNat : Int)
theorem bl_len (s : ByteArray) : (bl s).length = s.size := by
  unfold bl
  rw [List.length_map]
  rfl
theorem bs_bl (s : ByteArray) : bs (bl s) = s := by
  apply ByteArray.ext
  show ((s.data.toList.map fun b => (b.toNat : Int)).map fun x => UInt8.ofNat x.toNat).toArray = s.data
  rw [List.map_map]
  have : (fun x : Int => UInt8.ofNat x.toNat) ∘ (fun b : UInt8 => (b.toNat : Int)) = id := by
    funext b
    simp
  rw [this]
  simp
theorem bl_cells (s : ByteArray) : Go.Lib.strCells s = (bl s).map (Value.int .u8) := by
  unfold Go.Lib.strCells bl
  rw [List.map_map]
  rfl
theorem bytes_one (L : List Int) : ∀ u ∈ L.map (Value.int .u8), u.oneCell' = true := by
  intro u hu
  obtain ⟨x, _, rfl⟩ := List.mem_map.1 hu
  rfl

set_option maxHeartbeats 400000 in
theorem tableText_any (n : Int) (T : ByteArray) (w : World) : Calls Tryz.prog 103 #[.agg #[.int .i64 n, .string T]] w fun e w' => e = .returned (.string T) ∧ Below w.heap.size w w' := by
  go_enter Tryz.func103, Tryz.ntmps103
  go_wp2
  go_ret
  exact ⟨rfl, (Below.refl _ _).alloc (Nat.le_refl _) _⟩

/-- what Write lays down, part by part -/
def wl2 (n : Int) : List Int := [83, n % 256]
def wl3 (n : Int) (T : ByteArray) : List Int := wl2 n ++ bl T
def wl4 (n : Int) (T : ByteArray) (vs : List Int) : List Int := wl3 n T ++ [(vs.length : Int) % 256]
def wl5 (n : Int) (T : ByteArray) (vs : List Int) : List Int := wl4 n T vs ++ vs
def wl6 (n : Int) (T : ByteArray) (vs cd : List Int) : List Int := wl5 n T vs ++ [((cd.length / 2 : Nat) : Int) % 256]
def wl7 (n : Int) (T : ByteArray) (vs cd : List Int) : List Int := wl6 n T vs cd ++ cd
theorem wl3_len (n : Int) (T : ByteArray) : (wl3 n T).length = 2 + T.size := by unfold wl3 wl2; rw [List.length_append, bl_len]; rfl
theorem wl4_len (n : Int) (T : ByteArray) (vs : List Int) : (wl4 n T vs).length = 3 + T.size := by unfold wl4; rw [List.length_append, wl3_len]; simp; omega
theorem wl5_len (n : Int) (T : ByteArray) (vs : List Int) : (wl5 n T vs).length = 3 + T.size + vs.length := by unfold wl5; rw [List.length_append, wl4_len]
theorem wl6_len (n : Int) (T : ByteArray) (vs cd : List Int) : (wl6 n T vs cd).length = 4 + T.size + vs.length := by unfold wl6; rw [List.length_append, wl5_len]; simp; omega
theorem wl7_bs (n : Int) (T : ByteArray) (vs cd : List Int) : bs (wl7 n T vs cd) = bs [83, n % 256] ++ T ++ bs [(vs.length : Int) % 256] ++ bs vs ++ bs [((cd.length / 2 : Nat) : Int) % 256] ++ bs cd := by
  unfold wl7 wl6 wl5 wl4 wl3 wl2
  rw [bs_append, bs_append, bs_append, bs_append, bs_append, bs_bl]

set_option maxHeartbeats 3200000 in
theorem writeP_any (n : Int) (T : ByteArray) (V C : Value) (vs cd : List Int) (B : Nat) (w : World) (hV : w.ownsRow B 5 1 V vs.length (vs.map (Value.int .u8))) (hC : w.ownsRow B 5 1 C cd.length (cd.map (Value.int .u8))) (hT : T.size ≤ 100) (hvs : vs.length ≤ 1000) (hcd : cd.length ≤ 100000) :
    Calls Tryz.prog 47 #[.agg #[.int .i64 n, .string T], V, C] w fun e w' => e = .returned (.string (bs (wl7 n T vs cd))) ∧ Below w.heap.size w w' := by
  obtain ⟨i0, hi0, hz0, hz1, hz2⟩ := infoParts info_u8
  obtain ⟨pV, kV, rfl⟩ := orow_len hV
  obtain ⟨pC, kC, rfl⟩ := orow_len hC
  have hw1 := wrap8 n
  have hw2 := wrap8 (vs.length : Int)
  have hw3 : IntKind.u8.wrap ((cd.length : Int) / 2) = ((cd.length / 2 : Nat) : Int) % 256 := by rw [wrap8]; omega
  obtain ⟨w0, hw0⟩ : ∃ w0, w0 = (w.alloc (.cells #[.int .i64 n, .string T] 54)).alloc (.cells #[.int .u8 83, .int .u8 (n % 256)] 5) := ⟨_, rfl⟩
  have B0 : Below w.heap.size w w0 := by rw [hw0]; exact ((Below.refl _ _).alloc (Nat.le_refl _) _).alloc (by simp) _
  have R0 : w0.ownsRow (w.heap.size + 1) 5 1 (.slice (some ⟨w.heap.size + 1, 0, none⟩) 2 2) 2 ((wl2 n).map (Value.int .u8)) := by
    rw [hw0]
    have := World.ownsRow_lit (base := w.heap.size + 1) (e := 5) (size := 1) (w.alloc (.cells #[.int .i64 n, .string T] 54)) #[.int .u8 83, .int .u8 (n % 256)] 2 (by simp) (by unfold maxLen; omega) rfl
    simpa [wl2] using this
  have hx0 : w0.heap.size = w.heap.size + 2 := by rw [hw0]; simp
  replace hV : Kp _ := ⟨hV⟩
  replace hC : Kp _ := ⟨hC⟩
  replace R0 : Kp _ := ⟨R0⟩
  replace B0 : Kp _ := ⟨B0⟩
  replace hw0 : Kp _ := ⟨hw0⟩
  replace hx0 : Kp _ := ⟨hx0⟩
  go_enter Tryz.func47, Tryz.ntmps47
  go_wp2_with fail
  rw [← hw0.out]
  refine (tableText_any n T _).mono ?_
  rintro e w1 ⟨rfl, b1⟩
  have R1 : Kp (w1.ownsRow (w.heap.size + 1) 5 1 (.slice (some ⟨w.heap.size + 1, 0, none⟩) 2 2) 2 ((wl2 n).map (Value.int .u8))) := ⟨orow_step R0.out b1⟩
  have B1 : Kp (Below w.heap.size w w1) := ⟨B0.out.trans (b1.mono (by rw [hx0.out]; omega))⟩
  have z1 : w.heap.size + 2 ≤ w1.heap.size := by have := b1.size; rw [hx0.out] at this; exact this
  clear R0 B0 b1
  go_wp2_with (at_builtin; refine Go.Lib.wpList_append_own_string _ rfl _ _ 56 9 rfl (w.heap.size + 1) 5 i0 Tryz.underlying56 Tryz.underlying9 hi0 hz0 hz1 hz2 _ _ _ rfl R1.out T rfl (by unfold maxLen; omega) (by omega) (by omega) ?_)
  intro v2 w2 o2 g2 _
  have R2 : Kp (w2.ownsRow (w.heap.size + 1) 5 1 v2 (2 + T.size) ((wl3 n T).map (Value.int .u8))) := ⟨by unfold wl3; rw [List.map_append, ← bl_cells]; exact o2⟩
  have B2 : Kp (Below w.heap.size w w2) := ⟨B1.out.grown g2 (by omega) (fun j hj => by have := (R1.out.lt j hj).1; omega)⟩
  have z2 : w.heap.size + 2 ≤ w2.heap.size := Nat.le_trans z1 g2.size
  obtain ⟨p2, c2, rfl⟩ := orow_len R2.out
  clear R1 B1 o2 g2 z1
  go_wp2_with (at_builtin; refine wpList_append_own _ rfl _ _ 56 rfl (w.heap.size + 1) 5 i0 (.int .u8 0) 1 1 Tryz.underlying56 hi0 hz0 hz1 hz2 rfl (by decide) _ _ _ rfl (R2.out.alloc _) ⟨w2.heap.size, 0, none⟩ 1 1 [.int .u8 ((vs.length : Int) % 256)] rfl rfl ?a1 ?a2 ?a3 ?a4 ?a5 ?_)
  case a1 =>
    intro j u hj
    match j, hj with
    | 0, hj => simp at hj; subst hj; simp [Addr.add]
  case a2 => intro u hu; simp at hu; subst hu; rfl
  case a3 => unfold maxLen; omega
  case a4 => omega
  case a5 => simp; omega
  intro v3 w3 o3 g3 _
  have R3 : Kp (w3.ownsRow (w.heap.size + 1) 5 1 v3 (3 + T.size) ((wl4 n T vs).map (Value.int .u8))) := ⟨by unfold wl4; rw [List.map_append, show 3 + T.size = 2 + T.size + 1 from by omega]; exact o3⟩
  have B3 : Kp (Below w.heap.size w w3) := ⟨(B2.out.alloc (by omega) _).grown g3 (by simp; omega) (fun j hj => by have := (R2.out.lt j hj).1; omega)⟩
  have z3 : w.heap.size + 2 ≤ w3.heap.size := by have := g3.size; simp at this; omega
  obtain ⟨p3, c3, rfl⟩ := orow_len R3.out
  have V3 : Kp (w3.ownsRow B 5 1 (.slice pV vs.length kV) vs.length (vs.map (Value.int .u8))) := ⟨orow_step hV.out B3.out⟩
  clear R2 B2 o3 g3 z2
  go_wp2_with (at_builtin; refine wpList_append_row _ rfl _ _ 56 rfl (w.heap.size + 1) B 5 i0 (.int .u8 0) Tryz.underlying56 hi0 hz0 hz1 hz2 rfl _ _ _ rfl R3.out _ _ _ rfl V3.out (bytes_one vs) (by unfold maxLen; omega) (by omega) (by omega) (by omega) ?_)
  intro v4 w4 o4 g4
  have R4 : Kp (w4.ownsRow (w.heap.size + 1) 5 1 v4 (3 + T.size + vs.length) ((wl5 n T vs).map (Value.int .u8))) := ⟨by unfold wl5; rw [List.map_append]; exact o4⟩
  have B4 : Kp (Below w.heap.size w w4) := ⟨B3.out.grown g4 (by omega) (fun j hj => by have := (R3.out.lt j hj).1; omega)⟩
  have z4 : w.heap.size + 2 ≤ w4.heap.size := Nat.le_trans z3 g4.size
  obtain ⟨p4, c4, rfl⟩ := orow_len R4.out
  clear R3 B3 o4 g4 z3 V3
  go_wp2_with (at_builtin; refine wpList_append_own _ rfl _ _ 56 rfl (w.heap.size + 1) 5 i0 (.int .u8 0) 1 1 Tryz.underlying56 hi0 hz0 hz1 hz2 rfl (by decide) _ _ _ rfl (R4.out.alloc _) ⟨w4.heap.size, 0, none⟩ 1 1 [.int .u8 (((cd.length / 2 : Nat) : Int) % 256)] rfl rfl ?c1 ?c2 ?c3 ?c4 ?c5 ?_)
  case c1 =>
    intro j u hj
    match j, hj with
    | 0, hj => simp at hj; subst hj; simp [Addr.add]
  case c2 => intro u hu; simp at hu; subst hu; rfl
  case c3 => unfold maxLen; omega
  case c4 => omega
  case c5 => simp; omega
  intro v5 w5 o5 g5 _
  have R5 : Kp (w5.ownsRow (w.heap.size + 1) 5 1 v5 (4 + T.size + vs.length) ((wl6 n T vs cd).map (Value.int .u8))) := ⟨by unfold wl6; rw [List.map_append, show 4 + T.size + vs.length = 3 + T.size + vs.length + 1 from by omega]; exact o5⟩
  have B5 : Kp (Below w.heap.size w w5) := ⟨(B4.out.alloc (by omega) _).grown g5 (by simp; omega) (fun j hj => by have := (R4.out.lt j hj).1; omega)⟩
  have z5 : w.heap.size + 2 ≤ w5.heap.size := by have := g5.size; simp at this; omega
  obtain ⟨p5, c5, rfl⟩ := orow_len R5.out
  have C5 : Kp (w5.ownsRow B 5 1 (.slice pC cd.length kC) cd.length (cd.map (Value.int .u8))) := ⟨orow_step hC.out B5.out⟩
  clear R4 B4 o5 g5 z4
  go_wp2_with (at_builtin; refine wpList_append_row _ rfl _ _ 56 rfl (w.heap.size + 1) B 5 i0 (.int .u8 0) Tryz.underlying56 hi0 hz0 hz1 hz2 rfl _ _ _ rfl R5.out _ _ _ rfl C5.out (bytes_one cd) (by unfold maxLen; omega) (by omega) (by omega) (by omega) ?_)
  intro v6 w6 o6 g6
  have R6 : w6.ownsRow (w.heap.size + 1) 5 1 v6 (wl7 n T vs cd).length ((wl7 n T vs cd).map (Value.int .u8)) := by
    unfold wl7
    rw [List.map_append, List.length_append, wl6_len]
    exact o6
  have B6 : Kp (Below w.heap.size w w6) := ⟨B5.out.grown g6 (by omega) (fun j hj => by have := (R5.out.lt j hj).1; omega)⟩
  have hcv := conv_row (wl7 n T vs cd) R6
  obtain ⟨p6, c6, rfl⟩ := orow_len R6
  obtain ⟨y, hy⟩ : ∃ y, bs (wl7 n T vs cd) = y := ⟨_, rfl⟩
  rw [hy] at hcv
  replace hy : Kp _ := ⟨hy⟩
  clear R5 B5 o6 g6 z5 C5 R6
  generalize (wl7 n T vs cd).length = len at *
  go_wp2_with fail
  go_ret
  exact ⟨by rw [hy.out]; rfl, B6.out⟩
end Go.Proofs.YtcnbifdlkalimabGreat
