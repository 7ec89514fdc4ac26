import Derived.Test.YtcnbifdlkalimaaGreatWay3
import Derived.Test.YtcnbifdlkalimaaGreatPlain9
import Derived.RegionTactic

/-
  The walks of the package paths: the ways, their small functions; for every file.
-/
namespace Go.Proofs.YtcnbifdlkalimaaGreat
open Go.RowKit
set_option linter.unusedVariables false
set_option maxRecDepth 100000

/-- block b holds ways: the file, how many, the turns, where each goes on -/
structure WaysAt (w : World) (b : Nat) (n : Int) (t v c : ByteArray) (k : Int) (T A : Int → Int) : Prop where
  lt : b < w.heap.size
  c0 : w.cell? ⟨b, 0, none⟩ = some (.int .i64 n)
  c1 : w.cell? ⟨b, 1, none⟩ = some (.string t)
  c2 : w.cell? ⟨b, 2, none⟩ = some (.string v)
  c3 : w.cell? ⟨b, 3, none⟩ = some (.string c)
  k : w.cell? ⟨b, 4, none⟩ = some (.int .i64 k)
  t : ∀ j : Nat, j < 201 → w.cell? ⟨b, 5 + j, none⟩ = some (.int .i64 (T j))
  a : ∀ j : Nat, j < 201 → w.cell? ⟨b, 206 + j, none⟩ = some (.int .i64 (A j))
  f : ∀ j : Nat, j < 407 → w.frozen? ⟨b, j, none⟩ = false

theorem WaysAt.step {w w1 : World} {b : Nat} {n : Int} {t v c : ByteArray} {k : Int} {T A : Int → Int} (h : WaysAt w b n t v c k T A) (hb : Below w.heap.size w w1) : WaysAt w1 b n t v c k T A := by
  have e : ∀ j, w1.cell? ⟨b, j, none⟩ = w.cell? ⟨b, j, none⟩ := fun j => hb.cell (p := ⟨b, j, none⟩) h.lt
  exact ⟨Nat.lt_of_lt_of_le h.lt hb.size, by rw [e]; exact h.c0, by rw [e]; exact h.c1, by rw [e]; exact h.c2, by rw [e]; exact h.c3, by rw [e]; exact h.k, fun j hj => by rw [e]; exact h.t j hj, fun j hj => by rw [e]; exact h.a j hj, fun j hj => by rw [hb.frozen (p := ⟨b, j, none⟩) h.lt]; exact h.f j hj⟩

theorem cell_far (w : World) (b i j : Nat) (x : Value) (h : i ≠ j) : (w.setCell ⟨b, i, none⟩ x).cell? ⟨b, j, none⟩ = w.cell? ⟨b, j, none⟩ :=
  World.cell?_setCell_other w ⟨b, i, none⟩ ⟨b, j, none⟩ x (by intro k; exact h (congrArg Addr.off k))

theorem WaysAt.setK {w : World} {b : Nat} {n : Int} {t v c : ByteArray} {k : Int} {T A : Int → Int} (h : WaysAt w b n t v c k T A) (x : Int) : WaysAt (w.setCell ⟨b, 4, none⟩ (.int .i64 x)) b n t v c x T A := by
  refine ⟨by simpa using h.lt, ?_, ?_, ?_, ?_, World.cell?_setCell_same _ _ _ h.k, fun j hj => ?_, fun j hj => ?_, fun j hj => by rw [World.frozen?_setCell]; exact h.f j hj⟩
  · rw [cell_far _ _ _ _ _ (by omega)]; exact h.c0
  · rw [cell_far _ _ _ _ _ (by omega)]; exact h.c1
  · rw [cell_far _ _ _ _ _ (by omega)]; exact h.c2
  · rw [cell_far _ _ _ _ _ (by omega)]; exact h.c3
  · rw [cell_far _ _ _ _ _ (by omega)]; exact h.t j hj
  · rw [cell_far _ _ _ _ _ (by omega)]; exact h.a j hj

theorem WaysAt.setT {w : World} {b : Nat} {n : Int} {t v c : ByteArray} {k : Int} {T A : Int → Int} (h : WaysAt w b n t v c k T A) (p : Nat) (hp : p < 201) (x : Int) : WaysAt (w.setCell ⟨b, 5 + p, none⟩ (.int .i64 x)) b n t v c k (upd T p x) A := by
  refine ⟨by simpa using h.lt, ?_, ?_, ?_, ?_, ?_, fun j hj => ?_, fun j hj => ?_, fun j hj => by rw [World.frozen?_setCell]; exact h.f j hj⟩
  · rw [cell_far _ _ _ _ _ (by omega)]; exact h.c0
  · rw [cell_far _ _ _ _ _ (by omega)]; exact h.c1
  · rw [cell_far _ _ _ _ _ (by omega)]; exact h.c2
  · rw [cell_far _ _ _ _ _ (by omega)]; exact h.c3
  · rw [cell_far _ _ _ _ _ (by omega)]; exact h.k
  · by_cases e : j = p
    · subst e; rw [upd_at]; exact World.cell?_setCell_same _ _ _ (h.t j hj)
    · rw [cell_far _ _ _ _ _ (by omega), upd_ne (by omega)]; exact h.t j hj
  · rw [cell_far _ _ _ _ _ (by omega)]; exact h.a j hj

theorem WaysAt.setA {w : World} {b : Nat} {n : Int} {t v c : ByteArray} {k : Int} {T A : Int → Int} (h : WaysAt w b n t v c k T A) (p : Nat) (hp : p < 201) (x : Int) : WaysAt (w.setCell ⟨b, 206 + p, none⟩ (.int .i64 x)) b n t v c k T (upd A p x) := by
  refine ⟨by simpa using h.lt, ?_, ?_, ?_, ?_, ?_, fun j hj => ?_, fun j hj => ?_, fun j hj => by rw [World.frozen?_setCell]; exact h.f j hj⟩
  · rw [cell_far _ _ _ _ _ (by omega)]; exact h.c0
  · rw [cell_far _ _ _ _ _ (by omega)]; exact h.c1
  · rw [cell_far _ _ _ _ _ (by omega)]; exact h.c2
  · rw [cell_far _ _ _ _ _ (by omega)]; exact h.c3
  · rw [cell_far _ _ _ _ _ (by omega)]; exact h.k
  · rw [cell_far _ _ _ _ _ (by omega)]; exact h.t j hj
  · by_cases e : j = p
    · subst e; rw [upd_at]; exact World.cell?_setCell_same _ _ _ (h.a j hj)
    · rw [cell_far _ _ _ _ _ (by omega), upd_ne (by omega)]; exact h.a j hj

set_option maxHeartbeats 400000 in
theorem turn_any (b : Nat) (n : Int) (t v c : ByteArray) (k : Int) (T A : Int → Int) (p : Nat) (w : World) (H : WaysAt w b n t v c k T A) (hp : p < 201) :
    Calls Tryz.prog 149 #[.pointer (some ⟨b, 0, none⟩), .int .i64 p] w fun e w' => e = .returned (.int .i64 (T p)) ∧ w' = w := by
  have hc := H.t p hp
  have hp2 : (p : Int) < 201 := by omega
  clear H
  go_enter Tryz.func149, Tryz.ntmps149
  go_wp2
  go_ret
  exact ⟨rfl, rfl⟩

set_option maxHeartbeats 400000 in
theorem step_any (b : Nat) (n : Int) (t v c : ByteArray) (k : Int) (T A : Int → Int) (p : Nat) (w : World) (H : WaysAt w b n t v c k T A) (hp : p < 201) :
    Calls Tryz.prog 147 #[.pointer (some ⟨b, 0, none⟩), .int .i64 p] w fun e w' => e = .returned (.int .i64 (A p)) ∧ w' = w := by
  have hc := H.a p hp
  have hp2 : (p : Int) < 201 := by omega
  clear H
  go_enter Tryz.func147, Tryz.ntmps147
  go_wp2
  go_ret
  exact ⟨rfl, rfl⟩

set_option maxHeartbeats 400000 in
theorem move_any (b : Nat) (n x : Int) (t v c : ByteArray) (k : Int) (T A : Int → Int) (p : Nat) (w : World) (H : WaysAt w b n t v c k T A) (hp : p < 201) :
    Calls Tryz.prog 148 #[.pointer (some ⟨b, 0, none⟩), .int .i64 p, .int .i64 x] w fun e w' => e = .returned (.tuple #[]) ∧ w' = w.setCell ⟨b, 206 + p, none⟩ (.int .i64 x) := by
  have hc := H.a p hp
  have hf := H.f (206 + p) (by omega)
  have hp2 : (p : Int) < 201 := by omega
  clear H
  go_enter Tryz.func148, Tryz.ntmps148
  go_wp2
  first | go_end0 | refine bodyPost_ret (results_none rfl _ _ _) rfl ?_
  exact ⟨rfl, rfl⟩

set_option maxHeartbeats 400000 in
theorem ends_any (b : Nat) (n : Int) (t v c : ByteArray) (k : Int) (T A : Int → Int) (p : Nat) (w : World) (H : WaysAt w b n t v c k T A) (hp : p < 201) :
    Calls Tryz.prog 95 #[.pointer (some ⟨b, 0, none⟩), .int .i64 p] w fun e w' => e = .returned (.bool (decide (0 < T p))) ∧ w' = w := by
  go_enter Tryz.func95, Tryz.ntmps95
  go_wp2_with fail
  refine (turn_any b n t v c k T A p w H hp).mono ?_
  rintro e w1 ⟨rfl, rfl⟩
  go_wp2_with fail
  go_ret
  exact ⟨rfl, rfl⟩

set_option maxHeartbeats 400000 in
theorem junctionP_any (b : Nat) (n : Int) (t v c : ByteArray) (k : Int) (T A : Int → Int) (p : Nat) (w : World) (H : WaysAt w b n t v c k T A) (hp : p < 201) (hT : 0 < T p) :
    Calls Tryz.prog 100 #[.pointer (some ⟨b, 0, none⟩), .int .i64 p] w fun e w' => e = .returned (.int .i64 (A p)) ∧ w' = w := by
  have hd : decide (0 < T p) = true := decide_eq_true hT
  go_enter Tryz.func100, Tryz.ntmps100
  go_wp2_with fail
  refine (ends_any b n t v c k T A p w H hp).mono ?_
  rintro e w1 ⟨rfl, rfl⟩
  rw [hd]
  go_wp2_with fail
  refine (step_any b n t v c k T A p _ H hp).mono ?_
  rintro e w1 ⟨rfl, rfl⟩
  go_wp2_with fail
  go_ret
  exact ⟨rfl, rfl⟩

set_option maxHeartbeats 400000 in
theorem addw_old (b : Nat) (n x : Int) (t v c : ByteArray) (k : Int) (T A : Int → Int) (p : Nat) (w : World) (H : WaysAt w b n t v c k T A) (hp : p < 201) (hT : 0 < T p) :
    Calls Tryz.prog 91 #[.pointer (some ⟨b, 0, none⟩), .int .i64 p, .int .i64 x] w fun e w' => e = .returned (.bool false) ∧ w' = w := by
  have hc := H.t p hp
  have hp2 : (p : Int) < 201 := by omega
  clear H
  go_enter Tryz.func91, Tryz.ntmps91
  go_wp2
  go_ret
  exact ⟨rfl, rfl⟩

set_option maxHeartbeats 1600000 in
theorem addw_new (b : Nat) (n x : Int) (t v c : ByteArray) (k : Int) (T A : Int → Int) (p : Nat) (w : World) (H : WaysAt w b n t v c k T A) (hp : p < 201) (hT : T p = 0) (hk0 : 0 ≤ k) (hk : k ≤ 1000) :
    Calls Tryz.prog 91 #[.pointer (some ⟨b, 0, none⟩), .int .i64 p, .int .i64 x] w fun e w' => e = .returned (.bool true) ∧ WaysAt w' b n t v c (k + 1) (upd T p (k + 1)) (upd A p x) ∧ But b w.heap.size w w' := by
  have hc := H.t p hp
  rw [hT] at hc
  have hk4 := H.k
  have hf4 := H.f 4 (by omega)
  have hp2 : (p : Int) < 201 := by omega
  have hK : Kp (WaysAt w b n t v c k T A) := ⟨H⟩
  clear H
  go_enter Tryz.func91, Tryz.ntmps91
  go_wp2
  obtain ⟨w1, hw1⟩ : ∃ w1, w1 = w.setCell ⟨b, 4, none⟩ (.int .i64 (k + 1)) := ⟨_, rfl⟩
  rw [← hw1]
  have H1 : WaysAt w1 b n t v c (k + 1) T A := by rw [hw1]; exact hK.out.setK _
  have hB1 : But b w.heap.size w w1 := by rw [hw1]; exact (But.refl _ _ _).setCell _ _
  have r4 := H1.k
  have rp := H1.t p hp
  have rf := H1.f (5 + p) (by omega)
  replace H1 : Kp _ := ⟨H1⟩
  clear hw1 hc hk4 hf4
  go_region
  obtain ⟨w2, hw2⟩ : ∃ w2, w2 = (w1.setCell ⟨b, 5 + p, none⟩ (.int .i64 (k + 1))).drew := ⟨_, rfl⟩
  rw [← hw2]
  have H2 : WaysAt w2 b n t v c (k + 1) (upd T p (k + 1)) A := by rw [hw2]; exact (H1.out.setT p hp (k + 1)).step ((Below.refl _ _).drew)
  have hB2 : But b w.heap.size w w2 := by rw [hw2]; exact hB1.trans (((But.refl _ _ _).setCell _ _).trans (But.of ((Below.refl _ _).drew)))
  have rp := H2.a p hp
  have rf := H2.f (206 + p) (by omega)
  replace H2 : Kp _ := ⟨H2⟩
  clear hw2 r4 hB1 H1 hK
  go_wp2
  go_ret
  exact ⟨rfl, H2.out.setA p hp x, hB2.setCell _ _⟩
end Go.Proofs.YtcnbifdlkalimaaGreat

/-
  The walks of the package paths: where two ways meet; for every file whose ways are found.
-/
namespace Go.Proofs.YtcnbifdlkalimaaGreat
open Go.RowKit
set_option linter.unusedVariables false
set_option maxRecDepth 100000

/-- what meeting answers at place p -/
structure MeetR (c : ByteArray) (T A : Int → Int) (p m : Int) (ok : Bool) : Prop where
  yes : ok = true → MeetAt c T A p m
  no : ok = false → ∃ q, q ∈ nxt c p ∧ T q = 0

/-- what is kept while two ways are gone along -/
structure MeetS (c : ByteArray) (T A : Int → Int) (q1 q2 x y : Int) : Prop where
  x0 : 0 ≤ x
  x1 : x ≤ half c
  y0 : 0 ≤ y
  y1 : y ≤ half c
  wx : OnWay c A q1 x
  wy : OnWay c A q2 y
  px : x = q1 ∨ (0 < T q1 ∧ 0 < T x)
  py : y = q2 ∨ (0 < T q2 ∧ 0 < T y)
  com : ∀ d, OnWay c A q1 d → OnWay c A q2 d → OnWay c A x d ∧ OnWay c A y d

theorem MeetS.left {c : ByteArray} {T A : Int → Int} {q1 q2 x y : Int} (H : WOk c T A) (S : MeetS c T A q1 q2 x y) (hx : T x ≠ 0) (hy : T y ≠ 0) (hlt : T y < T x) : MeetS c T A q1 q2 (A x) y ∧ T (A x) < T x ∧ 0 ≤ T (A x) := by
  have nx := H.nn x
  have ny := H.nn y
  have hK : x ≠ half c := fun e => by rw [e, H.fin] at hlt; omega
  have hd := H.down x (by omega) hK
  have hp := H.pos _ hd.1
  refine ⟨⟨hp.1, hp.2, S.y0, S.y1, S.wx.snoc hK, S.wy, .inr ⟨?_, hd.1⟩, S.py, fun d h1 h2 => ?_⟩, hd.2, by omega⟩
  · rcases S.px with h | h
    · rw [← h]; omega
    · exact h.1
  · have hc := S.com d h1 h2
    refine ⟨?_, hc.2⟩
    rcases hc.1.cases with h | ⟨_, h⟩
    · have := way_le H (by omega) hc.2
      rw [h] at this
      omega
    · exact h

theorem MeetS.right {c : ByteArray} {T A : Int → Int} {q1 q2 x y : Int} (H : WOk c T A) (S : MeetS c T A q1 q2 x y) (hx : T x ≠ 0) (hy : T y ≠ 0) (hne : x ≠ y) (hlt : ¬ T y < T x) : MeetS c T A q1 q2 x (A y) ∧ T (A y) < T y ∧ 0 ≤ T (A y) := by
  have nx := H.nn x
  have ny := H.nn y
  have hl : T x < T y := by
    rcases Int.lt_or_eq_of_le (by omega : T x ≤ T y) with h | h
    · exact h
    · exact absurd (H.inj x y (by omega) h) hne
  have hK : y ≠ half c := fun e => by rw [e, H.fin] at hl; omega
  have hd := H.down y (by omega) hK
  have hp := H.pos _ hd.1
  refine ⟨⟨S.x0, S.x1, hp.1, hp.2, S.wx, S.wy.snoc hK, S.px, .inr ⟨?_, hd.1⟩, fun d h1 h2 => ?_⟩, hd.2, by omega⟩
  · rcases S.py with h | h
    · rw [← h]; omega
    · exact h.1
  · have hc := S.com d h1 h2
    refine ⟨hc.1, ?_⟩
    rcases hc.2.cases with h | ⟨_, h⟩
    · have := way_le H (by omega) hc.1
      rw [h] at this
      omega
    · exact h

theorem MeetS.none {c : ByteArray} {T A : Int → Int} {p x y : Int} (h0 : 0 ≤ p) (h1 : p < half c) (S : MeetS c T A (nx1 c p) (nx2 c p) x y) (h : T x = 0 ∨ T y = 0) : MeetR c T A p 0 false := by
  refine ⟨fun h => absurd h (by simp), fun _ => ?_⟩
  rcases h with h | h
  · rcases S.px with k | k
    · exact ⟨nx1 c p, (mem_nxt h1).2 (.inl rfl), by rw [← k]; exact h⟩
    · omega
  · rcases S.py with k | k
    · exact ⟨nx2 c p, (mem_nxt h1).2 (.inr rfl), by rw [← k]; exact h⟩
    · omega

theorem MeetS.met {c : ByteArray} {T A : Int → Int} {p x : Int} (H : WOk c T A) (h0 : 0 ≤ p) (h1 : p < half c) (S : MeetS c T A (nx1 c p) (nx2 c p) x x) : MeetR c T A p x (decide (0 < T x)) := by
  have nx := H.nn x
  refine ⟨fun h => ?_, fun h => ?_⟩
  · have hx := of_decide_eq_true h
    refine ⟨fun q hq => ?_, fun d hd => ?_⟩
    · rcases (mem_nxt h1).1 hq with e | e
      · rw [e]
        refine ⟨?_, S.wx⟩
        rcases S.px with k | k
        · rw [← k]; exact hx
        · exact k.1
      · rw [e]
        refine ⟨?_, S.wy⟩
        rcases S.py with k | k
        · rw [← k]; exact hx
        · exact k.1
    · exact (S.com d (hd _ ((mem_nxt h1).2 (.inl rfl))) (hd _ ((mem_nxt h1).2 (.inr rfl)))).1
  · have hx := of_decide_eq_false h
    have h3 := S.none h0 h1 (.inl (by omega))
    exact h3.no rfl

set_option maxHeartbeats 1600000 in
theorem meeting_any (b p : Nat) (n k : Int) (t v c : ByteArray) (T A : Int → Int) (w : World) (hc : c.size ≤ maxLen) (hK : half c ≤ 200) (hr : Kp (Ranged c)) (H : WaysAt w b n t v c k T A) (hW : Kp (WOk c T A)) (hp : (p : Int) < half c) :
    Calls Tryz.prog 146 #[.pointer (some ⟨b, 0, none⟩), .int .i64 p] w fun e w' =>
      ∃ (m : Int) (ok : Bool), e = .returned (.tuple #[.int .i64 m, .bool ok]) ∧ Kp (MeetR c T A p m ok) ∧ Below w.heap.size w w' := by
  obtain ⟨⟨n1, n2⟩, n3, n4⟩ := nx_in hr.out (k := p) (by omega) (by omega)
  have hS : Kp (MeetS c T A (nx1 c p) (nx2 c p) (nx1 c p) (nx2 c p)) := ⟨⟨n1, n2, n3, n4, OnWay.refl _ _ _, OnWay.refl _ _ _, .inl rfl, .inl rfl, fun d h1 h2 => ⟨h1, h2⟩⟩⟩
  have q0 := H.c0
  have q1 := H.c1
  have q2 := H.c2
  have q3 := H.c3
  go_enter Tryz.func146, Tryz.ntmps146
  go_wp2_with fail
  refine (behind_any n p t v c _ hc hK (by omega) (by omega)).mono ?_
  rintro e w1 ⟨rfl, hb1⟩
  have H1 := H.step hb1
  clear q0 q1 q2 q3 H
  go_wp2_with fail
  go_loop [6, 7] (fun x y => ∃ (x1 y1 : Nat), x = .int .i64 x1 ∧ y = .int .i64 y1 ∧ Kp (MeetS c T A (nx1 c p) (nx2 c p) x1 y1)) (fun x y => (T (intOf x) + T (intOf y)).toNat)
  case atStart => exact ⟨(nx1 c p).toNat, (nx2 c p).toNat, by rw [Int.toNat_of_nonneg n1], by rw [Int.toNat_of_nonneg n3], ⟨by rw [Int.toNat_of_nonneg n1, Int.toNat_of_nonneg n3]; exact hS.out⟩⟩
  case round =>
    clear hS n1 n2 n3 n4
    obtain ⟨x, y, rfl, rfl, hS⟩ := hrel
    have x1 := hS.out.x1
    have y1 := hS.out.y1
    by_cases hxy : x = y
    · subst hxy
      have hR : Kp (MeetR c T A p x (decide (0 < T x))) := ⟨hS.out.met hW.out (by omega) hp⟩
      go_wp2_with fail
      refine (ends_any b n t v c k T A x _ H1 (by omega)).mono ?_
      rintro e w2 ⟨rfl, rfl⟩
      go_wp2_with fail
      go_ret2
      exact ⟨x, _, rfl, hR, hb1⟩
    · have hne : ((x : Int) != (y : Int)) = true := by simp; omega
      have hne' : (x : Int) ≠ (y : Int) := by omega
      replace hne' : Kp _ := ⟨hne'⟩
      clear hxy
      go_wp2_with fail
      refine (turn_any b n t v c k T A x _ H1 (by omega)).mono ?_
      rintro e w2 ⟨rfl, rfl⟩
      go_wp2_with fail
      refine (turn_any b n t v c k T A y _ H1 (by omega)).mono ?_
      rintro e w2 ⟨rfl, rfl⟩
      have nx := hW.out.nn x
      have ny := hW.out.nn y
      obtain ⟨tx, htx⟩ : ∃ tx, T x = tx := ⟨_, rfl⟩
      obtain ⟨ty, hty⟩ : ∃ ty, T y = ty := ⟨_, rfl⟩
      rw [htx, hty]
      rw [htx] at nx
      rw [hty] at ny
      by_cases h0 : tx = 0
      · have hR : Kp (MeetR c T A p 0 false) := ⟨hS.out.none (by omega) hp (.inl (by rw [htx]; exact h0))⟩
        replace htx : Kp _ := ⟨htx⟩
        replace hty : Kp _ := ⟨hty⟩
        subst h0
        go_wp2_with fail
        go_ret2
        exact ⟨0, false, rfl, hR, hb1⟩
      · have h1 : (tx == 0) = false := beq_eq_false_iff_ne.2 h0
        by_cases h02 : ty = 0
        · have hR : Kp (MeetR c T A p 0 false) := ⟨hS.out.none (by omega) hp (.inr (by rw [hty]; exact h02))⟩
          replace htx : Kp _ := ⟨htx⟩
          replace hty : Kp _ := ⟨hty⟩
          subst h02
          go_wp2_with fail
          go_ret2
          exact ⟨0, false, rfl, hR, hb1⟩
        · have h2 : (ty == 0) = false := beq_eq_false_iff_ne.2 h02
          by_cases hlt : ty < tx
          · obtain ⟨hS2, hdn, hnn⟩ := hS.out.left hW.out (by rw [htx]; omega) (by rw [hty]; omega) (by rw [htx, hty]; exact hlt)
            have hax := hS2.x0
            replace hS2 : Kp _ := ⟨hS2⟩
            replace hdn : Kp _ := ⟨hdn⟩
            replace hnn : Kp _ := ⟨hnn⟩
            replace htx : Kp _ := ⟨htx⟩
            replace hty : Kp _ := ⟨hty⟩
            go_wp2_with fail
            refine (step_any b n t v c k T A x _ H1 (by omega)).mono ?_
            rintro e w2 ⟨rfl, rfl⟩
            go_wp2_with fail
            refine ⟨⟨(A x).toNat, y, by rw [Int.toNat_of_nonneg hax], rfl, ⟨by rw [Int.toNat_of_nonneg hax]; exact hS2.out⟩⟩, ?_⟩
            have h3 := hdn.out
            have h4 := hnn.out
            have h5 := htx.out
            have h6 := hty.out
            simp only [intOf]
            omega
          · obtain ⟨hS2, hdn, hnn⟩ := hS.out.right hW.out (by rw [htx]; omega) (by rw [hty]; omega) hne'.out (by rw [htx, hty]; exact hlt)
            have hax := hS2.y0
            replace hS2 : Kp _ := ⟨hS2⟩
            replace hdn : Kp _ := ⟨hdn⟩
            replace hnn : Kp _ := ⟨hnn⟩
            replace htx : Kp _ := ⟨htx⟩
            replace hty : Kp _ := ⟨hty⟩
            go_wp2_with fail
            refine (step_any b n t v c k T A y _ H1 (by omega)).mono ?_
            rintro e w2 ⟨rfl, rfl⟩
            go_wp2_with fail
            refine ⟨⟨x, (A y).toNat, rfl, by rw [Int.toNat_of_nonneg hax], ⟨by rw [Int.toNat_of_nonneg hax]; exact hS2.out⟩⟩, ?_⟩
            have h3 := hdn.out
            have h4 := hnn.out
            have h5 := htx.out
            have h6 := hty.out
            simp only [intOf]
            omega
end Go.Proofs.YtcnbifdlkalimaaGreat

/-
  The walks of the package paths: ways found and narrowed, round by round; for every file whose places are places.
-/
namespace Go.Proofs.YtcnbifdlkalimaaGreat
open Go.RowKit
set_option linter.unusedVariables false
set_option maxRecDepth 100000

/-- how many of the first k places have no way yet -/
def cntW (T : Int → Int) (k : Nat) : Nat := cntF (fun j => decide (0 < T j)) k

/-- what one round of growing leaves: from k0, T0 to k1, T1; g: something was found; done from place q on -/
structure GrowS (c : ByteArray) (T0 T A : Int → Int) (k : Int) (g : Bool) (q : Int) : Prop where
  ok : GOk c T A k
  bd : k + cntW T 201 ≤ 201
  no : g = false → T = T0 ∧ ∀ x s, q ≤ x → x < half c → s ∈ nxt c x → 0 < T s → 0 < T x
  yes : g = true → cntW T 201 < cntW T0 201
  le : cntW T 201 ≤ cntW T0 201

theorem cntW_upd {T : Int → Int} {p : Nat} {x : Int} (hp : p < 201) (h : T p = 0) (hx : 0 < x) : cntW (upd T p x) 201 + 1 = cntW T 201 := by
  have h2 := cntF_set (m := fun j => decide (0 < T j)) (k := 201) (j := p) hp (by simp; omega)
  unfold cntW
  rw [← h2]
  congr 1
  refine cntF_same (fun i _ => ?_)
  by_cases e : i = p
  · subst e; rw [upd_at]; simp [hx]
  · rw [upd_ne (by omega)]; simp [e]

theorem GrowS.skip {c : ByteArray} {T0 T A : Int → Int} {k : Int} {g : Bool} {p : Int} (h : GrowS c T0 T A k g (p + 1)) (hs : ∀ s, s ∈ nxt c p → 0 < T s → 0 < T p) : GrowS c T0 T A k g p :=
  ⟨h.ok, h.bd, fun hg => ⟨(h.no hg).1, fun x s h1 h2 h3 h4 => by
    by_cases e : x = p
    · subst e; exact hs s h3 h4
    · exact (h.no hg).2 x s (by omega) h2 h3 h4⟩, h.yes, h.le⟩

theorem GrowS.add {c : ByteArray} {T0 T A : Int → Int} {k : Int} {g : Bool} {p : Nat} {s : Int} (h : GrowS c T0 T A k g ((p : Int) + 1)) (hp : (p : Int) < half c) (hK : half c ≤ 200) (hT : T p = 0) (hs : s ∈ nxt c p) (hs0 : 0 < T s) : GrowS c T0 (upd T p (k + 1)) (upd A p s) (k + 1) true p := by
  have h1 : 1 ≤ k := by have := h.ok.top (half c); rw [h.ok.fin] at this; exact this
  have hc := cntW_upd (T := T) (p := p) (x := k + 1) (by omega) hT (by omega)
  have hb := h.bd
  have hl := h.le
  exact ⟨grow_add h.ok (by omega) hp hT hs hs0, by omega, fun h => absurd h (by simp), fun _ => by omega, by omega⟩

set_option maxHeartbeats 1600000 in
theorem grow_any (b : Nat) (n k0 : Int) (t v c : ByteArray) (T0 A0 : Int → Int) (w : World) (hc : c.size ≤ maxLen) (hK : half c ≤ 200) (hr : Kp (Ranged c)) (H : WaysAt w b n t v c k0 T0 A0) (hG : Kp (GOk c T0 A0 k0)) (hbd : Kp (k0 + cntW T0 201 ≤ 201)) :
    Calls Tryz.prog 92 #[.pointer (some ⟨b, 0, none⟩)] w fun e w' =>
      ∃ (g : Bool) (k : Int) (T A : Int → Int), e = .returned (.bool g) ∧ WaysAt w' b n t v c k T A ∧ Kp (GrowS c T0 T A k g 0) ∧ But b w.heap.size w w' := by
  have hh := (half_bd c).1
  have q0 := H.c0
  have q1 := H.c1
  have q2 := H.c2
  have q3 := H.c3
  go_enter Tryz.func92, Tryz.ntmps92
  go_wp2_with fail
  refine (length_any n t v c _ hc).mono ?_
  rintro e w1 ⟨rfl, hb1⟩
  have H1 := H.step hb1
  have hlt := H.lt
  have hG1 : Kp (GrowS c T0 T0 A0 k0 false (half c)) := ⟨⟨hG.out, hbd.out, fun _ => ⟨rfl, fun x s h1 h2 => absurd h2 (by omega)⟩, fun h => absurd h (by simp), Nat.le_refl _⟩⟩
  have hB1 : But b w.heap.size w w1 := But.of hb1
  clear q0 q1 q2 q3 H hG hbd hb1
  go_wp2_with fail
  go_loopw [3, 4] (fun g i wr => ∃ (gb : Bool) (p : Nat) (k : Int) (T A : Int → Int), g = .bool gb ∧ (p : Int) ≤ half c ∧ i = .int .i64 ((p : Int) - 1) ∧ WaysAt wr b n t v c k T A ∧ Kp (GrowS c T0 T A k gb p) ∧ But b w.heap.size w wr) (fun _ i _ => (intOf i + 1).toNat)
  case atStart => exact ⟨false, (half c).toNat, k0, T0, A0, rfl, by omega, by rw [Int.toNat_of_nonneg hh], H1, ⟨by rw [Int.toNat_of_nonneg hh]; exact hG1.out⟩, hB1⟩
  case round =>
    clear H1 hG1 hB1
    obtain ⟨gb, p, k, T, A, rfl, hp, rfl, H, hS, hB⟩ := hrel
    cases p with
    | zero =>
      go_wp2_with fail
      go_ret
      exact ⟨gb, k, T, A, rfl, H, hS, hB⟩
    | succ p =>
      rw [show (((p + 1 : Nat) : Int) - 1) = (p : Int) from by omega]
      have hp2 : (p : Int) < half c := by omega
      replace hS : Kp (GrowS c T0 T A k gb ((p : Int) + 1)) := ⟨by have := hS.out; rwa [show ((p + 1 : Nat) : Int) = (p : Int) + 1 from by omega] at this⟩
      clear hp
      obtain ⟨⟨n1, n2⟩, n3, n4⟩ := nx_in hr.out (k := p) (by omega) (by omega)
      obtain ⟨a1, e1⟩ : ∃ a1 : Nat, nx1 c p = a1 := ⟨(nx1 c p).toNat, by omega⟩
      obtain ⟨a2, e2⟩ : ∃ a2 : Nat, nx2 c p = a2 := ⟨(nx2 c p).toNat, by omega⟩
      have m1 : Kp ((a1 : Int) ∈ nxt c p) := ⟨(mem_nxt hp2).2 (.inl e1.symm)⟩
      have m2 : Kp ((a2 : Int) ∈ nxt c p) := ⟨(mem_nxt hp2).2 (.inr e2.symm)⟩
      have m3 : Kp (∀ x, x ∈ nxt c p → x = a1 ∨ x = a2) := ⟨fun x hx => by have := (mem_nxt hp2).1 hx; rwa [e1, e2] at this⟩
      rw [e1] at n1 n2
      rw [e2] at n3 n4
      have q0 := H.c0
      have q1 := H.c1
      have q2 := H.c2
      have q3 := H.c3
      go_wp2_with fail
      refine (behind_any n p t v c _ hc hK (by omega) (by omega)).mono ?_
      rintro e w2 ⟨rfl, hb2⟩
      have H2 := H.step hb2
      have hB2 := hB.trans (But.of (hb2.mono hB.size))
      clear q0 q1 q2 q3 H hB hb2
      rw [e1, e2]
      clear e1 e2
      go_wp2_with fail
      refine (ends_any b n t v c k T A a1 _ H2 (by omega)).mono ?_
      rintro e w3 ⟨rfl, rfl⟩
      by_cases hT1 : 0 < T a1
      · rw [decide_eq_true hT1]
        have hmem := m1
        have hpos : Kp (0 < T a1) := ⟨hT1⟩
        go_wp2_with fail
        refine (ends_any b n t v c k T A a1 _ H2 (by omega)).mono ?_
        rintro e w3 ⟨rfl, rfl⟩
        rw [decide_eq_true hT1]
        clear hT1
        by_cases hTp : 0 < T p
        · have hS2 : Kp (GrowS c T0 T A k gb p) := ⟨hS.out.skip (fun _ _ _ => hTp)⟩
          go_wp2_with fail
          refine (addw_old b n a1 t v c k T A p _ H2 (by omega) hTp).mono ?_
          rintro e w3 ⟨rfl, rfl⟩
          go_wp2_with fail
          go_roundw
          case rel => exact ⟨gb, p, k, T, A, rfl, by omega, rfl, H2, hS2, hB2⟩
          case measure => simp [intOf]
        · have hT0 : T p = 0 := by have := hS.out.ok.nn p; omega
          have hk1 := hS.out.ok.top (half c)
          rw [hS.out.ok.fin] at hk1
          have hk2 := hS.out.bd
          have hS2 : Kp (GrowS c T0 (upd T p (k + 1)) (upd A p a1) (k + 1) true p) := ⟨hS.out.add hp2 hK hT0 hmem.out hpos.out⟩
          go_wp2_with fail
          refine (addw_new b n a1 t v c k T A p _ H2 (by omega) hT0 (by omega) (by omega)).mono ?_
          rintro e w3 ⟨rfl, H3, hb3⟩
          have hB3 := hB2.trans (hb3.mono hB2.size)
          clear H2 hB2 hb3
          go_wp2_with fail
          go_roundw
          case rel => exact ⟨true, p, k + 1, _, _, rfl, by omega, rfl, H3, hS2, hB3⟩
          case measure => simp [intOf]
      · rw [decide_eq_false hT1]
        go_wp2_with fail
        refine (ends_any b n t v c k T A a2 _ H2 (by omega)).mono ?_
        rintro e w3 ⟨rfl, rfl⟩
        by_cases hT2 : 0 < T a2
        · rw [decide_eq_true hT2]
          have hmem := m2
          have hpos : Kp (0 < T a2) := ⟨hT2⟩
          clear hT1 hT2
          by_cases hTp : 0 < T p
          · have hS2 : Kp (GrowS c T0 T A k gb p) := ⟨hS.out.skip (fun _ _ _ => hTp)⟩
            go_wp2_with fail
            refine (addw_old b n a2 t v c k T A p _ H2 (by omega) hTp).mono ?_
            rintro e w3 ⟨rfl, rfl⟩
            go_wp2_with fail
            go_roundw
            case rel => exact ⟨gb, p, k, T, A, rfl, by omega, rfl, H2, hS2, hB2⟩
            case measure => simp [intOf]
          · have hT0 : T p = 0 := by have := hS.out.ok.nn p; omega
            have hk1 := hS.out.ok.top (half c)
            rw [hS.out.ok.fin] at hk1
            have hk2 := hS.out.bd
            have hS2 : Kp (GrowS c T0 (upd T p (k + 1)) (upd A p a2) (k + 1) true p) := ⟨hS.out.add hp2 hK hT0 hmem.out hpos.out⟩
            go_wp2_with fail
            refine (addw_new b n a2 t v c k T A p _ H2 (by omega) hT0 (by omega) (by omega)).mono ?_
            rintro e w3 ⟨rfl, H3, hb3⟩
            have hB3 := hB2.trans (hb3.mono hB2.size)
            clear H2 hB2 hb3
            go_wp2_with fail
            go_roundw
            case rel => exact ⟨true, p, k + 1, _, _, rfl, by omega, rfl, H3, hS2, hB3⟩
            case measure => simp [intOf]
        · rw [decide_eq_false hT2]
          have hS2 : Kp (GrowS c T0 T A k gb p) := ⟨hS.out.skip (fun s hs h => by rcases m3.out s hs with e | e <;> (rw [e] at h; omega))⟩
          go_wp2_with fail
          go_roundw
          case rel => exact ⟨gb, p, k, T, A, rfl, by omega, rfl, H2, hS2, hB2⟩
          case measure => simp [intOf]
end Go.Proofs.YtcnbifdlkalimaaGreat

/-
  The walks of the package paths: ways narrowed, round by round, until none turns; for every file whose places are places.
-/
namespace Go.Proofs.YtcnbifdlkalimaaGreat
open Go.RowKit
set_option linter.unusedVariables false
set_option maxRecDepth 100000

/-- what one round of narrowing leaves: g: some way was turned; done from place q on -/
structure NarS (c : ByteArray) (T A0 A : Int → Int) (U : Int → Int → Bool) (g : Bool) (q : Int) : Prop where
  ok : WOk c T A
  pass : Pass c T A U q
  no : g = false → A = A0 ∧ ∀ x, q ≤ x → 0 ≤ x → x < half c → (∀ s, s ∈ nxt c x → 0 < T s) → MeetAt c T A0 x (A0 x)
  yes : g = true → meas c (stepU c T U) < meas c U

theorem NarS.move {c : ByteArray} {T A0 A : Int → Int} {U : Int → Int → Bool} {g : Bool} {p m : Int} (hU : UOk c T U) (h : NarS c T A0 A U g (p + 1)) (h0 : 0 ≤ p) (h1 : p < half c) (M : MeetAt c T A p m) (hne : m ≠ A p) : NarS c T A0 (upd A p m) U true p :=
  ⟨ways_move h.ok h0 h1 M, pass_move h.ok hU h0 h1 M h.pass, fun h => absurd h (by simp), fun _ => meas_falls h.ok hU h.pass.sub h0 h1 M hne⟩

theorem NarS.same {c : ByteArray} {T A0 A : Int → Int} {U : Int → Int → Bool} {g : Bool} {p : Int} (hU : UOk c T U) (h : NarS c T A0 A U g (p + 1)) (h0 : 0 ≤ p) (h1 : p < half c) (M : MeetAt c T A p (A p)) : NarS c T A0 A U g p := by
  have hp := pass_move h.ok hU h0 h1 M h.pass
  rw [upd_same rfl] at hp
  refine ⟨h.ok, hp, fun hg => ⟨(h.no hg).1, fun x h2 h3 h4 h5 => ?_⟩, h.yes⟩
  by_cases e : x = p
  · subst e; rw [← (h.no hg).1]; exact M
  · exact (h.no hg).2 x (by omega) h3 h4 h5

theorem NarS.keep {c : ByteArray} {T A0 A : Int → Int} {U : Int → Int → Bool} {g : Bool} {p : Int} (hU : UOk c T U) (h : NarS c T A0 A U g (p + 1)) (hk : ∃ q, q ∈ nxt c p ∧ T q = 0) : NarS c T A0 A U g p := by
  obtain ⟨q, hq, hq0⟩ := hk
  refine ⟨h.ok, pass_keep h.ok hU hq hq0 h.pass, fun hg => ⟨(h.no hg).1, fun x h2 h3 h4 h5 => ?_⟩, h.yes⟩
  by_cases e : x = p
  · subst e; have := h5 q hq; omega
  · exact (h.no hg).2 x (by omega) h3 h4 h5

set_option maxHeartbeats 1600000 in
theorem narrow_any (b : Nat) (n k : Int) (t v c : ByteArray) (T A0 : Int → Int) (U : Int → Int → Bool) (w : World) (hc : c.size ≤ maxLen) (hK : half c ≤ 200) (hr : Kp (Ranged c)) (H : WaysAt w b n t v c k T A0) (hW : Kp (WOk c T A0)) (hU : Kp (UOk c T U)) (hs : Kp (∀ x d, 0 < T x → OnWay c A0 x d → U x d = true)) :
    Calls Tryz.prog 93 #[.pointer (some ⟨b, 0, none⟩)] w fun e w' =>
      ∃ (g : Bool) (A : Int → Int), e = .returned (.bool g) ∧ WaysAt w' b n t v c k T A ∧ Kp (NarS c T A0 A U g 0) ∧ But b w.heap.size w w' := by
  have hh := (half_bd c).1
  have q0 := H.c0
  have q1 := H.c1
  have q2 := H.c2
  have q3 := H.c3
  go_enter Tryz.func93, Tryz.ntmps93
  go_wp2_with fail
  refine (length_any n t v c _ hc).mono ?_
  rintro e w1 ⟨rfl, hb1⟩
  have H1 := H.step hb1
  have hS1 : Kp (NarS c T A0 A0 U false (half c)) := ⟨⟨hW.out, pass_begin hW.out hs.out, fun _ => ⟨rfl, fun x h1 h2 h3 => absurd h3 (by omega)⟩, fun h => absurd h (by simp)⟩⟩
  have hB1 : But b w.heap.size w w1 := But.of hb1
  clear q0 q1 q2 q3 H hW hs hb1
  go_wp2_with fail
  go_loopw [3, 4] (fun g i wr => ∃ (gb : Bool) (p : Nat) (A : Int → Int), g = .bool gb ∧ (p : Int) ≤ half c ∧ i = .int .i64 ((p : Int) - 1) ∧ WaysAt wr b n t v c k T A ∧ Kp (NarS c T A0 A U gb p) ∧ But b w.heap.size w wr) (fun _ i _ => (intOf i + 1).toNat)
  case atStart => exact ⟨false, (half c).toNat, A0, rfl, by omega, by rw [Int.toNat_of_nonneg hh], H1, ⟨by rw [Int.toNat_of_nonneg hh]; exact hS1.out⟩, hB1⟩
  case round =>
    clear H1 hS1 hB1
    obtain ⟨gb, p, A, rfl, hp, rfl, H, hS, hB⟩ := hrel
    cases p with
    | zero =>
      go_wp2_with fail
      go_ret
      exact ⟨gb, A, rfl, H, hS, hB⟩
    | succ p =>
      rw [show (((p + 1 : Nat) : Int) - 1) = (p : Int) from by omega]
      have hp2 : (p : Int) < half c := by omega
      replace hS : Kp (NarS c T A0 A U gb ((p : Int) + 1)) := ⟨by have := hS.out; rwa [show ((p + 1 : Nat) : Int) = (p : Int) + 1 from by omega] at this⟩
      clear hp
      go_wp2_with fail
      refine (meeting_any b p n k t v c T A _ hc hK hr H ⟨hS.out.ok⟩ hp2).mono ?_
      rintro e w2 ⟨m, ok, rfl, hM, hb2⟩
      have H2 := H.step hb2
      have hB2 := hB.trans (But.of (hb2.mono hB.size))
      clear H hB hb2
      cases ok
      · have hS2 : Kp (NarS c T A0 A U gb p) := ⟨hS.out.keep hU.out (hM.out.no rfl)⟩
        go_wp2_with fail
        go_roundw
        case rel => exact ⟨gb, p, A, rfl, by omega, rfl, H2, hS2, hB2⟩
        case measure => simp [intOf]
      · have hMM : Kp (MeetAt c T A p m) := ⟨hM.out.yes rfl⟩
        by_cases hm : m = A p
        · subst hm
          have hS2 : Kp (NarS c T A0 A U gb p) := ⟨hS.out.same hU.out (by omega) hp2 hMM.out⟩
          go_wp2_with fail
          refine (step_any b n t v c k T A p _ H2 (by omega)).mono ?_
          rintro e w3 ⟨rfl, rfl⟩
          go_wp2_with fail
          go_roundw
          case rel => exact ⟨gb, p, A, rfl, by omega, rfl, H2, hS2, hB2⟩
          case measure => simp [intOf]
        · have hS2 : Kp (NarS c T A0 (upd A p m) U true p) := ⟨hS.out.move hU.out (by omega) hp2 hMM.out hm⟩
          have hne : (m != A p) = true := by simpa using hm
          go_wp2_with fail
          refine (step_any b n t v c k T A p _ H2 (by omega)).mono ?_
          rintro e w3 ⟨rfl, rfl⟩
          go_wp2_with fail
          refine (move_any b n m t v c k T A p _ H2 (by omega)).mono ?_
          rintro e w3 ⟨rfl, hw3⟩
          have H3 : WaysAt w3 b n t v c k T (upd A p m) := by rw [hw3]; exact H2.setA p (by omega) m
          have hB3 : But b w.heap.size w w3 := by rw [hw3]; exact hB2.setCell _ _
          clear hw3 H2 hB2
          go_wp2_with fail
          go_roundw
          case rel => exact ⟨true, p, _, rfl, by omega, rfl, H3, hS2, hB3⟩
          case measure => simp [intOf]
end Go.Proofs.YtcnbifdlkalimaaGreat
