import Derived.Test.YtcnbifdlkalimabGreatSrcC
import Derived.Test.YtcnbifdlkalimabGreatLatB
import Derived.Test.YtcnbifdlkalimabGreatTrnE

/-
  The walks of the package lattice: the bottom; for every table.
-/
namespace Go.Proofs.YtcnbifdlkalimabGreat
open Go.RowKit
set_option linter.unusedVariables false
set_option maxRecDepth 100000

set_option maxHeartbeats 400000 in
theorem belowAll_any {s : ByteArray} {n : Int} (ht : Tab s n) (a : Int) (w : World) (ha : 0 ≤ a) (ha' : a < n) :
    Calls Tryz.prog 169 #[.agg #[.int .i64 n, .string s], .int .i64 a] w fun e w' => e = .returned (.bool (pBot s n a)) ∧ Below w.heap.size w w' := by
  obtain ⟨t1, t2, -⟩ := id ht
  go_enter Tryz.func169, Tryz.ntmps169
  go_wp2
  go_loopw [5] (fun c wr => ∃ k : Nat, (k : Int) ≤ n ∧ c = .int .i64 k ∧ Kp (∀ i : Nat, i < k → le s n a i = true) ∧ Box2 w wr (.int .i64 n) (.string s)) (fun c _ => n.toNat - (intOf c).toNat)
  case atStart => exact ⟨0, by omega, rfl, ⟨fun i hi => absurd hi (by omega)⟩, Box2.mk' w _ _ _⟩
  case round =>
    obtain ⟨k, hk, rfl, hall, hbox⟩ := hrel
    obtain ⟨q0, q1, q2, q3⟩ := id hbox
    by_cases hlt : (k : Int) < n
    · go_wp2_with fail
      refine (below_any ht a k wr ha ha' (by omega) hlt).mono ?_
      rintro e w1 ⟨rfl, hb1⟩
      replace hbox := hbox.step hb1
      clear q0 q1 q2 q3 hb1
      obtain ⟨q0, q1, q2, q3⟩ := id hbox
      obtain ⟨x, hx⟩ : ∃ x, le s n a k = x := ⟨_, rfl⟩
      rw [hx]
      replace hx : Kp _ := ⟨hx⟩
      cases x
      · go_wp2
        go_ret
        exact ⟨ret_bool (allTo_false (i := k) (by omega) hx.out).symm, q0⟩
      · go_wp2
        go_roundw
        case rel => exact ⟨k + 1, by omega, by go_num, ⟨all_more (p := fun b => le s n a b) hall.out hx.out⟩, hbox⟩
        case measure => simp [intOf]; omega
    · go_wp2
      go_ret
      exact ⟨ret_bool (allTo_true.2 (fun i hi => hall.out i (by omega))).symm, q0⟩

set_option maxHeartbeats 400000 in
theorem bottom_any {s : ByteArray} {n : Int} (ht : Tab s n) (w : World) :
    Calls Tryz.prog 98 #[.agg #[.int .i64 n, .string s]] w fun e w' => e = .returned (.int .i64 (botI s n)) ∧ Below w.heap.size w w' := by
  obtain ⟨t1, t2, -⟩ := id ht
  go_enter Tryz.func98, Tryz.ntmps98
  go_wp2
  go_loopw [3] (fun c wr => ∃ k : Nat, (k : Int) ≤ n ∧ c = .int .i64 k ∧ Kp (∀ i : Nat, i < k → pBot s n i = false) ∧ Box2 w wr (.int .i64 n) (.string s)) (fun c _ => n.toNat - (intOf c).toNat)
  case atStart => exact ⟨0, by omega, rfl, ⟨fun i hi => absurd hi (by omega)⟩, Box2.mk' w _ _ _⟩
  case round =>
    obtain ⟨k, hk, rfl, hall, hbox⟩ := hrel
    obtain ⟨q0, q1, q2, q3⟩ := id hbox
    by_cases hlt : (k : Int) < n
    · go_wp2_with fail
      refine (belowAll_any ht k wr (by omega) hlt).mono ?_
      rintro e w1 ⟨rfl, hb1⟩
      replace hbox := hbox.step hb1
      clear q0 q1 q2 q3 hb1
      obtain ⟨q0, q1, q2, q3⟩ := id hbox
      obtain ⟨x, hx⟩ : ∃ x, pBot s n k = x := ⟨_, rfl⟩
      rw [hx]
      replace hx : Kp _ := ⟨hx⟩
      cases x
      · go_wp2
        go_roundw
        case rel => exact ⟨k + 1, by omega, by go_num, ⟨none_more (p := pBot s n) hall.out hx.out⟩, hbox⟩
        case measure => simp [intOf]; omega
      · go_wp2
        go_ret
        exact ⟨ret_int (by unfold botI; rw [firstTo_some (i := k) (by omega) hall.out hx.out]; rfl), q0⟩
    · go_wp2
      go_ret
      exact ⟨ret_int (by unfold botI; rw [firstTo_none (fun i hi => hall.out i (by omega))]; rfl), q0⟩

end Go.Proofs.YtcnbifdlkalimabGreat

/-
  The walks of the packages lattice and flow: sets of levels, their joins, and tapes that are too low; for every table.
-/
namespace Go.Proofs.YtcnbifdlkalimabGreat
open Go.RowKit
set_option linter.unusedVariables false
set_option maxRecDepth 100000

/-- a set as cells, and as a value -/
def setV (m : Nat → Bool) : List Value := [.bool (m 0), .bool (m 1), .bool (m 2), .bool (m 3), .bool (m 4), .bool (m 5)]
def setA (m : Nat → Bool) : Value := .agg #[.bool (m 0), .bool (m 1), .bool (m 2), .bool (m 3), .bool (m 4), .bool (m 5)]

theorem own6s (w : World) (v0 v1 v2 v3 v4 v5 : Value) (t : TypeId) : Own (w.alloc (.cells #[v0, v1, v2, v3, v4, v5] t)) w.heap.size [v0, v1, v2, v3, v4, v5] := by
  refine ⟨by simp, ?_, ?_⟩
  · intro i v hv
    have hi : i < 6 := by have := (List.getElem?_eq_some_iff.1 hv).1; simpa using this
    have e : (w.alloc (.cells #[v0, v1, v2, v3, v4, v5] t)).cell? ⟨w.heap.size, i, none⟩ = ([v0, v1, v2, v3, v4, v5] : List Value)[i]? := by
      match i, hi with
      | 0, _ => simp [go_sem]
      | 1, _ => simp [go_sem]
      | 2, _ => simp [go_sem]
      | 3, _ => simp [go_sem]
      | 4, _ => simp [go_sem]
      | 5, _ => simp [go_sem]
    rw [e]
    exact hv
  · intro i v hv
    have hi : i < 6 := by have := (List.getElem?_eq_some_iff.1 hv).1; simpa using this
    match i, hi with
    | 0, _ => simp [go_sem]
    | 1, _ => simp [go_sem]
    | 2, _ => simp [go_sem]
    | 3, _ => simp [go_sem]
    | 4, _ => simp [go_sem]
    | 5, _ => simp [go_sem]

theorem setV_at (m : Nat → Bool) {l : Nat} (h : l < 6) : (setV m)[l]? = some (.bool (m l)) := by
  match l, h with
  | 0, _ => rfl
  | 1, _ => rfl
  | 2, _ => rfl
  | 3, _ => rfl
  | 4, _ => rfl
  | 5, _ => rfl

set_option maxHeartbeats 400000 in
theorem lsetHas_any (g l : Nat) (m : Nat → Bool) (w : World) (W : Own w g (setV m)) (hl : l < 6) :
    Calls Tryz.prog 99 #[.pointer (some ⟨g, 0, none⟩), .int .i64 l] w fun e w' => e = .returned (.bool (m l)) ∧ w' = w := by
  have hc := W.c l _ (setV_at m hl)
  have hl2 : (l : Int) < 6 := by omega
  clear W
  generalize m l = x at *
  go_enter Tryz.func99, Tryz.ntmps99
  go_wp2_with fail
  go_ret
  exact ⟨by simp, rfl⟩

/-- a table and a set, each in its block -/
structure TSAt (w wr : World) (tb sb : Nat) (n : Int) (T : ByteArray) (m : Nat → Bool) : Prop where
  b : Below w.heap.size w wr
  t : Own wr tb [.int .i64 n, .string T]
  s : Own wr sb (setV m)
theorem TSAt.step {w wr w1 : World} {tb sb : Nat} {n : Int} {T : ByteArray} {m : Nat → Bool} (h : TSAt w wr tb sb n T m) (hb : Below wr.heap.size wr w1) : TSAt w w1 tb sb n T m :=
  ⟨h.b.trans (hb.mono h.b.size), h.t.step hb, h.s.step hb⟩

set_option maxHeartbeats 1600000 in
theorem setJoin_any {T : ByteArray} {n : Int} (ht : Tab T n) (hp : pOrder T n = true) (H : LatOk T n) (m : Nat → Bool) (w : World) :
    Calls Tryz.prog 44 #[.agg #[.int .i64 n, .string T], setA m] w fun e w' => e = .returned (.int .i64 (jset T n m n.toNat)) ∧ Below w.heap.size w w' := by
  have n6 : n ≤ 6 := ht.2
  have n1 : 1 ≤ n := ht.1
  have hJ : ∀ k : Nat, (k : Int) ≤ n → Lv n (jset T n m k) := fun k hk => (jset_is H m k hk).1
  have hbot : jset T n m 0 = botI T n := rfl
  replace hp : Kp _ := ⟨hp⟩
  replace hJ : Kp _ := ⟨hJ⟩
  unfold setA
  go_enter Tryz.func44, Tryz.ntmps44
  go_wp2_with fail
  obtain ⟨w0, hw0⟩ : ∃ w0, (w.alloc (.cells #[.int .i64 n, .string T] 54)).alloc (.cells #[.bool (m 0), .bool (m 1), .bool (m 2), .bool (m 3), .bool (m 4), .bool (m 5)] 107) = w0 := ⟨_, rfl⟩
  have A0 : TSAt w w0 w.heap.size (w.heap.size + 1) n T m := by
    rw [← hw0]
    have b0 : Below w.heap.size w (w.alloc (.cells #[.int .i64 n, .string T] 54)) := (Below.refl _ _).alloc (Nat.le_refl _) _
    refine ⟨b0.alloc (by simp) _, (Own.new2 w _ _ _).alloc _, ?_⟩
    have := own6s (w.alloc (.cells #[.int .i64 n, .string T] 54)) (.bool (m 0)) (.bool (m 1)) (.bool (m 2)) (.bool (m 3)) (.bool (m 4)) (.bool (m 5)) 107
    rw [show (w.alloc (.cells #[.int .i64 n, .string T] 54)).heap.size = w.heap.size + 1 from by simp] at this
    exact this
  have hB := fun W => bottom_any ht W
  replace hB : Kp _ := ⟨hB⟩
  replace A0 : Kp _ := ⟨A0⟩
  rw [hw0]
  refine (hB.out w0).mono ?_
  rintro e w1 ⟨rfl, b1⟩
  have A1 := A0.out.step b1
  clear b1 A0 hw0 hB
  go_wp2_with fail
  go_loopw [5, 6] (fun c d wr => ∃ k : Nat, (k : Int) ≤ n ∧ c = .int .i64 (jset T n m k) ∧ d = .int .i64 k ∧ TSAt w wr w.heap.size (w.heap.size + 1) n T m) (fun _ d _ => n.toNat - (intOf d).toNat)
  case atStart => exact ⟨0, by omega, rfl, rfl, A1⟩
  case round =>
    obtain ⟨k, hk, rfl, rfl, A⟩ := hrel
    have q0 := A.t.c 0 _ rfl
    have q1 := A.t.c 1 _ rfl
    by_cases hlt : (k : Int) < n
    · have hH := lsetHas_any (w.heap.size + 1) k m wr A.s (by omega)
      have hJn := fun W => join_any ht (jset T n m k) k W (hJ.out k hk).1 (hJ.out k hk).2 (by omega) hlt
      have e1 : (pJoin T n (jset T n m k) k).getD 0 = jn T n (jset T n m k) k := by unfold jn; rw [join_same hp.out]
      rw [e1] at hJn
      obtain ⟨x, hx⟩ : ∃ x, m k = x := ⟨_, rfl⟩
      rw [hx] at hH
      have hnext : jset T n m (k + 1) = if x = true then jn T n (jset T n m k) k else jset T n m k := by rw [← hx]; rfl
      generalize jn T n (jset T n m k) k = y at *
      generalize jset T n m k = z at *
      generalize (pJoin T n z k).isSome = u at *
      replace hH : Kp _ := ⟨hH⟩
      replace hJn : Kp _ := ⟨hJn⟩
      replace hnext : Kp _ := ⟨hnext⟩
      replace A : Kp _ := ⟨A⟩
      clear A1 hJ e1 hx
      go_wp2_with fail
      refine hH.out.mono ?_
      rintro e w2 ⟨rfl, hw2⟩
      have hw3 := hw2.symm
      clear hw2
      subst hw3
      cases x
      · go_wp2_with fail
        go_roundw
        case rel => exact ⟨k + 1, by omega, by rw [hnext.out]; rfl, by go_num, A.out⟩
        case measure => simp [intOf]; omega
      · go_wp2_with fail
        refine (hJn.out _).mono ?_
        rintro e w3 ⟨rfl, b3⟩
        have A3 := A.out.step b3
        clear b3 A q0 q1
        go_wp2_with fail
        go_roundw
        case rel => exact ⟨k + 1, by omega, by rw [hnext.out]; rfl, by go_num, A3⟩
        case measure => simp [intOf]; omega
    · have hkn : Kp (k = n.toNat) := ⟨by omega⟩
      have A' : Kp _ := ⟨A⟩
      clear A A1
      go_wp2_with fail
      go_ret
      exact ⟨ret_int (by rw [hkn.out]), A'.out.b⟩

set_option maxHeartbeats 1600000 in
theorem tooLow_any {T : ByteArray} {n : Int} (ht : Tab T n) (m : Nat → Bool) (c : Int) (hc : Lv n c) (w : World) :
    Calls Tryz.prog 102 #[setA m, .agg #[.int .i64 n, .string T], .int .i64 c] w fun e w' => e = .returned (.bool (lowF T n m c)) ∧ Below w.heap.size w w' := by
  have n6 : n ≤ 6 := ht.2
  have n1 : 1 ≤ n := ht.1
  have hB := fun (k : Nat) (hk : (k : Int) < n) W => below_any ht c k W hc.1 hc.2 (by omega) hk
  replace hB : Kp _ := ⟨hB⟩
  unfold setA
  have A1 : TSAt w ((w.alloc (.cells #[.bool (m 0), .bool (m 1), .bool (m 2), .bool (m 3), .bool (m 4), .bool (m 5)] 107)).alloc (.cells #[.int .i64 n, .string T] 54)) (w.heap.size + 1) w.heap.size n T m := by
    have b0 : Below w.heap.size w (w.alloc (.cells #[.bool (m 0), .bool (m 1), .bool (m 2), .bool (m 3), .bool (m 4), .bool (m 5)] 107)) := (Below.refl _ _).alloc (Nat.le_refl _) _
    refine ⟨b0.alloc (by simp) _, ?_, (own6s w _ _ _ _ _ _ _).alloc _⟩
    have := Own.new2 (w.alloc (.cells #[.bool (m 0), .bool (m 1), .bool (m 2), .bool (m 3), .bool (m 4), .bool (m 5)] 107)) (.int .i64 n) (.string T) 54
    rw [show (w.alloc (.cells #[.bool (m 0), .bool (m 1), .bool (m 2), .bool (m 3), .bool (m 4), .bool (m 5)] 107)).heap.size = w.heap.size + 1 from by simp] at this
    exact this
  replace A1 : Kp _ := ⟨A1⟩
  go_enter Tryz.func102, Tryz.ntmps102
  go_wp2_with fail
  go_loopw [7] (fun d wr => ∃ k : Nat, (k : Int) ≤ n ∧ d = .int .i64 k ∧ Kp (∀ j : Nat, j < k → (!(m (j : Int).toNat) || le T n c j) = true) ∧ TSAt w wr (w.heap.size + 1) w.heap.size n T m) (fun d _ => n.toNat - (intOf d).toNat)
  case atStart => exact ⟨0, by omega, rfl, ⟨fun i hi => absurd hi (by omega)⟩, A1.out⟩
  case round =>
    obtain ⟨k, hk, rfl, hall, A⟩ := hrel
    have q0 := A.t.c 0 _ rfl
    have q1 := A.t.c 1 _ rfl
    by_cases hlt : (k : Int) < n
    · have hH := lsetHas_any w.heap.size k m wr A.s (by omega)
      have hBk := hB.out k hlt
      obtain ⟨x, hx⟩ : ∃ x, m k = x := ⟨_, rfl⟩
      obtain ⟨y, hy⟩ : ∃ y, le T n c k = y := ⟨_, rfl⟩
      rw [hx] at hH
      rw [hy] at hBk
      replace hH : Kp _ := ⟨hH⟩
      replace hBk : Kp _ := ⟨hBk⟩
      replace hx : Kp _ := ⟨hx⟩
      replace hy : Kp _ := ⟨hy⟩
      replace A : Kp _ := ⟨A⟩
      clear A1 hB
      go_wp2_with fail
      refine hH.out.mono ?_
      rintro e w2 ⟨rfl, hw2⟩
      have hw3 := hw2.symm
      clear hw2
      subst hw3
      cases x
      · go_wp2_with fail
        go_roundw
        case rel => exact ⟨k + 1, by omega, by go_num, ⟨all_more (p := fun j => !(m j.toNat) || le T n c j) hall.out (by rw [Int.toNat_natCast, hx.out]; rfl)⟩, A.out⟩
        case measure => simp [intOf]; omega
      · go_wp2_with fail
        refine (hBk.out _).mono ?_
        rintro e w3 ⟨rfl, b3⟩
        have A3 : Kp _ := ⟨A.out.step b3⟩
        clear b3 A q0 q1
        cases y
        · go_wp2_with fail
          go_ret
          refine ⟨ret_bool ?_, A3.out.b⟩
          unfold lowF
          rw [allTo_false (i := k) (by omega) (by rw [Int.toNat_natCast, hx.out, hy.out]; rfl)]
          rfl
        · go_wp2_with fail
          go_roundw
          case rel => exact ⟨k + 1, by omega, by go_num, ⟨all_more (p := fun j => !(m j.toNat) || le T n c j) hall.out (by rw [hy.out, Bool.or_true])⟩, A3.out⟩
          case measure => simp [intOf]; omega
    · replace A : Kp _ := ⟨A⟩
      clear A1 hB
      go_wp2_with fail
      go_ret
      refine ⟨ret_bool ?_, A.out.b⟩
      unfold lowF
      rw [allTo_true.2 (fun i hi => hall.out i (by omega))]
      rfl
end Go.Proofs.YtcnbifdlkalimabGreat

/-
  The walks of the package flow: the context of a statement, and whether it leaks; for every table.
-/
namespace Go.Proofs.YtcnbifdlkalimabGreat
open Go.RowKit
set_option linter.unusedVariables false
set_option maxRecDepth 100000

/-- a row of numbers -/
theorem orow_int {w : World} {B : Nat} {e : TypeId} {v : Value} {l : List Int} (h : w.ownsRow B e 1 v l.length (l.map (Value.int .i64))) {i : Nat} {x : Int} (hx : l[i]? = some x) : ∃ g c, v = .slice (some ⟨g, 0, none⟩) l.length c ∧ g < w.heap.size ∧ w.cell? ⟨g, i, none⟩ = some (.int .i64 x) := by
  have hi : i < l.length := (List.getElem?_eq_some_iff.1 hx).1
  obtain ⟨g, c, hS⟩ : ∃ g c, v = .slice (some ⟨g, 0, none⟩) l.length c := by
    rcases h.2 with h | ⟨g, cap, cur, h, _⟩
    · omega
    · exact ⟨g, cap, h⟩
  rw [hS] at h
  refine ⟨g, c, hS, (h.lt g rfl).2, ?_⟩
  rw [h.cellAt i (by omega), List.getElem?_map, hx]
  rfl

/-- a statement and a table, each in its block -/
structure STAt (w wr : World) (n : Int) (T : ByteArray) (x : Sq) : Prop where
  b : Below w.heap.size w wr
  s : Own wr w.heap.size (stV x)
  t : Own wr (w.heap.size + 1) [.int .i64 n, .string T]
theorem STAt.step {w wr w1 : World} {n : Int} {T : ByteArray} {x : Sq} (h : STAt w wr n T x) (hb : Below wr.heap.size wr w1) : STAt w w1 n T x :=
  ⟨h.b.trans (hb.mono h.b.size), h.s.step hb, h.t.step hb⟩
theorem STAt.new (w : World) (n : Int) (T : ByteArray) (x : Sq) (t1 t2 : TypeId) :
    STAt w ((w.alloc (.cells #[.int .i64 x.k, .int .i64 x.pl, .int .i64 x.ou, .int .i64 x.ta, .bool (x.rd 0), .bool (x.rd 1), .bool (x.rd 2), .bool (x.rd 3), .bool (x.rd 4), .bool (x.rd 5), .bool (x.tp 0), .bool (x.tp 1), .bool (x.tp 2), .bool (x.tp 3), .bool (x.tp 4), .bool (x.tp 5)] t1)).alloc (.cells #[.int .i64 n, .string T] t2)) n T x := by
  have o := own16 w x t1
  have b0 : Below w.heap.size w (w.alloc (.cells #[.int .i64 x.k, .int .i64 x.pl, .int .i64 x.ou, .int .i64 x.ta, .bool (x.rd 0), .bool (x.rd 1), .bool (x.rd 2), .bool (x.rd 3), .bool (x.rd 4), .bool (x.rd 5), .bool (x.tp 0), .bool (x.tp 1), .bool (x.tp 2), .bool (x.tp 3), .bool (x.tp 4), .bool (x.tp 5)] t1)) := (Below.refl _ _).alloc (Nat.le_refl _) _
  have hs : (w.alloc (.cells #[.int .i64 x.k, .int .i64 x.pl, .int .i64 x.ou, .int .i64 x.ta, .bool (x.rd 0), .bool (x.rd 1), .bool (x.rd 2), .bool (x.rd 3), .bool (x.rd 4), .bool (x.rd 5), .bool (x.tp 0), .bool (x.tp 1), .bool (x.tp 2), .bool (x.tp 3), .bool (x.tp 4), .bool (x.tp 5)] t1)).heap.size = w.heap.size + 1 := by simp
  generalize w.alloc (.cells #[.int .i64 x.k, .int .i64 x.pl, .int .i64 x.ou, .int .i64 x.ta, .bool (x.rd 0), .bool (x.rd 1), .bool (x.rd 2), .bool (x.rd 3), .bool (x.rd 4), .bool (x.rd 5), .bool (x.tp 0), .bool (x.tp 1), .bool (x.tp 2), .bool (x.tp 3), .bool (x.tp 4), .bool (x.tp 5)] t1) = w1 at *
  refine ⟨b0.alloc (by omega) _, o.alloc _, ?_⟩
  have := Own.new2 w1 (.int .i64 n) (.string T) t2
  rw [hs] at this
  exact this

set_option maxHeartbeats 1600000 in
theorem ctx_any {T : ByteArray} {n : Int} (ht : Tab T n) (x : Sq) (inn : List Int) (v : Value) (B : Nat) (w : World) (hI : w.ownsRow B 3 1 v inn.length (inn.map (Value.int .i64))) (hl : inn.length ≤ 100000) :
    Calls Tryz.prog 43 #[stA x, v, .agg #[.int .i64 n, .string T]] w fun e w' => e = .returned (.int .i64 (ctxF T n inn x.ou)) ∧ Below w.heap.size w w' := by
  have A := STAt.new w n T x 109 54
  have hB := fun W => bottom_any ht W
  replace hB : Kp _ := ⟨hB⟩
  obtain ⟨p1, c1, hv⟩ := orow_len hI
  unfold stA
  by_cases h0 : x.ou < 0
  · have hc : ctxF T n inn x.ou = botI T n := if_pos (.inl h0)
    rw [hc]
    subst hv
    have h0b : (x.ou < 0) = True := by simp [h0]
    clear hI hc
    generalize inn.length = m at *
    replace A : Kp _ := ⟨A⟩
    go_enter Tryz.func43, Tryz.ntmps43
    go_wp2_with fail
    refine (hB.out _).mono ?_
    rintro e w1 ⟨rfl, b1⟩
    have A1 : Kp _ := ⟨A.out.step b1⟩
    clear b1 A hB
    go_wp2_with fail
    go_ret
    exact ⟨rfl, A1.out.b⟩
  · by_cases h1 : (inn.length : Int) ≤ x.ou
    · have hc : ctxF T n inn x.ou = botI T n := if_pos (.inr h1)
      rw [hc]
      subst hv
      clear hI hc
      generalize inn.length = m at *
      replace A : Kp _ := ⟨A⟩
      go_enter Tryz.func43, Tryz.ntmps43
      go_wp2_with fail
      refine (hB.out _).mono ?_
      rintro e w1 ⟨rfl, b1⟩
      have A1 : Kp _ := ⟨A.out.step b1⟩
      clear b1 A hB
      go_wp2_with fail
      go_ret
      exact ⟨rfl, A1.out.b⟩
    · obtain ⟨i, hi⟩ : ∃ i : Nat, x.ou = i := ⟨x.ou.toNat, by omega⟩
      have hil : i < inn.length := by omega
      have hc : ctxF T n inn x.ou = inn[i] := by
        unfold ctxF
        rw [if_neg (by omega), hi, Int.toNat_natCast, List.getD_eq_getElem?_getD, List.getElem?_eq_getElem hil]
        rfl
      rw [hc]
      obtain ⟨g, cap, hv2, hg, hcell⟩ := orow_int hI (List.getElem?_eq_getElem hil)
      subst hv2
      clear hI hc hv
      have hi0 : (0 : Int) ≤ x.ou := by omega
      have him : (i : Int) < (inn.length : Int) := by omega
      generalize inn[i] = y at *
      generalize inn.length = m at *
      replace A : Kp _ := ⟨A⟩
      rw [hi]
      rw [hi] at A
      clear h0 h1 hi hi0
      go_enter Tryz.func43, Tryz.ntmps43
      go_wp2_with fail
      go_ret
      exact ⟨rfl, A.out.b⟩

set_option maxHeartbeats 1600000 in
theorem leaksF_any {T : ByteArray} {n : Int} (ht : Tab T n) (x : Sq) (c v : Int) (hc : Lv n c) (hv : Lv n v) (hta : x.k = 1 ∨ x.k = 2 → Lv n x.ta) (w : World) :
    Calls Tryz.prog 46 #[stA x, .agg #[.int .i64 n, .string T], .int .i64 c, .int .i64 v] w fun e w' => e = .returned (.bool (leakF T n x c v)) ∧ Below w.heap.size w w' := by
  have A := STAt.new w n T x 109 54
  have hLc := fun W => tooLow_any ht x.tp c hc W
  have hLv := fun W => tooLow_any ht x.tp v hv W
  unfold setA at hLc hLv
  unfold stA
  have a4 := A.t.c 0 _ rfl
  have a5 := A.t.c 1 _ rfl
  replace A : Kp _ := ⟨A⟩
  replace hLc : Kp _ := ⟨hLc⟩
  replace hLv : Kp _ := ⟨hLv⟩
  by_cases h12 : x.k = 1 ∨ x.k = 2
  · have ha := hta h12
    have hB := fun W => below_any ht v x.ta W hv.1 hv.2 ha.1 ha.2
    have hk : leakF T n x c v = (!(le T n v x.ta) || lowF T n x.tp c) := if_pos h12
    rw [hk]
    obtain ⟨y, hy⟩ : ∃ y, le T n v x.ta = y := ⟨_, rfl⟩
    rw [hy] at hB ⊢
    generalize lowF T n x.tp c = z at *
    replace hB : Kp _ := ⟨hB⟩
    clear hta hk hy hLv a4 a5
    have hkk : x.k = 1 ∨ x.k = 2 := h12
    rcases hkk with h1 | h2
    · rw [h1] at A ⊢
      clear h12 h1
      go_enter Tryz.func46, Tryz.ntmps46
      go_wp2_with fail
      refine (hB.out _).mono ?_
      rintro e w1 ⟨rfl, b1⟩
      have A1 : Kp _ := ⟨A.out.step b1⟩
      have c0 := A1.out.s.c 10 _ rfl
      have c1 := A1.out.s.c 11 _ rfl
      have c2 := A1.out.s.c 12 _ rfl
      have c3 := A1.out.s.c 13 _ rfl
      have c4 := A1.out.s.c 14 _ rfl
      have c5 := A1.out.s.c 15 _ rfl
      have e0 := A1.out.t.c 0 _ rfl
      have e1 := A1.out.t.c 1 _ rfl
      clear b1 A hB
      cases y
      · go_wp2_with fail
        go_ret
        exact ⟨by simp, A1.out.b⟩
      · go_wp2_with fail
        refine (hLc.out _).mono ?_
        rintro e w2 ⟨rfl, b2⟩
        have A2 : Kp _ := ⟨A1.out.step b2⟩
        clear b2 A1 c0 c1 c2 c3 c4 c5 e0 e1
        go_wp2_with fail
        go_ret
        exact ⟨by simp, A2.out.b⟩
    · rw [h2] at A ⊢
      clear h12 h2
      go_enter Tryz.func46, Tryz.ntmps46
      go_wp2_with fail
      refine (hB.out _).mono ?_
      rintro e w1 ⟨rfl, b1⟩
      have A1 : Kp _ := ⟨A.out.step b1⟩
      have c0 := A1.out.s.c 10 _ rfl
      have c1 := A1.out.s.c 11 _ rfl
      have c2 := A1.out.s.c 12 _ rfl
      have c3 := A1.out.s.c 13 _ rfl
      have c4 := A1.out.s.c 14 _ rfl
      have c5 := A1.out.s.c 15 _ rfl
      have e0 := A1.out.t.c 0 _ rfl
      have e1 := A1.out.t.c 1 _ rfl
      clear b1 A hB
      cases y
      · go_wp2_with fail
        go_ret
        exact ⟨by simp, A1.out.b⟩
      · go_wp2_with fail
        refine (hLc.out _).mono ?_
        rintro e w2 ⟨rfl, b2⟩
        have A2 : Kp _ := ⟨A1.out.step b2⟩
        clear b2 A1 c0 c1 c2 c3 c4 c5 e0 e1
        go_wp2_with fail
        go_ret
        exact ⟨by simp, A2.out.b⟩
  · have k1 : (x.k == 1) = false := beq_eq_false_iff_ne.2 fun e => h12 (.inl e)
    have k2 : (x.k == 2) = false := beq_eq_false_iff_ne.2 fun e => h12 (.inr e)
    have n1 : ¬ x.k = 1 := fun e => h12 (.inl e)
    have n2 : ¬ x.k = 2 := fun e => h12 (.inr e)
    by_cases h4 : x.k = 4
    · have hk : leakF T n x c v = lowF T n x.tp v := by unfold leakF; rw [if_neg h12, if_pos h4]
      rw [hk]
      generalize lowF T n x.tp v = z at *
      rw [h4] at A ⊢
      clear hta hk hLc h12 k1 k2 n1 n2 h4 a4 a5
      go_enter Tryz.func46, Tryz.ntmps46
      go_wp2_with fail
      refine (hLv.out _).mono ?_
      rintro e w2 ⟨rfl, b2⟩
      have A2 : Kp _ := ⟨A.out.step b2⟩
      clear b2 A hLv
      go_wp2_with fail
      go_ret
      exact ⟨rfl, A2.out.b⟩
    · have hk : leakF T n x c v = lowF T n x.tp c := by unfold leakF; rw [if_neg h12, if_neg h4]
      rw [hk]
      generalize lowF T n x.tp c = z at *
      have k4 : (x.k == 4) = false := beq_eq_false_iff_ne.2 h4
      clear hta hk hLv h12 a4 a5
      go_enter Tryz.func46, Tryz.ntmps46
      go_wp2_with fail
      refine (hLc.out _).mono ?_
      rintro e w2 ⟨rfl, b2⟩
      have A2 : Kp _ := ⟨A.out.step b2⟩
      clear b2 A hLc
      go_wp2_with fail
      go_ret
      exact ⟨rfl, A2.out.b⟩
end Go.Proofs.YtcnbifdlkalimabGreat
