import Derived.Test.YtcnbifdlkalimabGreatTrn5
import Derived.Test.YtcnbifdlkalimabGreatSrcB
import Derived.Deep.RegionLaw

/-
  The walks of the package translation, sixth part: aim, add, declare; for every translator.
-/
namespace Go.Proofs.YtcnbifdlkalimabGreat
open Go.RowKit
set_option linter.unusedVariables false
set_option maxRecDepth 100000

/-- a byte of the code is set -/
theorem TrAt.setCode {w : World} {b g i c : Nat} {s : ByteArray} {q : Tq} {S : Nat → Value} (H : TrAt w b s q S) (hS : S 2 = .slice (some ⟨g, 0, none⟩) q.cd.length c) (x : Int) :
    TrAt (w.setCell ⟨g, i, none⟩ (.int .u8 x)) b s { q with cd := q.cd.set i x } S ∧ TrTo b b S S w (w.setCell ⟨g, i, none⟩ (.int .u8 x)) := by
  have hrow : w.ownsRow (b + 1) 5 1 (S 2) q.cd.length (q.cd.map (Value.int .u8)) := H.o 2 (by omega)
  have hrow2 := hrow
  rw [hS] at hrow2
  obtain ⟨st, gr⟩ := hrow2.stored i (.int .u8 x)
  have hgb : b + 1 ≤ g := (hrow.lt g (by rw [hS]; rfl)).1
  have blk : ∀ k, k ≠ g → (w.setCell ⟨g, i, none⟩ (.int .u8 x)).heap[k]? = w.heap[k]? := fun k hk => Below.heap_setCell w ⟨g, i, none⟩ _ k hk
  have key : ∀ k : Nat, (w.setCell ⟨g, i, none⟩ (.int .u8 x)).cell? ⟨b, k, none⟩ = w.cell? ⟨b, k, none⟩ := fun k => World.cell?_of_block (w := w) (a := ⟨b, k, none⟩) (blk b (by omega))
  refine ⟨⟨by simpa using H.lt, (key _).trans H.c0, (key _).trans H.c1, (key _).trans H.c2, (key _).trans H.c3, (key _).trans H.c4, fun i j hi hj => (key _).trans (H.cp i j hi hj), (key _).trans H.ch, (key _).trans H.ci, fun j hj => (key _).trans (H.c j hj), fun j hj => ?_, H.d, fun j hj => by rw [World.frozen?_setCell]; exact H.f j hj⟩, ⟨rfl, rfl, rfl, by simp, fun k _ _ _ h3 => blk k (fun e => h3 2 (by omega) (by rw [hS, e]; rfl)), fun _ _ => .inl rfl⟩⟩
  by_cases e : j = 2
  · subst e
    show (w.setCell ⟨g, i, none⟩ (.int .u8 x)).ownsRow (b + 1) 5 1 (S 2) (q.cd.set i x).length ((q.cd.set i x).map (Value.int .u8))
    rw [hS, List.length_set, List.map_set]
    exact st
  · have e1 : rowN { q with cd := q.cd.set i x } j = rowN q j := by unfold rowN; rw [if_neg e, if_neg e]
    have e2 : rowV { q with cd := q.cd.set i x } j = rowV q j := by unfold rowV; rw [if_neg e, if_neg e]
    rw [e1, e2]
    exact orow_same (H.o j hj) fun k hk => blk k (fun e3 => by
      rcases H.d j 2 hj (by omega) e with c | c
      · rw [c] at hk; simp at hk
      · exact c (by rw [hk, hS, e3]; rfl))

set_option maxHeartbeats 800000 in
theorem aim_any (b : Nat) (s : ByteArray) (q : Tq) (S : Nat → Value) (z : Nat) (w : World) (H : TrAt w b s q S) (M : Sml q) (hz : 2 * z + 1 < q.cd.length) :
    Calls Tryz.prog 215 #[.pointer (some ⟨b, 0, none⟩), .int .i64 z] w fun e w' => e = .returned (.tuple #[]) ∧ TrAt w' b s (aimQ q z) S ∧ TrTo b b S S w w' := by
  have hl := M.cd
  have c2 := H.c 2 (by omega)
  have hrow : w.ownsRow (b + 1) 5 1 (S 2) q.cd.length (q.cd.map (Value.int .u8)) := H.o 2 (by omega)
  obtain ⟨p, cp, e⟩ := orow_len hrow
  rw [e] at c2 hrow
  have c2 : w.cell? ⟨b, 43, none⟩ = some (.slice p q.cd.length cp) := c2
  obtain ⟨g, rfl, x, hx, hc, hf⟩ := orow_byte hrow hz
  have hR := H.setCode (i := 2 * z + 1) e ((plQ q : Int) % 256)
  have hP := fun w1 (h : Below w.heap.size w w1) => place_any b s q S w1 (H.step h) M
  have hE : aimQ q z = { q with cd := q.cd.set (2 * z + 1) ((plQ q : Int) % 256) } := rfl
  rw [hE]
  have hw8 := wrap8 (plQ q)
  have hp2 : ((plQ q : Nat) : Int) ≤ 50000 := by unfold plQ; omega
  generalize plQ q = pl at *
  generalize q.cd.length = n at *
  obtain ⟨k, hk⟩ : ∃ k, 2 * z + 1 = k := ⟨_, rfl⟩
  have hki : 2 * (z : Int) + 1 = (k : Int) := by omega
  rw [hk] at hR hz hc hf ⊢
  have hkn : (k : Int) < (n : Int) := by omega
  obtain ⟨hw1, hw2⟩ := i64w (x := 2 * (z : Int)) (by omega) (by omega)
  obtain ⟨hw3, hw4⟩ := i64w (x := 2 * (z : Int) + 1) (by omega) (by omega)
  replace hR : Kp _ := ⟨hR⟩
  replace hP : Kp _ := ⟨hP⟩
  have dlt : decide ((k : Int) < (n : Int)) = true := decide_eq_true hkn
  clear H M hrow hx e hE hk
  go_enter Tryz.func215, Tryz.ntmps215
  go_wp2_with fail
  go_region_with (go_at_call 42; refine (hP.out _ ((Below.refl _ _).drew)).mono ?_; rintro e w9 ⟨rfl, hw9⟩; subst hw9)
  all_goals
    go_wp2_with fail
    first | go_end0 | refine bodyPost_ret (results_none rfl _ _ _) rfl ?_
    exact ⟨rfl, hR.out.1.step ⟨rfl, rfl, rfl, Nat.le_refl _, fun _ _ => rfl⟩, hR.out.2.trans (TrTo.below ⟨rfl, rfl, rfl, Nat.le_refl _, fun _ _ => rfl⟩)⟩
end Go.Proofs.YtcnbifdlkalimabGreat

/-
  The walks of the package translation, seventh part: sets of levels, operators, a tape, a letter; for every translator.
-/
namespace Go.Proofs.YtcnbifdlkalimabGreat
open Go.RowKit
set_option linter.unusedVariables false
set_option maxRecDepth 100000

theorem Own.same {w w' : World} {g : Nat} {vs : List Value} (h : Own w g vs) (hb : w'.heap[g]? = w.heap[g]?) (hs : w.heap.size ≤ w'.heap.size) : Own w' g vs :=
  ⟨Nat.lt_of_lt_of_le h.lt hs, fun i v hv => by rw [World.cell?_of_block (w := w) (a := ⟨g, i, none⟩) hb]; exact h.c i v hv, fun i v hv => by rw [World.frozen?_of_block (w := w) (a := ⟨g, i, none⟩) hb]; exact h.f i v hv⟩
theorem Own.setv {w : World} {g i : Nat} {vs : List Value} (h : Own w g vs) (hi : i < vs.length) (x : Value) : Own (w.setCell ⟨g, i, none⟩ x) g (vs.set i x) := by
  refine ⟨by simpa using h.lt, fun j v hv => ?_, fun j v hv => ?_⟩
  · by_cases e : i = j
    · subst e
      rw [List.getElem?_set_self hi] at hv
      rw [← Option.some.inj hv]
      exact World.cell?_setCell_same _ _ _ (h.c i _ (List.getElem?_eq_getElem hi))
    · rw [List.getElem?_set_ne e] at hv
      rw [coff _ _ _ _ _ e]
      exact h.c j v hv
  · rw [World.frozen?_setCell]
    have hj : j < vs.length := by
      have := (List.getElem?_eq_some_iff.1 hv).1
      simpa using this
    exact h.f j _ (List.getElem?_eq_getElem hj)

/-- what is asked where a statement is being noted in block g -/
structure ExPre (w : World) (b : Nat) (s : ByteArray) (S : Nat → Value) (g : Nat) (x : Tq × Sq) : Prop where
  H : TrAt w b s x.1 S
  F : Fre w b S g
  W : Own w g (stV x.2)
/-- what is left then -/
def ExPost (b : Nat) (s : ByteArray) (S : Nat → Value) (g : Nat) (w : World) (y : Tq × Sq) (e : Ending) (w' : World) : Prop :=
  e = .returned (.tuple #[]) ∧ ∃ S', ExPre w' b s S' g y ∧ TrTo b g S S' w w'

theorem ExPre.rd {w w' : World} {b g : Nat} {s : ByteArray} {S : Nat → Value} {x : Tq × Sq} {r : Rd} (E : ExPre w b s S g x) (h : RdTo w w' b r) : ExPre w' b s S g ({ x.1 with r := r }, x.2) :=
  ⟨E.H.rd h, E.F.to (TrTo.rd (g := b) h), E.W.same (h.block g E.F.ne) (by rw [h.size]; exact Nat.le_refl _)⟩
theorem ExPre.tr {w w' : World} {b g : Nat} {s : ByteArray} {S S' : Nat → Value} {x : Tq × Sq} {q : Tq} (E : ExPre w b s S g x) (H : TrAt w' b s q S') (T : TrTo b b S S' w w') : ExPre w' b s S' g (q, x.2) :=
  ⟨H, E.F.to T, E.W.same (E.F.same T) T.size⟩

theorem stV_rd {x : Sq} {l : Nat} (hl : l < 6) : stV { x with rd := addL x.rd (l : Nat) } = (stV x).set (4 + l) (.bool true) := by
  match l, hl with
  | 0, _ => rfl
  | 1, _ => rfl
  | 2, _ => rfl
  | 3, _ => rfl
  | 4, _ => rfl
  | 5, _ => rfl
theorem stV_tp {x : Sq} {l : Nat} (hl : l < 6) : stV { x with tp := addL x.tp (l : Nat) } = (stV x).set (10 + l) (.bool true) := by
  match l, hl with
  | 0, _ => rfl
  | 1, _ => rfl
  | 2, _ => rfl
  | 3, _ => rfl
  | 4, _ => rfl
  | 5, _ => rfl

/-- the statement's block is written -/
theorem ExPre.note {w : World} {b g i : Nat} {s : ByteArray} {S : Nat → Value} {x : Tq × Sq} {y : Sq} {v : Value} (E : ExPre w b s S g x) (hy : stV y = (stV x.2).set i v) (hi : i < 16) : ExPre (w.setCell ⟨g, i, none⟩ v) b s S g (x.1, y) ∧ TrTo b g S S w (w.setCell ⟨g, i, none⟩ v) := by
  have blk : ∀ k, k ≠ g → (w.setCell ⟨g, i, none⟩ v).heap[k]? = w.heap[k]? := fun k hk => Below.heap_setCell w ⟨g, i, none⟩ _ k hk
  have hne := E.F.ne
  have key : ∀ k : Nat, (w.setCell ⟨g, i, none⟩ v).cell? ⟨b, k, none⟩ = w.cell? ⟨b, k, none⟩ := fun k => World.cell?_of_block (w := w) (a := ⟨b, k, none⟩) (blk b (fun e => hne e.symm))
  have H := E.H
  refine ⟨⟨⟨by simpa using H.lt, (key _).trans H.c0, (key _).trans H.c1, (key _).trans H.c2, (key _).trans H.c3, (key _).trans H.c4, fun i j hi hj => (key _).trans (H.cp i j hi hj), (key _).trans H.ch, (key _).trans H.ci, fun j hj => (key _).trans (H.c j hj), fun j hj => orow_same (H.o j hj) fun k hk => blk k (fun e => E.F.no j hj (by rw [hk, e])), H.d, fun j hj => by rw [World.frozen?_setCell]; exact H.f j hj⟩, ⟨by simpa using E.F.lt, hne, E.F.no⟩, ?_⟩, ⟨rfl, rfl, rfl, by simp, fun k _ _ hg _ => blk k hg, fun _ _ => .inl rfl⟩⟩
  show Own _ g (stV y)
  rw [hy]
  exact E.W.setv (by show i < 16; exact hi) v

set_option maxHeartbeats 400000 in
theorem setAdd_any (g o l : Nat) (vs : List Value) (w : World) (W : Own w g vs) (hl : l < 6) (ho : o + l < vs.length) :
    Calls Tryz.prog 241 #[.pointer (some ⟨g, o, none⟩), .int .i64 l] w fun e w' => e = .returned (.tuple #[]) ∧ w' = w.setCell ⟨g, o + l, none⟩ (.bool true) := by
  have hc := W.c (o + l) _ (List.getElem?_eq_getElem ho)
  have hf := W.f (o + l) _ (List.getElem?_eq_getElem ho)
  have hl2 : (l : Int) < 6 := by omega
  generalize vs[o + l] = v at *
  clear W
  go_enter Tryz.func241, Tryz.ntmps241
  go_wp2_with fail
  first | go_end0 | refine bodyPost_ret (results_none rfl _ _ _) rfl ?_
  exact ⟨rfl, rfl⟩

set_option maxHeartbeats 400000 in
theorem operationOf_any (t : Int) (w : World) : Calls Tryz.prog 240 #[.int .u8 t] w fun e w' => e = .returned (.tuple #[.int .i64 (opOf t), .bool (opOf t != 0)]) ∧ w' = w := by
  by_cases h1 : t = 43
  · subst h1
    go_enter Tryz.func240, Tryz.ntmps240
    go_wp2
    go_ret2
    exact ⟨rfl, rfl⟩
  · by_cases h2 : t = 45
    · subst h2
      go_enter Tryz.func240, Tryz.ntmps240
      go_wp2
      go_ret2
      exact ⟨rfl, rfl⟩
    · by_cases h3 : t = 42
      · subst h3
        go_enter Tryz.func240, Tryz.ntmps240
        go_wp2
        go_ret2
        exact ⟨rfl, rfl⟩
      · by_cases h4 : t = 60
        · subst h4
          go_enter Tryz.func240, Tryz.ntmps240
          go_wp2
          go_ret2
          exact ⟨rfl, rfl⟩
        · by_cases h5 : t = 126
          · subst h5
            go_enter Tryz.func240, Tryz.ntmps240
            go_wp2
            go_ret2
            exact ⟨rfl, rfl⟩
          · have e : opOf t = 0 := by unfold opOf; rw [if_neg h1, if_neg h2, if_neg h3, if_neg h4, if_neg h5]
            rw [e]
            have k1 : (t == 43) = false := beq_eq_false_iff_ne.2 h1
            have k2 : (t == 45) = false := beq_eq_false_iff_ne.2 h2
            have k3 : (t == 42) = false := beq_eq_false_iff_ne.2 h3
            have k4 : (t == 60) = false := beq_eq_false_iff_ne.2 h4
            have k5 : (t == 126) = false := beq_eq_false_iff_ne.2 h5
            clear h1 h2 h3 h4 h5 e
            go_enter Tryz.func240, Tryz.ntmps240
            go_wp2
            go_ret2
            exact ⟨rfl, rfl⟩

/-- where an operator leads -/
def opR (s : ByteArray) (r : Rd) : Rd := if opOf (tok s r) = 0 then adv s r else nx (adv s r)

set_option maxHeartbeats 400000 in
theorem takeOperator_any (b : Nat) (s : ByteArray) (r : Rd) (w : World) (H : RdAt w b s r) (O : RdOk s r) :
    Calls Tryz.prog 230 #[.pointer (some ⟨b, 0, none⟩)] w fun e w' => e = .returned (.tuple #[.int .i64 (opOf (tok s r)), .bool (opOf (tok s r) != 0)]) ∧ RdTo w w' b (opR s r) := by
  have hP := peekR_any b s r w H O
  have hA := fun (w1 : World) (T : RdTo w w1 b (adv s r)) => H.to T
  have O1 := O.adv
  have hO := fun w1 => operationOf_any (tok s r) w1
  unfold opR
  by_cases h : opOf (tok s r) = 0
  · rw [if_pos h, h]
    rw [h] at hO
    generalize tok s r = t at *
    replace hP : Kp _ := ⟨hP⟩
    replace hO : Kp _ := ⟨hO⟩
    clear H O h hA
    go_enter Tryz.func230, Tryz.ntmps230
    go_wp2_with fail
    refine hP.out.mono ?_
    rintro e w1 ⟨rfl, T1⟩
    replace T1 : Kp _ := ⟨T1⟩
    go_wp2_with fail
    refine (hO.out _).mono ?_
    rintro e w2 ⟨rfl, hw⟩
    subst hw
    go_wp2_with fail
    go_ret2
    exact ⟨rfl, T1.out⟩
  · rw [if_neg h]
    have hb : (opOf (tok s r) != 0) = true := bne_iff_ne.2 h
    rw [hb] at hO ⊢
    generalize opOf (tok s r) = op at *
    generalize tok s r = t at *
    replace hP : Kp _ := ⟨hP⟩
    replace hO : Kp _ := ⟨hO⟩
    replace hA : Kp _ := ⟨hA⟩
    clear H O h hb
    go_enter Tryz.func230, Tryz.ntmps230
    go_wp2_with fail
    refine hP.out.mono ?_
    rintro e w1 ⟨rfl, T1⟩
    have hS := skipR_any b s (adv s r) w1 (hA.out w1 T1) O1
    replace hS : Kp _ := ⟨hS⟩
    replace T1 : Kp _ := ⟨T1⟩
    clear hA hP
    go_wp2_with fail
    refine (hO.out _).mono ?_
    rintro e w2 ⟨rfl, hw⟩
    subst hw
    go_wp2_with fail
    refine hS.out.mono ?_
    rintro e w2 ⟨rfl, T2⟩
    go_wp2_with fail
    go_ret2
    exact ⟨rfl, T1.out.trans T2⟩

/-- from what holds all the time -/
theorem Gd.sml {s : ByteArray} {q : Tq} (G : Gd s q) (hp : pot s q ≤ 9000) : Sml q := by
  unfold pot at hp
  exact ⟨by omega, G.h0, G.h1, by omega, G.ll, G.vl⟩
theorem Gd.ok {s : ByteArray} {q : Tq} (G : Gd s q) (hs : s.size ≤ 300) : RdOk s q.r := ⟨hs, G.le⟩
theorem lv_bd {s : ByteArray} {q : Tq} (G : Gd s q) (v : Nat) : 0 ≤ lvOf q v ∧ lvOf q v < 6 := by
  unfold lvOf
  rw [List.getD_eq_getElem?_getD]
  cases h : q.vs[v]? with
  | none => exact ⟨Int.le_refl _, by show (0 : Int) < 6; omega⟩
  | some x => exact G.vb x (List.mem_of_getElem? h)
theorem dig_bd {s : ByteArray} {r : Rd} {n : Int} (h6 : n ≤ 6) : 0 ≤ dig s r 0 (n - 1) ∧ dig s r 0 (n - 1) < 6 := by
  unfold dig
  split
  · rename_i h
    have := of_decide_eq_true h
    omega
  · omega

set_option maxHeartbeats 800000 in
theorem tape_any (b g : Nat) (s : ByteArray) (x : Tq × Sq) (S : Nat → Value) (w : World) (E : ExPre w b s S g x) (G : Gd s x.1) (hs : s.size ≤ 300) (hp : pot s x.1 ≤ 8000) :
    Calls Tryz.prog 238 #[.pointer (some ⟨b, 0, none⟩), .pointer (some ⟨g, 0, none⟩)] w (ExPost b s S g w (tapeQ s x)) := by
  have hT := takeR_any b s x.1.r 36 w E.H.rdAt (G.ok hs)
  have O1 : RdOk s (tk s x.1.r 36) := (G.ok hs).tk (by omega)
  have E0 : Kp (ExPre w b s S g x) := ⟨E⟩
  have hn : 0 ≤ x.1.n ∧ x.1.n ≤ 6 := ⟨G.n0, G.n6⟩
  obtain ⟨l, hl⟩ : ∃ l : Nat, dig s (tk s x.1.r 36) 0 (x.1.n - 1) = l := ⟨(dig s (tk s x.1.r 36) 0 (x.1.n - 1)).toNat, by have := dig_bd (s := s) (r := tk s x.1.r 36) G.n6; omega⟩
  have hl6 : l < 6 := by have := dig_bd (s := s) (r := tk s x.1.r 36) G.n6; omega
  have hQ : tapeQ s x = (emitQ { x.1 with r := digR s (tk s x.1.r 36) 0 (x.1.n - 1) } 10 l, { x.2 with rd := addL x.2.rd l, tp := addL x.2.tp l }) := by unfold tapeQ; rw [hl]
  rw [hQ]
  have G0 : Kp (Gd s x.1) := ⟨G⟩
  replace hp : Kp _ := ⟨hp⟩
  replace hT : Kp _ := ⟨hT⟩
  replace hl : Kp _ := ⟨hl⟩
  clear E G hQ
  go_enter Tryz.func238, Tryz.ntmps238
  go_wp2_with fail
  refine hT.out.mono ?_
  rintro e w1 ⟨rfl, T1⟩
  have E1 := E0.out.rd T1
  have hL := takeLevel_any b s { x.1 with r := tk s x.1.r 36 } S w1 E1.H O1 hn
  have hL : Calls Tryz.prog 90 #[.pointer (some ⟨b, 0, none⟩)] w1 fun e w' => e = .returned (.int .i64 (dig s (tk s x.1.r 36) 0 (x.1.n - 1))) ∧ RdTo w1 w' b (digR s (tk s x.1.r 36) 0 (x.1.n - 1)) := hL
  rw [hl.out] at hL
  replace hL : Kp _ := ⟨hL⟩
  replace E1 : Kp _ := ⟨E1⟩
  replace T1 : Kp _ := ⟨T1⟩
  clear hT
  go_wp2_with fail
  refine hL.out.mono ?_
  rintro e w2 ⟨rfl, T2⟩
  have E2 := E1.out.rd T2
  have hS1 := setAdd_any g 4 l (stV x.2) w2 E2.W hl6 (by show 4 + l < 16; omega)
  have N1 := E2.note (y := { x.2 with rd := addL x.2.rd l }) (stV_rd hl6) (by omega)
  have hS2 := setAdd_any g 10 l (stV { x.2 with rd := addL x.2.rd l }) _ N1.1.W hl6 (by show 10 + l < 16; omega)
  have N2 := N1.1.note (y := { x.2 with rd := addL x.2.rd l, tp := addL x.2.tp l }) (stV_tp (x := { x.2 with rd := addL x.2.rd l }) hl6) (by omega)
  have Gr : Gd s { x.1 with r := digR s (tk s x.1.r 36) 0 (x.1.n - 1) } := G0.out.r (digR_le (by omega) (tk_le G0.out.le (by omega)))
  have Mr := Gr.sml (by
    have h1 := pot_to (q := x.1) (Nat.le_trans (potR_digR s (tk s x.1.r 36) 0 (x.1.n - 1)) (potR_tk s x.1.r 36))
    have h2 := hp.out
    exact Nat.le_trans h1 (by omega))
  have hE := emit_any b s { x.1 with r := digR s (tk s x.1.r 36) 0 (x.1.n - 1) } S 10 l _ N2.1.H Mr (by omega)
  have TT : TrTo b g S S w ((w2.setCell ⟨g, 4 + l, none⟩ (.bool true)).setCell ⟨g, 10 + l, none⟩ (.bool true)) := ((TrTo.rd T1.out).trans (TrTo.rd T2)).trans (N1.2.trans N2.2)
  replace hS1 : Kp _ := ⟨hS1⟩
  replace hS2 : Kp _ := ⟨hS2⟩
  replace hE : Kp _ := ⟨hE⟩
  replace N2 : Kp _ := ⟨N2⟩
  replace TT : Kp _ := ⟨TT⟩
  clear hL E1 T1 E2 N1 T2 Gr Mr
  go_wp2_with fail
  refine hS1.out.mono ?_
  rintro e w3 ⟨rfl, hw⟩
  subst hw
  go_wp2_with fail
  refine hS2.out.mono ?_
  rintro e w3 ⟨rfl, hw⟩
  subst hw
  go_wp2_with fail
  refine hE.out.mono ?_
  rintro e w3 ⟨rfl, S', A3, T3⟩
  have E3 := N2.out.1.tr A3 T3
  replace E3 : Kp _ := ⟨E3⟩
  replace T3 : Kp _ := ⟨T3⟩
  clear A3
  go_wp2_with fail
  first | go_end0 | refine bodyPost_ret (results_none rfl _ _ _) rfl ?_
  exact ⟨rfl, S', E3.out, TT.out.trans T3.out.up⟩

set_option maxHeartbeats 800000 in
theorem letter_any (b g : Nat) (s : ByteArray) (x : Tq × Sq) (S : Nat → Value) (w : World) (E : ExPre w b s S g x) (G : Gd s x.1) (hs : s.size ≤ 300) (hp : pot s x.1 ≤ 8000) :
    Calls Tryz.prog 239 #[.pointer (some ⟨b, 0, none⟩), .pointer (some ⟨g, 0, none⟩)] w (ExPost b s S g w (lettQ s x)) := by
  have hT := takeVariable_any b s x.1 S w E.H (G.sml (by omega)) (G.ok hs)
  have E0 : Kp (ExPre w b s S g x) := ⟨E⟩
  have hvv := lv_bd G (varI s x.1.r x.1.ls)
  obtain ⟨l, hl⟩ : ∃ l : Nat, lvOf x.1 (varI s x.1.r x.1.ls) = l := ⟨(lvOf x.1 (varI s x.1.r x.1.ls)).toNat, by omega⟩
  have hl6 : l < 6 := by omega
  have hQ : lettQ s x = (emitQ { x.1 with r := varR s x.1.r x.1.ls } 1 (varI s x.1.r x.1.ls), { x.2 with rd := addL x.2.rd l }) := by unfold lettQ; rw [hl]
  rw [hQ]
  have G0 : Kp (Gd s x.1) := ⟨G⟩
  obtain ⟨vi, hvi⟩ : ∃ vi, varI s x.1.r x.1.ls = vi := ⟨_, rfl⟩
  rw [hvi] at hT hl ⊢
  replace hp : Kp _ := ⟨hp⟩
  replace hT : Kp _ := ⟨hT⟩
  replace hl : Kp _ := ⟨hl⟩
  clear E G hQ hvv hvi
  go_enter Tryz.func239, Tryz.ntmps239
  go_wp2_with fail
  refine hT.out.mono ?_
  rintro e w1 ⟨rfl, T1⟩
  have E1 := E0.out.rd T1
  have Gr : Gd s { x.1 with r := varR s x.1.r x.1.ls } := G0.out.r (varR_le G0.out.le)
  have Mr := Gr.sml (by
    have h1 := pot_to (q := x.1) (potR_varR s x.1.r x.1.ls)
    have h2 := hp.out
    exact Nat.le_trans h1 (by omega))
  have hL := levelOf_any b s { x.1 with r := varR s x.1.r x.1.ls } S vi w1 E1.H Mr (fun y hy => by have := G0.out.vb y hy; omega)
  have hL : Calls Tryz.prog 217 #[.pointer (some ⟨b, 0, none⟩), .int .i64 vi] w1 fun e w' => e = .returned (.int .i64 (lvOf x.1 vi)) ∧ w' = w1 := hL
  rw [hl.out] at hL
  have hS1 := setAdd_any g 4 l (stV x.2) w1 E1.W hl6 (by show 4 + l < 16; omega)
  have N1 := E1.note (y := { x.2 with rd := addL x.2.rd l }) (stV_rd hl6) (by omega)
  have hE := emit_any b s { x.1 with r := varR s x.1.r x.1.ls } S 1 vi _ N1.1.H Mr (by omega)
  have TT : TrTo b g S S w (w1.setCell ⟨g, 4 + l, none⟩ (.bool true)) := (TrTo.rd T1).trans N1.2
  replace hL : Kp _ := ⟨hL⟩
  replace hS1 : Kp _ := ⟨hS1⟩
  replace hE : Kp _ := ⟨hE⟩
  replace N1 : Kp _ := ⟨N1⟩
  replace TT : Kp _ := ⟨TT⟩
  clear hT E1 T1 Gr Mr
  go_wp2_with fail
  refine hL.out.mono ?_
  rintro e w3 ⟨rfl, hw⟩
  subst hw
  go_wp2_with fail
  refine hS1.out.mono ?_
  rintro e w3 ⟨rfl, hw⟩
  subst hw
  go_wp2_with fail
  refine hE.out.mono ?_
  rintro e w3 ⟨rfl, S', A3, T3⟩
  have E3 := N1.out.1.tr A3 T3
  replace E3 : Kp _ := ⟨E3⟩
  replace T3 : Kp _ := ⟨T3⟩
  clear A3
  go_wp2_with fail
  first | go_end0 | refine bodyPost_ret (results_none rfl _ _ _) rfl ?_
  exact ⟨rfl, S', E3.out, TT.out.trans T3.out.up⟩
end Go.Proofs.YtcnbifdlkalimabGreat

/-
  The walks of the package translation, eighth part: terms and expressions; for every translator.
-/
namespace Go.Proofs.YtcnbifdlkalimabGreat
open Go.RowKit
set_option linter.unusedVariables false
set_option maxRecDepth 100000

/-- expressions are read so, as long as fewer than k bytes are left -/
def ExGo (b g : Nat) (s : ByteArray) (k : Nat) : Prop := ∀ (x : Tq × Sq) (S : Nat → Value) (w : World), ExPre w b s S g x → Gd s x.1 → rem s x.1.r < k → pot s x.1 ≤ 7000 →
  Calls Tryz.prog 211 #[.pointer (some ⟨b, 0, none⟩), .pointer (some ⟨g, 0, none⟩)] w (ExPost b s S g w (exprQ s k x))

set_option maxHeartbeats 1600000 in
theorem term_any (b g : Nat) (s : ByteArray) (hs : s.size ≤ 300) (k : Nat) (ih : Kp (ExGo b g s k)) (q : Tq) (x2 : Sq) (S : Nat → Value) (w : World) (E : ExPre w b s S g (q, x2)) (G : Gd s q) (hk : rem s q.r ≤ k) (hp : pot s q ≤ 7002) :
    Calls Tryz.prog 229 #[.pointer (some ⟨b, 0, none⟩), .pointer (some ⟨g, 0, none⟩)] w (ExPost b s S g w (termQ s (exprQ s k) (q, x2))) := by
  have hP := peekR_any b s q.r w E.H.rdAt (G.ok hs)
  have E0 : Kp (∀ w1, RdTo w w1 b (adv s q.r) → ExPre w1 b s S g ({ q with r := adv s q.r }, x2)) := ⟨fun w1 T => E.rd T⟩
  have Ga : Gd s { q with r := adv s q.r } := G.r (adv_le G.le)
  have pa : pot s { q with r := adv s q.r } ≤ 7002 := Nat.le_trans (pot_to (potR_adv s q.r)) hp
  have hD := fun w1 => isDigit_any (tok s q.r) w1
  obtain ⟨y, hy⟩ : ∃ y, termQ s (exprQ s k) (q, x2) = y := ⟨_, rfl⟩
  rw [hy]
  unfold termQ at hy
  dsimp only at hy
  by_cases h1 : 48 ≤ tok s q.r ∧ tok s q.r ≤ 57
  · rw [if_pos h1] at hy
    rw [decide_eq_true h1] at hD
    obtain ⟨h1, h2⟩ := h1
    obtain ⟨nv, hnv⟩ : ∃ nv, num s (adv s q.r) = nv := ⟨_, rfl⟩
    have hN : Kp (∀ w1, RdTo w w1 b (adv s q.r) → Calls Tryz.prog 237 #[.pointer (some ⟨b, 0, none⟩)] w1 fun e w' => e = .returned (.int .i64 nv.1) ∧ RdTo w1 w' b nv.2) := ⟨fun w1 T => by rw [← hnv]; exact takeNumber_any b s (adv s q.r) w1 (E.rd T).H.rdAt (Ga.ok hs)⟩
    have Gn : Gd s { q with r := nv.2 } := G.r (by rw [← hnv]; exact numF_le _ _ _ (adv_le G.le))
    have pn : pot s { q with r := nv.2 } ≤ 9000 := by
      have h3 := pot_to (q := q) (Nat.le_trans (potR_num s (adv s q.r)) (potR_adv s q.r))
      rw [hnv] at h3
      exact Nat.le_trans h3 (by omega)
    have hE : Kp (∀ w1, RdTo w w1 b nv.2 → Calls Tryz.prog 212 #[.pointer (some ⟨b, 0, none⟩), .int .i64 0, .int .i64 nv.1] w1 fun e w' => e = .returned (.tuple #[]) ∧ ∃ S', TrAt w' b s y.1 S' ∧ TrTo b b S S' w1 w') := ⟨fun w1 T => by
      rw [← hy, hnv]
      exact emit_any b s { q with r := nv.2 } S 0 nv.1 w1 (E.rd T).H (Gn.sml pn) (by omega)⟩
    have hy2 : Kp (y.2 = x2) := ⟨by rw [← hy]⟩
    have E1 : Kp (∀ w1, RdTo w w1 b nv.2 → ExPre w1 b s S g ({ q with r := nv.2 }, x2)) := ⟨fun w1 T => E.rd T⟩
    replace hP : Kp _ := ⟨hP⟩
    replace hD : Kp _ := ⟨hD⟩
    clear Ga pa hy hnv Gn pn E G hk hp
    generalize tok s q.r = t at *
    go_enter Tryz.func229, Tryz.ntmps229
    go_wp2_with fail
    refine hP.out.mono ?_
    rintro e w1 ⟨rfl, T1⟩
    replace T1 : Kp _ := ⟨T1⟩
    go_wp2_with fail
    refine (hD.out _).mono ?_
    rintro e w2 ⟨rfl, hw⟩
    subst hw
    go_wp2_with fail
    refine (hN.out _ T1.out).mono ?_
    rintro e w2 ⟨rfl, T2⟩
    have T12 : Kp _ := ⟨T1.out.trans T2⟩
    clear T2
    go_wp2_with fail
    refine (hE.out _ T12.out).mono ?_
    rintro e w3 ⟨rfl, S', A3, T3⟩
    have E3 := (E1.out _ T12.out).tr A3 T3
    replace E3 : Kp _ := ⟨E3⟩
    replace T3 : Kp _ := ⟨T3⟩
    clear A3
    go_wp2_with fail
    first | go_end0 | refine bodyPost_ret (results_none rfl _ _ _) rfl ?_
    exact ⟨rfl, S', by have h := E3.out; rw [← hy2.out] at h; exact h, (TrTo.rd T12.out).trans T3.out.up⟩
  · rw [if_neg h1] at hy
    rw [decide_eq_false h1] at hD
    by_cases h2 : tok s q.r = 36
    · rw [if_pos h2] at hy
      rw [h2] at hP hD
      have hT : Kp (∀ w1, RdTo w w1 b (adv s q.r) → Calls Tryz.prog 238 #[.pointer (some ⟨b, 0, none⟩), .pointer (some ⟨g, 0, none⟩)] w1 (ExPost b s S g w1 y)) := ⟨fun w1 T => by
        rw [← hy]
        exact tape_any b g s ({ q with r := adv s q.r }, x2) S w1 (E.rd T) Ga hs (by show pot s { q with r := adv s q.r } ≤ 8000; omega)⟩
      replace hP : Kp _ := ⟨hP⟩
      replace hD : Kp _ := ⟨hD⟩
      clear Ga pa hy E G hk hp h1 h2
      go_enter Tryz.func229, Tryz.ntmps229
      go_wp2_with fail
      refine hP.out.mono ?_
      rintro e w1 ⟨rfl, T1⟩
      replace T1 : Kp _ := ⟨T1⟩
      go_wp2_with fail
      refine (hD.out _).mono ?_
      rintro e w2 ⟨rfl, hw⟩
      subst hw
      go_wp2_with fail
      refine (hT.out _ T1.out).mono ?_
      rintro e w2 ⟨rfl, S', E2, T2⟩
      replace E2 : Kp _ := ⟨E2⟩
      replace T2 : Kp _ := ⟨T2⟩
      go_wp2_with fail
      first | go_end0 | refine bodyPost_ret (results_none rfl _ _ _) rfl ?_
      exact ⟨rfl, S', E2.out, (TrTo.rd T1.out).trans T2.out⟩
    · rw [if_neg h2] at hy
      have k2 : (tok s q.r == 36) = false := beq_eq_false_iff_ne.2 h2
      by_cases h3 : tok s q.r = 40
      · rw [if_pos h3] at hy
        have hlt := rem_tok (s := s) (r := q.r) (by omega)
        have hpt := potR_tok (s := s) (r := q.r) (by omega)
        have Gn : Gd s { q with r := nx (adv s q.r) } := G.r (nxt_le (by omega))
        have pn : pot s { q with r := nx (adv s q.r) } ≤ 7000 := by
          have := pot_with s q (nx (adv s q.r))
          have := pot_r s q
          omega
        obtain ⟨u, hu⟩ : ∃ u, exprQ s k ({ q with r := nx (adv s q.r) }, x2) = u := ⟨_, rfl⟩
        rw [hu] at hy
        have hS : Kp (∀ w1, RdTo w w1 b (adv s q.r) → Calls Tryz.prog 160 #[.pointer (some ⟨b, 0, none⟩)] w1 fun e w' => e = .returned (.tuple #[]) ∧ RdTo w1 w' b (nx (adv s q.r))) := ⟨fun w1 T => skipR_any b s (adv s q.r) w1 (E.rd T).H.rdAt (Ga.ok hs)⟩
        have hX : Kp (∀ w1, RdTo w w1 b (nx (adv s q.r)) → Calls Tryz.prog 211 #[.pointer (some ⟨b, 0, none⟩), .pointer (some ⟨g, 0, none⟩)] w1 (ExPost b s S g w1 u)) := ⟨fun w1 T => by
          rw [← hu]
          exact ih.out ({ q with r := nx (adv s q.r) }, x2) S w1 (E.rd T) Gn (by show rem s (nx (adv s q.r)) < k; omega) pn⟩
        have Gu : Gd s u.1 := by rw [← hu]; exact gd_expr k _ Gn
        have hK : Kp (∀ w1 S1, ExPre w1 b s S1 g u → Calls Tryz.prog 92 #[.pointer (some ⟨b, 0, none⟩), .int .u8 41] w1 fun e w' => e = .returned (.tuple #[]) ∧ RdTo w1 w' b (tk s u.1.r 41)) := ⟨fun w1 S1 E1 => takeR_any b s u.1.r 41 w1 E1.H.rdAt (Gu.ok hs)⟩
        rw [h3] at hP hD
        replace hP : Kp _ := ⟨hP⟩
        replace hD : Kp _ := ⟨hD⟩
        replace hy : Kp _ := ⟨hy⟩
        clear Ga pa E G hk hp h1 h2 h3 k2 Gn pn hu Gu hlt hpt E0
        go_enter Tryz.func229, Tryz.ntmps229
        go_wp2_with fail
        refine hP.out.mono ?_
        rintro e w1 ⟨rfl, T1⟩
        replace T1 : Kp _ := ⟨T1⟩
        go_wp2_with fail
        refine (hD.out _).mono ?_
        rintro e w2 ⟨rfl, hw⟩
        subst hw
        go_wp2_with fail
        refine (hS.out _ T1.out).mono ?_
        rintro e w2 ⟨rfl, T2⟩
        have T12 : Kp _ := ⟨T1.out.trans T2⟩
        clear T1 T2
        go_wp2_with fail
        refine (hX.out _ T12.out).mono ?_
        rintro e w3 ⟨rfl, S', E3, T3⟩
        replace E3 : Kp _ := ⟨E3⟩
        replace T3 : Kp _ := ⟨T3⟩
        go_wp2_with fail
        refine (hK.out _ _ E3.out).mono ?_
        rintro e w4 ⟨rfl, T4⟩
        have E4 := E3.out.rd T4
        replace E4 : Kp _ := ⟨E4⟩
        replace T4 : Kp _ := ⟨T4⟩
        go_wp2_with fail
        first | go_end0 | refine bodyPost_ret (results_none rfl _ _ _) rfl ?_
        exact ⟨rfl, S', by rw [← hy.out]; exact E4.out, ((TrTo.rd T12.out).trans T3.out).trans (TrTo.rd T4.out)⟩
      · rw [if_neg h3] at hy
        have k3 : (tok s q.r == 40) = false := beq_eq_false_iff_ne.2 h3
        have hT : Kp (∀ w1, RdTo w w1 b (adv s q.r) → Calls Tryz.prog 239 #[.pointer (some ⟨b, 0, none⟩), .pointer (some ⟨g, 0, none⟩)] w1 (ExPost b s S g w1 y)) := ⟨fun w1 T => by
          rw [← hy]
          exact letter_any b g s ({ q with r := adv s q.r }, x2) S w1 (E.rd T) Ga hs (by show pot s { q with r := adv s q.r } ≤ 8000; omega)⟩
        generalize tok s q.r = t at *
        replace hP : Kp _ := ⟨hP⟩
        replace hD : Kp _ := ⟨hD⟩
        clear Ga pa hy E G hk hp h1 h2 h3
        go_enter Tryz.func229, Tryz.ntmps229
        go_wp2_with fail
        refine hP.out.mono ?_
        rintro e w1 ⟨rfl, T1⟩
        replace T1 : Kp _ := ⟨T1⟩
        go_wp2_with fail
        refine (hD.out _).mono ?_
        rintro e w2 ⟨rfl, hw⟩
        subst hw
        go_wp2_with fail
        refine (hT.out _ T1.out).mono ?_
        rintro e w2 ⟨rfl, S', E2, T2⟩
        replace E2 : Kp _ := ⟨E2⟩
        replace T2 : Kp _ := ⟨T2⟩
        go_wp2_with fail
        first | go_end0 | refine bodyPost_ret (results_none rfl _ _ _) rfl ?_
        exact ⟨rfl, S', E2.out, (TrTo.rd T1.out).trans T2.out⟩

/-- a bound for the loop -/
def muR (s : ByteArray) (r : Rd) : Nat := rem s r + (if r.er = 0 then 1 else 0)

set_option maxHeartbeats 1600000 in
theorem expression_any (b g : Nat) (s : ByteArray) (hs : s.size ≤ 300) : ∀ k, ExGo b g s k
  | 0 => fun x S w E G hk hp => by omega
  | k + 1 => by
    have ih : Kp (ExGo b g s k) := ⟨expression_any b g s hs k⟩
    rintro ⟨q, x2⟩ S w E G hk hp
    have hk : rem s q.r < k + 1 := hk
    have hp : pot s q ≤ 7000 := hp
    have G : Gd s q := G
    obtain ⟨y0, hy0⟩ : ∃ y0, termQ s (exprQ s k) (q, x2) = y0 := ⟨_, rfl⟩
    have hT := term_any b g s hs k ih q x2 S w E G (by omega) (by omega)
    rw [hy0] at hT
    have hQ : exprQ s (k + 1) (q, x2) = moreQ s (termQ s (exprQ s k)) k y0 := by simp only [exprQ]; rw [hy0]
    rw [hQ]
    have G0 : Kp (Gd s y0.1) := ⟨by rw [← hy0]; exact gd_term (gd_expr k) G⟩
    have p0 : Kp (pot s y0.1 ≤ 7002) := ⟨by rw [← hy0]; exact Nat.le_trans (pot_term s _ (pot_expr s k) (q, x2)) (by show pot s q + 2 ≤ 7002; omega)⟩
    have r0 : Kp (rem s y0.1.r ≤ k) := ⟨by
      have h := (term_sim s k (expr_sim s k) (q, x2) ⟨q.r, q.n, q.ls, q.vs, [], []⟩ ⟨rfl, rfl, rfl, rfl⟩ (by show rem s q.r ≤ k; omega))
      rw [← hy0, h.r]
      have := h.le
      have c : rem s (⟨q.r, q.n, q.ls, q.vs, [], []⟩ : Rs).r = rem s q.r := rfl
      omega⟩
    have hO : Kp (∀ (x : Tq × Sq) w1 S1, ExPre w1 b s S1 g x → Gd s x.1 → Calls Tryz.prog 230 #[.pointer (some ⟨b, 0, none⟩)] w1 fun e w' => e = .returned (.tuple #[.int .i64 (opOf (tok s x.1.r)), .bool (opOf (tok s x.1.r) != 0)]) ∧ RdTo w1 w' b (opR s x.1.r)) := ⟨fun x w1 S1 E1 G1 => takeOperator_any b s x.1.r w1 E1.H.rdAt (G1.ok hs)⟩
    obtain ⟨fin, hfin⟩ : ∃ fin, moreQ s (termQ s (exprQ s k)) k y0 = fin := ⟨_, rfl⟩
    rw [hfin]
    replace hT : Kp _ := ⟨hT⟩
    replace hfin : Kp _ := ⟨hfin⟩
    clear E G hk hp hy0 hQ
    go_enter Tryz.func211, Tryz.ntmps211
    go_wp2_with fail
    refine hT.out.mono ?_
    rintro e w1 ⟨rfl, S1, E1, T1⟩
    replace E1 : Kp _ := ⟨E1⟩
    replace T1 : Kp _ := ⟨T1⟩
    clear hT
    go_wp2_with fail
    refine (hO.out y0 _ _ E1.out G0.out).mono ?_
    rintro e w2 ⟨rfl, T2⟩
    replace T2 : Kp _ := ⟨T2⟩
    go_wp2_with fail
    go_loopg [4, 5] (rem s y0.1.r) (fun gm ov kv wr => ∃ (j : Nat) (x : Tq × Sq) (S' : Nat → Value), ov = .int .i64 (opOf (tok s x.1.r)) ∧ kv = .bool (opOf (tok s x.1.r) != 0) ∧ Kp (ExPre wr b s S' g ({ x.1 with r := opR s x.1.r }, x.2)) ∧ Kp (Gd s x.1) ∧ Kp (pot s x.1 ≤ 7002) ∧ Kp (rem s x.1.r ≤ j ∧ rem s x.1.r ≤ k) ∧ Kp (moreQ s (termQ s (exprQ s k)) j x = fin) ∧ Kp (TrTo b g S S' w wr) ∧ Kp (gm = rem s x.1.r))
    case atStart => exact ⟨k, y0, S1, rfl, rfl, ⟨E1.out.rd T2.out⟩, G0, p0, ⟨r0.out, r0.out⟩, hfin, ⟨T1.out.trans (TrTo.rd T2.out)⟩, ⟨rfl⟩⟩
    case round =>
      clear E1 T1 T2 G0 p0 r0 hfin
      obtain ⟨j, ⟨q1, x1⟩, S', rfl, rfl, hE, hG, hP, hR, hM, hT, hm⟩ := hrel
      have hE : Kp (ExPre wr b s S' g ({ q1 with r := opR s q1.r }, x1)) := hE
      have hG : Kp (Gd s q1) := hG
      have hP : Kp (pot s q1 ≤ 7002) := hP
      have hR : Kp (rem s q1.r ≤ j ∧ rem s q1.r ≤ k) := hR
      have hm : Kp (gk = rem s q1.r) := hm
      by_cases h0 : opOf (tok s q1.r) = 0
      · have e1 : Kp (fin = ({ q1 with r := adv s q1.r }, x1)) := ⟨by
          rw [← hM.out]
          cases j with
          | zero => rfl
          | succ j => simp only [moreQ]; rw [if_pos h0]⟩
        have hE2 : Kp (ExPre wr b s S' g fin) := ⟨by rw [e1.out]; have := hE.out; unfold opR at this; rw [if_pos h0] at this; exact this⟩
        have hq : (opOf (tok s q1.r) != 0) = false := by rw [h0]; rfl
        show Code.wp _ _ _ _ _
        rw [show (opOf (tok s (q1, x1).1.r) != 0) = false from hq]
        generalize opOf (tok s (q1, x1).1.r) = op at *
        clear hE hG hP hR hM hm h0 hq e1
        go_wp2_with fail
        first | go_end0 | refine bodyPost_ret (results_none rfl _ _ _) rfl ?_
        exact ⟨rfl, S', hE2.out, hT.out⟩
      · have hpos := opOf_pos h0
        have hlt := rem_tok (s := s) (r := q1.r) hpos.1
        have hpt := potR_tok (s := s) (r := q1.r) hpos.1
        have hj := hR.out
        obtain ⟨j, rfl⟩ : ∃ i, j = i + 1 := ⟨j - 1, by omega⟩
        have Gn : Gd s { q1 with r := nx (adv s q1.r) } := hG.out.r (nxt_le hpos.1)
        have pn : pot s { q1 with r := nx (adv s q1.r) } ≤ 6994 := by
          have := pot_with s q1 (nx (adv s q1.r))
          have := pot_r s q1
          have := hP.out
          omega
        have hE1 : ExPre wr b s S' g ({ q1 with r := nx (adv s q1.r) }, x1) := by have := hE.out; unfold opR at this; rw [if_neg h0] at this; exact this
        have hT1 := term_any b g s hs k ih { q1 with r := nx (adv s q1.r) } x1 S' wr hE1 Gn (by show rem s (nx (adv s q1.r)) ≤ k; omega) (by omega)
        obtain ⟨u, hu⟩ : ∃ u, termQ s (exprQ s k) ({ q1 with r := nx (adv s q1.r) }, x1) = u := ⟨_, rfl⟩
        rw [hu] at hT1
        have Gu : Gd s u.1 := by rw [← hu]; exact gd_term (gd_expr k) Gn
        have pu : pot s u.1 ≤ 7000 := by rw [← hu]; exact Nat.le_trans (pot_term s _ (pot_expr s k) ({ q1 with r := nx (adv s q1.r) }, x1)) (by show pot s { q1 with r := nx (adv s q1.r) } + 2 ≤ 7000; omega)
        have ru : rem s u.1.r ≤ rem s (nx (adv s q1.r)) := by
          have h := (term_sim s k (expr_sim s k) ({ q1 with r := nx (adv s q1.r) }, x1) ⟨nx (adv s q1.r), q1.n, q1.ls, q1.vs, [], []⟩ ⟨rfl, rfl, rfl, rfl⟩ (by show rem s (nx (adv s q1.r)) ≤ k; omega))
          rw [← hu, h.r]
          exact h.le
        have hM2 : moreQ s (termQ s (exprQ s k)) j (emitQ u.1 (opOf (tok s q1.r)) 0, u.2) = fin := by
          rw [← hM.out]
          simp only [moreQ]
          rw [if_neg h0, hu]
        have hEm : Kp (∀ w1 S1, ExPre w1 b s S1 g u → Calls Tryz.prog 212 #[.pointer (some ⟨b, 0, none⟩), .int .i64 (opOf (tok s q1.r)), .int .i64 0] w1 fun e w' => e = .returned (.tuple #[]) ∧ ∃ S', TrAt w' b s (emitQ u.1 (opOf (tok s q1.r)) 0) S' ∧ TrTo b b S1 S' w1 w') := ⟨fun w1 S1 E1 => emit_any b s u.1 S1 _ 0 w1 E1.H (Gu.sml (by omega)) (by omega)⟩
        have Ge : Kp (Gd s (emitQ u.1 (opOf (tok s q1.r)) 0)) := ⟨Gu.emit _ _⟩
        have pe : Kp (pot s (emitQ u.1 (opOf (tok s q1.r)) 0) ≤ 7002) := ⟨by rw [pot_emit]; omega⟩
        have re : Kp (rem s u.1.r ≤ j ∧ rem s u.1.r ≤ k ∧ rem s u.1.r < rem s q1.r) := ⟨by omega⟩
        have hq : (opOf (tok s q1.r) != 0) = true := bne_iff_ne.2 h0
        rw [show (opOf (tok s (q1, x1).1.r) != 0) = true from hq]
        have hop : opOf (tok s (q1, x1).1.r) = opOf (tok s q1.r) := rfl
        rw [hop]
        generalize opOf (tok s q1.r) = op at *
        replace hT1 : Kp _ := ⟨hT1⟩
        replace hM2 : Kp _ := ⟨hM2⟩
        clear hop hq h0 hpos hlt hpt hj Gn pn hE1 Gu pu ru hM hE hG hP hR hu
        go_wp2_with fail
        refine hT1.out.mono ?_
        rintro e w3 ⟨rfl, S3, E3, T3⟩
        replace E3 : Kp _ := ⟨E3⟩
        replace T3 : Kp _ := ⟨T3⟩
        go_wp2_with fail
        refine (hEm.out _ _ E3.out).mono ?_
        rintro e w4 ⟨rfl, S4, A4, T4⟩
        have E4 := E3.out.tr A4 T4
        replace E4 : Kp _ := ⟨E4⟩
        replace T4 : Kp _ := ⟨T4⟩
        clear A4
        go_wp2_with fail
        refine (hO.out _ _ _ E4.out Ge.out).mono ?_
        rintro e w5 ⟨rfl, T5⟩
        replace T5 : Kp _ := ⟨T5⟩
        go_wp2_with fail
        go_roundg (rem s u.1.r)
        case measure => have h1 := hm.out; have h2 := re.out; omega
        case rel => exact ⟨j, (emitQ u.1 op 0, u.2), S4, rfl, rfl, ⟨E4.out.rd T5.out⟩, Ge, pe, ⟨re.out.1, re.out.2.1⟩, hM2, ⟨(hT.out.trans T3.out).trans (T4.out.up.trans (TrTo.rd T5.out))⟩, ⟨rfl⟩⟩
end Go.Proofs.YtcnbifdlkalimabGreat

/-
  The walks of the package translation, ninth part: a statement more; for every translator.
-/
namespace Go.Proofs.YtcnbifdlkalimabGreat
open Go.RowKit
set_option linter.unusedVariables false
set_option maxRecDepth 100000

/-- append of elements of several cells to a row of one's own, as one step of a region that draws -/
theorem step_append_row {P : Program} {ops : Array Oper} {o : Oper} {a : Act} {w : World} {K : Act → World → Prop} {Q : Exit → Act → World → Prop} {E : Prop}
    (hgd : o.guard = none) (s x : Operand) (t : TypeId) (ho : o.op = Op.call { callee := Callee.builtin Builtin.append, args := #[s, x], argTypes := #[t, t] })
    (base : Nat) (e : TypeId) (i : TypeInfo) (z : Value) (size bytes : Nat) (ht : P.underlying t = some (.slice e)) (hi : P.info? e = some i) (hz : i.zero = some z)
    (hsize : i.size = size) (hby : i.bytes = bytes) (hzs : z.cells.size = size) (hsz : 0 < size)
    (v : Value) (n : Nat) (xs : List Value) (hs : a.eval s = v) (hown : w.ownsRow base e size v n xs)
    (ad : Addr) (news : List Value) (hx : a.eval x = .slice (some ad) 1 1) (hl : news.length = 1 * size) (hu : ∀ j u, news[j]? = some u → w.cell? (ad.add j) = some u) (h1 : ∀ u ∈ news, u.oneCell' = true)
    (h63 : n + 1 ≤ maxLen) (hbytes : (n + 1) * bytes ≤ 140737488355328) (hbase : base ≤ w.heap.size)
    (hK : ∀ v' w', w'.ownsRow base e size v' (n + 1) (xs ++ news) → w.grownBy w' v.ownBlock → (v'.ownBlock = v.ownBlock ∨ v'.ownBlock = some w.heap.size) → K (a.put o.dst v') w') :
    if Region.wanted o (yielded ops a.tmps) = true then Oper.wp P o a w K Q else E := by
  have hw : Region.wanted o (yielded ops a.tmps) = true := by simp [Region.wanted, hgd]
  rw [if_pos hw]
  obtain ⟨v', w', hr, h2, h3, _, h5⟩ := run_append_own_at (P := P) w base t o.type e i z size bytes ht hi hz hsize hby hzs hsz v n xs hown ad 1 1 news hl hu h1 h63 hbytes hbase
  unfold Oper.wp execOp
  simp only [ho, resolve, invoke, builtin, Sem.run_bind, Sem.run_pure, Result.andThen_ok, List.map_toArray, List.map_cons, List.map_nil, hs, hx, hr]
  exact hK v' w' h2 h3 h5

/-- a statement as a value -/
def stA (x : Sq) : Value := .agg #[.int .i64 x.k, .int .i64 x.pl, .int .i64 x.ou, .int .i64 x.ta, .bool (x.rd 0), .bool (x.rd 1), .bool (x.rd 2), .bool (x.rd 3), .bool (x.rd 4), .bool (x.rd 5), .bool (x.tp 0), .bool (x.tp 1), .bool (x.tp 2), .bool (x.tp 3), .bool (x.tp 4), .bool (x.tp 5)]

theorem info_st : (Tryz.prog.info? 109).map (fun i => (i.zero, i.size, i.bytes)) = some (some (.agg #[.int .i64 0, .int .i64 0, .int .i64 0, .int .i64 0, .bool false, .bool false, .bool false, .bool false, .bool false, .bool false, .bool false, .bool false, .bool false, .bool false, .bool false, .bool false]), 16, 48) := by kernel_rfl

theorem own16 (w : World) (x : Sq) (t : TypeId) : Own (w.alloc (.cells #[.int .i64 x.k, .int .i64 x.pl, .int .i64 x.ou, .int .i64 x.ta, .bool (x.rd 0), .bool (x.rd 1), .bool (x.rd 2), .bool (x.rd 3), .bool (x.rd 4), .bool (x.rd 5), .bool (x.tp 0), .bool (x.tp 1), .bool (x.tp 2), .bool (x.tp 3), .bool (x.tp 4), .bool (x.tp 5)] t)) w.heap.size (stV x) := by
  refine ⟨by simp, ?_, ?_⟩
  · intro i v hv
    have hi : i < 16 := by have := (List.getElem?_eq_some_iff.1 hv).1; simpa [stV] using this
    have e : (w.alloc (.cells #[.int .i64 x.k, .int .i64 x.pl, .int .i64 x.ou, .int .i64 x.ta, .bool (x.rd 0), .bool (x.rd 1), .bool (x.rd 2), .bool (x.rd 3), .bool (x.rd 4), .bool (x.rd 5), .bool (x.tp 0), .bool (x.tp 1), .bool (x.tp 2), .bool (x.tp 3), .bool (x.tp 4), .bool (x.tp 5)] t)).cell? ⟨w.heap.size, i, none⟩ = (stV x)[i]? := by
      match i, hi with
      | 0, _ => simp [go_sem, stV]
      | 1, _ => simp [go_sem, stV]
      | 2, _ => simp [go_sem, stV]
      | 3, _ => simp [go_sem, stV]
      | 4, _ => simp [go_sem, stV]
      | 5, _ => simp [go_sem, stV]
      | 6, _ => simp [go_sem, stV]
      | 7, _ => simp [go_sem, stV]
      | 8, _ => simp [go_sem, stV]
      | 9, _ => simp [go_sem, stV]
      | 10, _ => simp [go_sem, stV]
      | 11, _ => simp [go_sem, stV]
      | 12, _ => simp [go_sem, stV]
      | 13, _ => simp [go_sem, stV]
      | 14, _ => simp [go_sem, stV]
      | 15, _ => simp [go_sem, stV]
    rw [e]
    exact hv
  · intro i v hv
    have hi : i < 16 := by have := (List.getElem?_eq_some_iff.1 hv).1; simpa [stV] using this
    match i, hi with
    | 0, _ => simp [go_sem]
    | 1, _ => simp [go_sem]
    | 2, _ => simp [go_sem]
    | 3, _ => simp [go_sem]
    | 4, _ => simp [go_sem]
    | 5, _ => simp [go_sem]
    | 6, _ => simp [go_sem]
    | 7, _ => simp [go_sem]
    | 8, _ => simp [go_sem]
    | 9, _ => simp [go_sem]
    | 10, _ => simp [go_sem]
    | 11, _ => simp [go_sem]
    | 12, _ => simp [go_sem]
    | 13, _ => simp [go_sem]
    | 14, _ => simp [go_sem]
    | 15, _ => simp [go_sem]

set_option maxHeartbeats 1600000 in
theorem add_any (b : Nat) (s : ByteArray) (q : Tq) (S : Nat → Value) (x : Sq) (w : World) (H : TrAt w b s q S) (M : Sml q) :
    Calls Tryz.prog 213 #[.pointer (some ⟨b, 0, none⟩), stA x] w fun e w' => e = .returned (.int .i64 q.ss.length) ∧ ∃ S', TrAt w' b s (addQ q x) S' ∧ TrTo b b S S' w w' := by
  have c := H.c 3 (by omega)
  have c : w.cell? ⟨b, 46, none⟩ = some (S 3) := c
  have hlt := H.lt
  have hl := M.ss
  obtain ⟨i0, hi0, hz0, hz1, hz2⟩ := infoParts info_st
  have hrow : w.ownsRow (b + 1) 109 16 (S 3) q.ss.length (q.ss.flatMap stV) := H.o 3 (by omega)
  have hnb : some b ≠ (S 3).ownBlock := fun e => by have := (hrow.lt _ e.symm).1; omega
  obtain ⟨wa, hwa⟩ : ∃ wa, wa = w.alloc (.cells #[.int .i64 x.k, .int .i64 x.pl, .int .i64 x.ou, .int .i64 x.ta, .bool (x.rd 0), .bool (x.rd 1), .bool (x.rd 2), .bool (x.rd 3), .bool (x.rd 4), .bool (x.rd 5), .bool (x.tp 0), .bool (x.tp 1), .bool (x.tp 2), .bool (x.tp 3), .bool (x.tp 4), .bool (x.tp 5)] 109) := ⟨_, rfl⟩
  obtain ⟨wb, hwb⟩ : ∃ wb, wb = wa.alloc (.cells #[.int .i64 x.k, .int .i64 x.pl, .int .i64 x.ou, .int .i64 x.ta, .bool (x.rd 0), .bool (x.rd 1), .bool (x.rd 2), .bool (x.rd 3), .bool (x.rd 4), .bool (x.rd 5), .bool (x.tp 0), .bool (x.tp 1), .bool (x.tp 2), .bool (x.tp 3), .bool (x.tp 4), .bool (x.tp 5)] 109) := ⟨_, rfl⟩
  have O1 : Own wa w.heap.size (stV x) := by rw [hwa]; exact own16 w x _
  have O2 : Own wb.drew wa.heap.size (stV x) := by
    have := own16 wa x 109
    rw [← hwb] at this
    exact this.step ((Below.refl _ _).drew)
  have bel1 : Below w.heap.size w wb.drew := by
    rw [hwb, hwa]
    exact (((Below.refl _ _).alloc (Nat.le_refl _) _).alloc (by simp) _).drew
  have hsz : wb.drew.heap.size = w.heap.size + 2 := by rw [hwb, hwa]; simp
  have d0 := O1.c 0 _ rfl
  have d1 := O1.c 1 _ rfl
  have d2 := O1.c 2 _ rfl
  have d3 := O1.c 3 _ rfl
  have d4 := O1.c 4 _ rfl
  have d5 := O1.c 5 _ rfl
  have d6 := O1.c 6 _ rfl
  have d7 := O1.c 7 _ rfl
  have d8 := O1.c 8 _ rfl
  have d9 := O1.c 9 _ rfl
  have d10 := O1.c 10 _ rfl
  have d11 := O1.c 11 _ rfl
  have d12 := O1.c 12 _ rfl
  have d13 := O1.c 13 _ rfl
  have d14 := O1.c 14 _ rfl
  have d15 := O1.c 15 _ rfl
  have ca : wa.cell? ⟨b, 46, none⟩ = some (S 3) := by rw [hwa, ((Below.refl _ w).alloc (Nat.le_refl _) _).cell (p := ⟨b, 46, none⟩) hlt]; exact c
  have hlt2 : b < wa.heap.size := by rw [hwa]; simp; omega
  have hlt3 : w.heap.size < wa.heap.size := by rw [hwa]; simp
  have H' : Kp _ := ⟨H⟩
  replace hrow : Kp _ := ⟨hrow⟩
  replace hnb : Kp _ := ⟨hnb⟩
  replace O2 : Kp _ := ⟨O2⟩
  replace bel1 : Kp _ := ⟨bel1⟩
  replace hsz : Kp _ := ⟨hsz⟩
  replace hwa : Kp _ := ⟨hwa⟩
  replace hwb : Kp _ := ⟨hwb⟩
  clear H M O1 c
  unfold stA
  go_enter Tryz.func213, Tryz.ntmps213
  go_wp2_with fail
  rw [← hwa.out]
  have K1 : Kp (wb.drew.ownsRow (b + 1) 109 16 (S 3) q.ss.length (q.ss.flatMap stV)) := ⟨orow_step hrow.out bel1.out⟩
  have K2 : Kp (∀ j u, (stV x)[j]? = some u → wb.drew.cell? ((⟨wa.heap.size, 0, none⟩ : Addr).add j) = some u) := ⟨fun j u hj => by
    have := O2.out.c j u hj
    rcases Nat.eq_zero_or_pos j with h0 | h0
    · subst h0; simpa [Addr.add] using this
    · have h1 : ¬ j = 0 := by omega
      simpa [Addr.add, h1] using this⟩
  have K3 : Kp (∀ u, u ∈ stV x → u.oneCell' = true) := ⟨fun u hu => by
    unfold stV at hu
    simp only [List.mem_cons, List.not_mem_nil, or_false] at hu
    rcases hu with rfl | rfl | rfl | rfl | rfl | rfl | rfl | rfl | rfl | rfl | rfl | rfl | rfl | rfl | rfl | rfl <;> rfl⟩
  have K4 : Kp (b + 1 ≤ wb.drew.heap.size) := ⟨by rw [hsz.out]; omega⟩
  have K5 : Kp (wb.drew.cell? ⟨b, 46, none⟩ = some (S 3) ∧ wb.drew.frozen? ⟨b, 46, none⟩ = false) := ⟨by rw [bel1.out.cell (p := ⟨b, 46, none⟩) hlt]; exact H'.out.c 3 (by omega), by rw [bel1.out.frozen (p := ⟨b, 46, none⟩) hlt]; exact H'.out.f 46 (by omega)⟩
  go_region_law (rw [← hwb.out]; refine step_append_row rfl (.tmp 9) (.tmp 11) 55 rfl (b + 1) 109 i0 _ 16 48 Tryz.underlying55 hi0 hz0 hz1 hz2 rfl (by decide) (S 3) q.ss.length (q.ss.flatMap stV) (by simp [Act.eval]) K1.out ⟨wa.heap.size, 0, none⟩ (stV x) (by simp [Act.eval]) rfl K2.out K3.out (by unfold maxLen; omega) (by omega) K4.out ?_; intro v' w3 hown hgrow hat; obtain ⟨pp, cc, rfl⟩ := orow_len hown; have a1 : w3.cell? ⟨b, 46, none⟩ = some (S 3) := (by rw [World.cell?_of_block (w := wb.drew) (hgrow.block b (by rw [hsz.out]; omega) hnb.out)]; exact K5.out.1); have f1 : w3.frozen? ⟨b, 46, none⟩ = false := (by rw [World.frozen?_of_block (w := wb.drew) (hgrow.block b (by rw [hsz.out]; omega) hnb.out)]; exact K5.out.2))
  all_goals
    have hR : TrAt (w3.setCell ⟨b, 46, none⟩ (.slice pp (q.ss.length + 1) cc)) b s (addQ q x) (fun j => if j = 3 then .slice pp (q.ss.length + 1) cc else S j) ∧ TrTo b b S (fun j => if j = 3 then .slice pp (q.ss.length + 1) cc else S j) w (w3.setCell ⟨b, 46, none⟩ (.slice pp (q.ss.length + 1) cc)) :=
      TrAt.told (l := 3) H'.out (by omega) bel1.out hgrow (by
        have e1 : rowN (addQ q x) 3 = q.ss.length + 1 := by show (q.ss ++ [x]).length = _; rw [List.length_append]; rfl
        have e2 : rowV (addQ q x) 3 = q.ss.flatMap stV ++ stV x := by show (q.ss ++ [x]).flatMap stV = _; rw [List.flatMap_append]; simp
        rw [e1, e2]
        exact hown) hat rfl rfl rfl rfl rfl rfl (fun j hj hne => by
          match j, hj with
          | 0, _ => rfl
          | 1, _ => rfl
          | 2, _ => rfl
          | 3, _ => exact absurd rfl hne) (fun j hj hne => by
          match j, hj with
          | 0, _ => rfl
          | 1, _ => rfl
          | 2, _ => rfl
          | 3, _ => exact absurd rfl hne)
    have a2 : (w3.setCell ⟨b, 46, none⟩ (.slice pp (q.ss.length + 1) cc)).cell? ⟨b, 46, none⟩ = some (.slice pp (q.ss.length + 1) cc) := World.cell?_setCell_same _ _ _ a1
    replace hR : Kp _ := ⟨hR⟩
    clear hown hgrow hat a1 f1 K1 K2 K3 K4 K5 d0 d1 d2 d3 d4 d5 d6 d7 d8 d9 d10 d11 d12 d13 d14 d15 ca hrow
    generalize hn : q.ss.length = n at *
    replace hn : Kp _ := ⟨hn⟩
    go_wp2_with fail
    go_ret
    exact ⟨by rw [hn.out]; simp, _, hR.out.1, hR.out.2⟩
end Go.Proofs.YtcnbifdlkalimabGreat
