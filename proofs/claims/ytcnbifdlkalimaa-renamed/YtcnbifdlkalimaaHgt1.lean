/-
  The walks of the package check: heights; for every file whose places are places and whose operations are operations.
-/
import Derived.Test.YtcnbifdlkalimaaWay3
import Derived.Test.YtcnbifdlkalimaaPlain12
namespace Go.Proofs.Ytcnbifdlkalimaa
open Go.RowKit
set_option linter.unusedVariables false
set_option maxRecDepth 100000

/-- block b holds heights: which are known, and what they are -/
structure HtAt (w : World) (b : Nat) (m : Nat → Bool) (h : Nat → Int) : Prop where
  s : SetAt w b 0 m
  a : ∀ j : Nat, j < 201 → w.cell? ⟨b, 201 + j, none⟩ = some (.int .i64 (h j))
  f : ∀ j : Nat, j < 201 → w.frozen? ⟨b, 201 + j, none⟩ = false

theorem HtAt.step {w w1 : World} {b : Nat} {m : Nat → Bool} {h : Nat → Int} (H : HtAt w b m h) (hb : Below w.heap.size w w1) : HtAt w1 b m h :=
  ⟨H.s.step hb, fun j hj => by rw [hb.cell (p := ⟨b, 201 + j, none⟩) H.s.lt]; exact H.a j hj, fun j hj => by rw [hb.frozen (p := ⟨b, 201 + j, none⟩) H.s.lt]; exact H.f j hj⟩
theorem HtAt.but {w w1 : World} {b b' : Nat} {m : Nat → Bool} {h : Nat → Int} (H : HtAt w b m h) (hb : But b' w.heap.size w w1) (hne : b ≠ b') : HtAt w1 b m h :=
  ⟨H.s.but hb hne, fun j hj => by rw [hb.cell (p := ⟨b, 201 + j, none⟩) H.s.lt hne]; exact H.a j hj, fun j hj => by rw [hb.frozen (p := ⟨b, 201 + j, none⟩) H.s.lt hne]; exact H.f j hj⟩

theorem cell_off (w : World) (b i j : Nat) (x : Value) (h : i ≠ j) : (w.setCell ⟨b, i, none⟩ x).cell? ⟨b, j, none⟩ = w.cell? ⟨b, j, none⟩ :=
  World.cell?_setCell_other w ⟨b, i, none⟩ ⟨b, j, none⟩ x (by intro k; exact h (congrArg Addr.off k))

theorem HtAt.setM {w : World} {b : Nat} {m : Nat → Bool} {h : Nat → Int} (H : HtAt w b m h) {p : Nat} (hp : p < 201) : HtAt (w.setCell ⟨b, 0 + p, none⟩ (.bool true)) b (setM m p) h :=
  ⟨H.s.set hp true, fun j hj => by rw [cell_off _ _ _ _ _ (by omega)]; exact H.a j hj, fun j hj => by rw [World.frozen?_setCell]; exact H.f j hj⟩

theorem HtAt.setH {w : World} {b : Nat} {m : Nat → Bool} {h : Nat → Int} (H : HtAt w b m h) {p : Nat} (hp : p < 201) (y : Int) : HtAt (w.setCell ⟨b, 201 + p, none⟩ (.int .i64 y)) b m (setH h p y) := by
  refine ⟨⟨by simpa using H.s.lt, fun j hj => by rw [cell_off _ _ _ _ _ (by omega)]; exact H.s.c j hj, fun j hj => by rw [World.frozen?_setCell]; exact H.s.f j hj⟩, fun j hj => ?_, fun j hj => by rw [World.frozen?_setCell]; exact H.f j hj⟩
  by_cases e : j = p
  · subst e
    rw [World.cell?_setCell_same _ _ _ (H.a j hj)]
    simp [Go.Proofs.Ytcnbifdlkalimaa.setH]
  · rw [cell_off _ _ _ _ _ (by omega)]
    simp [Go.Proofs.Ytcnbifdlkalimaa.setH, e]
    exact H.a j hj

set_option maxHeartbeats 400000 in
theorem of_any (b : Nat) (m : Nat → Bool) (h : Nat → Int) (p : Nat) (w : World) (H : HtAt w b m h) (hp : p < 201) :
    Calls Try.prog 175 #[.pointer (some ⟨b, 0, none⟩), .int .i64 p] w fun e w' => e = .returned (.int .i64 (h p)) ∧ w' = w := by
  have hc := H.a p hp
  have hp2 : (p : Int) < 201 := by omega
  clear H
  go_enter Try.func175, Try.ntmps175
  go_wp2
  go_ret
  exact ⟨rfl, rfl⟩

/-- what a call of lay leaves -/
def LayPost (c : ByteArray) (b : Nat) (m : Nat → Bool) (h : Nat → Int) (p : Nat) (y : Int) (w : World) (e : Ending) (w' : World) : Prop :=
  ∃ (ok : Bool) (m' : Nat → Bool) (h' : Nat → Int), e = .returned (.bool ok) ∧ HtAt w' b m' h' ∧ But b w.heap.size w w' ∧ Kp (LayOut c m h p y m' h' ok)

theorem lay_known (n y : Int) (b p : Nat) (m : Nat → Bool) (h : Nat → Int) (t v c : ByteArray) (w : World) (hK : half c ≤ 200) (H : HtAt w b m h) (I : LayIn c m h p y) (hm : m p = true) :
    Calls Try.prog 108 #[.pointer (some ⟨b, 0, none⟩), .agg #[.int .i64 n, .string t, .string v, .string c], .int .i64 p, .int .i64 y] w (LayPost c b m h p y w) := by
  have hp := I.hi
  have hO : Kp (LayOut c m h p y m h (h p == y)) := ⟨lay_old I hm⟩
  have hp2 : (p : Int) < 201 := by omega
  have bl := fun o => (Below.refl w.heap.size w).alloc (Nat.le_refl _) o
  have H1 := H.step (bl (.cells #[.int .i64 n, .string t, .string v, .string c] 77))
  have hB1 := But.of (b := b) (bl (.cells #[.int .i64 n, .string t, .string v, .string c] 77))
  have hca := H1.a p (by omega)
  clear H I bl
  go_enter Try.func108, Try.ntmps108
  go_wp2_with fail
  refine (add_old b 0 m p _ H1.s (by omega) hm).mono ?_
  rintro e w1 ⟨rfl, rfl⟩
  go_wp2_with fail
  go_ret
  exact ⟨_, m, h, rfl, H1, hB1, hO⟩

set_option maxHeartbeats 3200000 in
theorem lay_any (n : Int) (b : Nat) (t v c : ByteArray) (hc : c.size ≤ maxLen) (hK : half c ≤ 200) (hr : Kp (Ranged c)) (hop : Kp (∀ i : Int, 0 ≤ i → i < half c → bv c (2 * i) ≤ 11)) (k : Nat) : ∀ (m : Nat → Bool) (h : Nat → Int) (p : Nat) (y : Int) (w : World), cntF m 201 ≤ k → HtAt w b m h → LayIn c m h p y →
    Calls Try.prog 108 #[.pointer (some ⟨b, 0, none⟩), .agg #[.int .i64 n, .string t, .string v, .string c], .int .i64 p, .int .i64 y] w (LayPost c b m h p y w) := by
  induction k with
  | zero =>
    intro m h p y w hk H I
    refine lay_known n y b p m h t v c w hK H I ?_
    cases hm : m p
    · have := cntF_set (m := m) (k := 201) (j := p) (by have := I.hi; omega) hm
      omega
    · rfl
  | succ k ih =>
    intro m h p y w hk H I
    cases hm : m p with
    | true => exact lay_known n y b p m h t v c w hK H I hm
    | false =>
      have hp := I.hi
      have y0 := I.lo
      have y9 := I.up
      have hcnt : Kp (cntF (setM m p) 201 ≤ k) := ⟨by have := cntF_set (m := m) (k := 201) (j := p) (by omega) hm; unfold setM; omega⟩
      have hp2 : (p : Int) < 201 := by omega
      have bl := fun o => (Below.refl w.heap.size w).alloc (Nat.le_refl _) o
      have H1 := H.step (bl (.cells #[.int .i64 n, .string t, .string v, .string c] 77))
      have hB1 := But.of (b := b) (bl (.cells #[.int .i64 n, .string t, .string v, .string c] 77))
      have o1 := Own.new4 w (.int .i64 n) (.string t) (.string v) (.string c) 77
      have hlt := H.s.lt
      replace I : Kp _ := ⟨I⟩
      clear hk bl H
      go_enter Try.func108, Try.ntmps108
      go_wp2_with fail
      refine (add_new b 0 m p _ H1.s (by omega) hm).mono ?_
      rintro e w1 ⟨rfl, hw1⟩
      have H2 : HtAt w1 b (setM m p) h := by rw [hw1]; exact H1.setM (by omega)
      have hB2 : But b w.heap.size w w1 := by rw [hw1]; exact hB1.setCell _ _
      have o2 : Own w1 w.heap.size [.int .i64 n, .string t, .string v, .string c] := by rw [hw1]; exact o1.but ((But.refl b _ _).setCell _ _) (by omega)
      have hca := H2.a p (by omega)
      have hcf := H2.f p (by omega)
      clear hw1 H1 hB1 o1
      have H3 := H2.setH (p := p) (by omega) y
      have hB3 := hB2.setCell (201 + p) (.int .i64 y)
      have o3 := o2.but ((But.refl b _ _).setCell (201 + p) (.int .i64 y)) (by omega)
      have hlt2 := hB2.size
      clear H2 hB2 o2
      obtain ⟨w3, hw3⟩ : ∃ w3, w1.setCell ⟨b, 201 + p, none⟩ (.int .i64 y) = w3 := ⟨_, rfl⟩
      rw [hw3] at H3 hB3 o3
      have q0 := o3.c 0 _ rfl
      have q1 := o3.c 1 _ rfl
      have q2 := o3.c 2 _ rfl
      have q3 := o3.c 3 _ rfl
      go_wp2_with fail
      refine (length_any n t v c _ hc).mono ?_
      rintro e w4 ⟨rfl, hb4⟩
      have H4 := H3.step hb4
      have hB4 := hB3.trans (But.of (hb4.mono hB3.size))
      have o4 := o3.step hb4
      clear hca hcf hw3 q0 q1 q2 q3 H3 hB3 o3 hb4
      by_cases hpK : (p : Int) = half c
      · have hO : Kp (LayOut c m h p y (setM m p) (setH h p y) (y == 0)) := ⟨lay_end I.out hm hpK⟩
        rw [← hpK]
        go_wp2_with fail
        go_ret
        exact ⟨_, _, _, rfl, H4, hB4, hO⟩
      · have hne : ((p : Int) == half c) = false := beq_eq_false_iff_ne.2 hpK
        have hlt3 : (p : Int) < half c := by omega
        have ho1 := bv_bd c (2 * p)
        have ho2 := hop.out p (by omega) hlt3
        have q0 := o4.c 0 _ rfl
        have q1 := o4.c 1 _ rfl
        have q2 := o4.c 2 _ rfl
        have q3 := o4.c 3 _ rfl
        go_wp2_with fail
        refine (instr_any n p t v c _ hc (by omega) hlt3).mono ?_
        rintro e w5 ⟨rfl, hb5⟩
        have H5 := H4.step hb5
        have hB5 := hB4.trans (But.of (hb5.mono hB4.size))
        have o5 := o4.step hb5
        clear q0 q1 q2 q3 H4 hB4 o4 hb5
        obtain ⟨dt, dg, _⟩ := delta_bd c p
        obtain ⟨d1, d2⟩ := dt
        obtain ⟨d3, d4⟩ := dg
        obtain ⟨tk, htk⟩ : ∃ tk, takesAt c p = tk := ⟨_, rfl⟩
        obtain ⟨gv, hgv⟩ : ∃ gv, givesAt c p = gv := ⟨_, rfl⟩
        rw [htk] at d1 d2
        rw [hgv] at d3 d4
        go_wp2_with fail
        refine (pops_any (bv c (2 * p)) _ ho1.1 ho2).mono ?_
        rintro e w6 ⟨rfl, rfl⟩
        rw [show takesF (bv c (2 * p)) = tk from htk]
        by_cases hbad : 8 < y
        · have hO : Kp (LayOut c m h p y (setM m p) (setH h p y) false) := ⟨lay_bad I.out hlt3 (.inl hbad)⟩
          replace htk : Kp _ := ⟨htk⟩
          replace hgv : Kp _ := ⟨hgv⟩
          go_wp2_with fail
          go_ret
          exact ⟨_, _, _, rfl, H5, hB5, hO⟩
        · by_cases hbad2 : y - tk < 0
          · have hO : Kp (LayOut c m h p y (setM m p) (setH h p y) false) := ⟨lay_bad I.out hlt3 (.inr (by rw [htk]; exact hbad2))⟩
            replace htk : Kp _ := ⟨htk⟩
            replace hgv : Kp _ := ⟨hgv⟩
            go_wp2_with fail
            go_ret
            exact ⟨_, _, _, rfl, H5, hB5, hO⟩
          · have hg : Kp (y ≤ 8 ∧ takesAt c p ≤ y) := ⟨by rw [htk]; omega⟩
            obtain ⟨⟨n1, n2⟩, n3, n4⟩ := nx_in hr.out (k := p) (by omega) (by omega)
            obtain ⟨a1, e1⟩ : ∃ a1 : Nat, nx1 c p = a1 := ⟨(nx1 c p).toNat, by omega⟩
            obtain ⟨a2, e2⟩ : ∃ a2 : Nat, nx2 c p = a2 := ⟨(nx2 c p).toNat, by omega⟩
            have m1 : Kp ((a1 : Int) ∈ nxt c p) := ⟨(mem_nxt hlt3).2 (.inl e1.symm)⟩
            have m2 : Kp ((a2 : Int) ∈ nxt c p) := ⟨(mem_nxt hlt3).2 (.inr e2.symm)⟩
            have m3 : Kp (∀ x, x ∈ nxt c p → x = a1 ∨ x = a2) := ⟨fun x hx => by have := (mem_nxt hlt3).1 hx; rwa [e1, e2] at this⟩
            have q0 := o5.c 0 _ rfl
            have q1 := o5.c 1 _ rfl
            have q2 := o5.c 2 _ rfl
            have q3 := o5.c 3 _ rfl
            replace htk : Kp _ := ⟨htk⟩
            replace hgv : Kp _ := ⟨hgv⟩
            go_wp2_with fail
            refine (behind_any n p t v c _ hc hK (by omega) (by omega)).mono ?_
            rintro e w6 ⟨rfl, hb6⟩
            have H6 := H5.step hb6
            have hB6 := hB5.trans (But.of (hb6.mono hB5.size))
            have o6 := o5.step hb6
            rw [e1, e2]
            clear q0 q1 q2 q3 H5 hB5 o5 hb6 e1 e2 n1 n2 n3 n4
            go_wp2_with fail
            refine (pushes_any (bv c (2 * p)) _ ho1.1 ho2).mono ?_
            rintro e w7 ⟨rfl, rfl⟩
            rw [show givesF (bv c (2 * p)) = gv from hgv.out]
            have q0 := o6.c 0 _ rfl
            have q1 := o6.c 1 _ rfl
            have q2 := o6.c 2 _ rfl
            have q3 := o6.c 3 _ rfl
            go_wp2_with fail
            have I1 : LayIn c (setM m p) (setH h p y) a1 (y - tk + gv) := by
              have := lay_next hr.out I.out hlt3 hg.out (lay_set_fit I.out) m1.out
              rwa [htk.out, hgv.out] at this
            refine (ih (setM m p) (setH h p y) a1 (y - tk + gv) _ hcnt.out H6 I1).mono ?_
            rintro e w7 ⟨ok, m7, h7, rfl, H7, hb7, hO7⟩
            have hB7 := hB6.trans (hb7.mono hB6.size)
            have o7 := o6.but hb7 (by omega)
            clear q0 q1 q2 q3 H6 hB6 o6 hb7 I1
            cases ok with
            | false =>
              have hO : Kp (LayOut c m h p y m7 h7 false) := ⟨⟨fun e => absurd e (by simp), hO7.out.no⟩⟩
              go_wp2_with fail
              go_ret
              exact ⟨_, _, _, rfl, H7, hB7, hO⟩
            | true =>
              obtain ⟨L7, e7⟩ := hO7.out.yes rfl
              have hcnt7 : Kp (cntF m7 201 ≤ k) := ⟨Nat.le_trans (cntF_le L7.more 201) hcnt.out⟩
              have I2 : LayIn c m7 h7 a2 (y - tk + gv) := by
                have := lay_next hr.out I.out hlt3 hg.out L7.fit m2.out
                rwa [htk.out, hgv.out] at this
              replace L7 : Kp _ := ⟨L7⟩
              replace e7 : Kp _ := ⟨e7⟩
              replace I2 : Kp _ := ⟨I2⟩
              have q0 := o7.c 0 _ rfl
              have q1 := o7.c 1 _ rfl
              have q2 := o7.c 2 _ rfl
              have q3 := o7.c 3 _ rfl
              go_wp2_with fail
              refine (ih m7 h7 a2 (y - tk + gv) _ hcnt7.out H7 I2.out).mono ?_
              rintro e w8 ⟨ok, m8, h8, rfl, H8, hb8, hO8⟩
              have hB8 := hB7.trans (hb8.mono hB7.size)
              clear q0 q1 q2 q3 H7 hB7 o7 hb8
              have hO : Kp (LayOut c m h p y m8 h8 ok) := ⟨by
                cases ok
                · exact ⟨fun e => absurd e (by simp), hO8.out.no⟩
                · obtain ⟨L8, e8⟩ := hO8.out.yes rfl
                  refine lay_all I.out hm hlt3 hg.out m3.out L7.out ?_ L8 ?_
                  · rw [htk.out, hgv.out]; exact e7.out
                  · rw [htk.out, hgv.out]; exact e8⟩
              go_wp2_with fail
              go_ret
              exact ⟨_, _, _, rfl, H8, hB8, hO⟩
end Go.Proofs.Ytcnbifdlkalimaa
