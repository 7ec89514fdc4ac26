/-
  The walks of the package check: the regions of all live choices; for every file that is scanned and all of whose live places have a way to the end.
-/
import Derived.Test.YtcnmegalanaldaaLab8
import Derived.Test.YtcnmegalanaldaaWay4
import Derived.Deep.RegionWith
namespace Go.Proofs.Ytcnmegalanaldaa
open Go.RowKit
set_option linter.unusedVariables false
set_option maxRecDepth 100000

theorem WaysAt.but {w w1 : World} {b b' : Nat} {n : Int} {t v c : ByteArray} {k : Int} {T A : Int → Int} (h : WaysAt w b n t v c k T A) (hb : But b' w.heap.size w w1) (hne : b ≠ b') : WaysAt w1 b n t v c k T A := by
  have e : ∀ j, w1.cell? ⟨b, j, none⟩ = w.cell? ⟨b, j, none⟩ := fun j => hb.cell (p := ⟨b, j, none⟩) h.lt hne
  exact ⟨Nat.lt_of_lt_of_le h.lt hb.size, by rw [e]; exact h.c0, by rw [e]; exact h.c1, by rw [e]; exact h.c2, by rw [e]; exact h.c3, by rw [e]; exact h.k, fun j hj => by rw [e]; exact h.t j hj, fun j hj => by rw [e]; exact h.a j hj, fun j hj => by rw [hb.frozen (p := ⟨b, j, none⟩) h.lt hne]; exact h.f j hj⟩

theorem turn_pos {c : ByteArray} {T A : Int → Int} (H : WOk c T A) {x : Int} (h : Reach c (One x) (-1) (half c)) : 0 < T x := by
  have := h (fun y => 0 < T y → 0 < T x) (fun y hy _ => by rw [show y = x from hy]; exact id) (fun y z hy he _ hz => hy (H.full y z he.1 he.2.1 he.2.2 hz))
  exact this (by rw [H.fin]; omega)

def setR (R : Nat → Nat → Bool) (p : Nat) (m : Nat → Bool) : Nat → Nat → Bool := fun i j => if i = p then m j else R i j

theorem LabAt.setR {w : World} {b : Nat} {n : Int} {t v c : ByteArray} {hb : Nat} {R : Nat → Nat → Bool} {L : Int → Int → Int} {W : Nat → Bool} (h : LabAt w b n t v c hb R L W) (p : Nat) (hp : p < 201) (m : Nat → Bool) : LabAt (w.setCells b (5 + p * 201) (big 201 (fun j => .bool (m j))).toList) b n t v c hb (setR R p m) L W := by
  have far : ∀ j, (j < 5 + p * 201 ∨ 5 + p * 201 + 201 ≤ j) → (w.setCells b (5 + p * 201) (big 201 (fun j => .bool (m j))).toList).cell? ⟨b, j, none⟩ = w.cell? ⟨b, j, none⟩ := fun j hj =>
    World.cell?_setCells_out b _ (5 + p * 201) w ⟨b, j, none⟩ (fun _ _ => by rw [big_len]; exact hj)
  refine ⟨?_, ?_, ?_, ?_, ?_, ?_, fun i j hi hj => ?_, fun j hj => ?_, fun j e hj he => ?_, fun j hj => ?_, fun j hj => by rw [World.frozen?_setCells]; exact h.f j hj⟩
  · have := (but_cells (But.refl b 0 w) (big 201 (fun j => Value.bool (m j))).toList (5 + p * 201)).size
    exact Nat.lt_of_lt_of_le h.lt this
  · rw [far 0 (by omega)]; exact h.c0
  · rw [far 1 (by omega)]; exact h.c1
  · rw [far 2 (by omega)]; exact h.c2
  · rw [far 3 (by omega)]; exact h.c3
  · rw [far 4 (by omega)]; exact h.hp
  · by_cases e : i = p
    · subst e
      rw [st_big_cell w b (5 + i * 201) 201 (fun j => .bool (m j)) (fun j hj => by rw [h.r i j hi hj]; rfl) j hj]
      simp [Go.Proofs.Ytcnmegalanaldaa.setR]
    · rw [far _ (by omega), h.r i j hi hj]
      simp [Go.Proofs.Ytcnmegalanaldaa.setR, e]
  · rw [far _ (by omega)]; exact h.pl j hj
  · rw [far _ (by omega)]; exact h.vl j e hj he
  · rw [far _ (by omega)]; exact h.wt j hj

/-- what is known of a file of which every live place has a way to the end -/
structure WayF (c : ByteArray) (T A : Int → Int) (lm : Nat → Bool) : Prop where
  nar : Narrow c T A
  rng : Ranged c
  live : ∀ j : Nat, lm j = true ↔ (j : Int) ≤ half c ∧ Live c j
  ends : ∀ x, Live c x → Reach c (One x) (-1) (half c)

theorem WayF.reg {c : ByteArray} {T A : Int → Int} {lm : Nat → Bool} (F : WayF c T A lm) {z : Nat} (hz : (z : Int) < half c) (hl : Live c z) (m : Nat → Bool) (hm : ∀ j : Nat, m j = true ↔ (j : Int) ≤ half c ∧ Reach c (fun x => x ∈ nxt c z) (A z) j) (p : Nat) : m p = true ↔ (p : Int) ≤ half c ∧ Reg c z p := by
  have hlive : ∀ x, Reach c (One z) (-1) x → Live c x := fun x hx => hl.trans hx
  have hJ := junction_found F.rng F.nar (i := z) (by omega) hz (fun x hx => turn_pos F.nar.w (F.ends x (hlive x hx)))
  rw [hm p]
  constructor
  · rintro ⟨h1, h2⟩; exact ⟨h1, A z, hJ, h2⟩
  · rintro ⟨h1, j, hj, h2⟩
    have e := IsJ.unique (F.ends z hl) hJ hj
    exact ⟨h1, by rw [e]; exact h2⟩

/-- what finding the regions leaves -/
structure RegS (c : ByteArray) (lm : Nat → Bool) (R : Nat → Nat → Bool) (W : Nat → Bool) (q : Nat) : Prop where
  reg : ∀ z p : Nat, z < q → (z : Int) < half c → Live c z → bv c (2 * z) = 9 → p < 201 → (R z p = true ↔ (p : Int) ≤ half c ∧ Reg c z p)
  wait : ∀ j : Nat, j < 201 → (W j = true ↔ j < q ∧ lm j = true)

def RegPost (b : Nat) (n : Int) (t v c : ByteArray) (hb : Nat) (L : Int → Int → Int) (lm : Nat → Bool) (w : World) (e : Ending) (w' : World) : Prop :=
  ∃ (R : Nat → Nat → Bool) (W : Nat → Bool), e = .returned (.tuple #[]) ∧ LabAt w' b n t v c hb R L W ∧ But b w.heap.size w w' ∧ Kp (RegS c lm R W 201)

theorem RegS.skip {c : ByteArray} {T A : Int → Int} {lm : Nat → Bool} {R : Nat → Nat → Bool} {W : Nat → Bool} {q : Nat} (F : WayF c T A lm) (S : RegS c lm R W q) (h : lm q = false) : RegS c lm R W (q + 1) := by
  refine ⟨fun z p hz h1 h2 h3 h4 => ?_, fun j hj => ?_⟩
  · by_cases e : z = q
    · subst e
      rw [(F.live z).2 ⟨by omega, h2⟩] at h
      exact absurd h (by simp)
    · exact S.reg z p (by omega) h1 h2 h3 h4
  · rw [S.wait j hj]
    constructor
    · rintro ⟨k1, k2⟩; exact ⟨by omega, k2⟩
    · rintro ⟨k1, k2⟩
      by_cases e : j = q
      · subst e; rw [h] at k2; exact absurd k2 (by simp)
      · exact ⟨by omega, k2⟩

theorem wait_more {lm W : Nat → Bool} {q : Nat} (S : ∀ j : Nat, j < 201 → (W j = true ↔ j < q ∧ lm j = true)) (h : lm q = true) : ∀ j : Nat, j < 201 → ((if j = q then true else W j) = true ↔ j < q + 1 ∧ lm j = true) := by
  intro j hj
  by_cases e : j = q
  · subst e; simp [h]
  · simp [e]
    rw [S j hj]
    constructor
    · rintro ⟨k1, k2⟩; exact ⟨by omega, k2⟩
    · rintro ⟨k1, k2⟩; exact ⟨by omega, k2⟩

theorem RegS.plain {c : ByteArray} {lm : Nat → Bool} {R : Nat → Nat → Bool} {W : Nat → Bool} {q : Nat} (S : RegS c lm R W q) (h : lm q = true) (h9 : (q : Int) < half c → bv c (2 * q) ≠ 9) : RegS c lm R (fun j => if j = q then true else W j) (q + 1) := by
  refine ⟨fun z p hz h1 h2 h3 h4 => ?_, wait_more S.wait h⟩
  by_cases e : z = q
  · subst e; exact absurd h3 (h9 h1)
  · exact S.reg z p (by omega) h1 h2 h3 h4

theorem RegS.zero {c : ByteArray} {T A : Int → Int} {lm : Nat → Bool} {R : Nat → Nat → Bool} {W : Nat → Bool} {q : Nat} (F : WayF c T A lm) (S : RegS c lm R W q) (h : lm q = true) (m : Nat → Bool) (hm : ∀ j : Nat, m j = true ↔ (j : Int) ≤ half c ∧ Reach c (fun x => x ∈ nxt c q) (A q) j) : RegS c lm (Go.Proofs.Ytcnmegalanaldaa.setR R q m) (fun j => if j = q then true else W j) (q + 1) := by
  refine ⟨fun z p hz h1 h2 h3 h4 => ?_, wait_more S.wait h⟩
  by_cases e : z = q
  · subst e
    rw [← F.reg h1 h2 m hm p]
    simp [Go.Proofs.Ytcnmegalanaldaa.setR]
  · rw [← S.reg z p (by omega) h1 h2 h3 h4]
    simp [Go.Proofs.Ytcnmegalanaldaa.setR, e]

set_option maxHeartbeats 3200000 in
theorem regions_any (b lb wb : Nat) (n k : Int) (t v c : ByteArray) (hb : Nat) (T A : Int → Int) (lm : Nat → Bool) (L : Int → Int → Int) (w : World) (hc : c.size ≤ maxLen) (hK : half c ≤ 200) (H0 : LabAt w b n t v c hb (fun _ _ => false) L (fun _ => false)) (hLm : SetAt w lb 0 lm) (hWy : WaysAt w wb n t v c k T A) (n1 : lb ≠ b) (n2 : wb ≠ b) (F : Kp (WayF c T A lm)) :
    Calls Try.prog 56 #[.pointer (some ⟨b, 0, none⟩), .pointer (some ⟨lb, 0, none⟩), .pointer (some ⟨wb, 0, none⟩)] w (RegPost b n t v c hb L lm w) := by
  have hh := (half_bd c).1
  have hr : Kp (Ranged c) := ⟨F.out.rng⟩
  go_enter Try.func56, Try.ntmps56
  go_wp2_with fail
  have hB0 := But.refl b w.heap.size w
  have hS0 : Kp (RegS c lm (fun _ _ => false) (fun _ => false) 0) := ⟨fun z p hz => absurd hz (by omega), fun j hj => by simp⟩
  go_loopw [9] (fun i wr => ∃ (p : Nat) (R : Nat → Nat → Bool) (W : Nat → Bool), i = .int .i64 p ∧ p ≤ 201 ∧ LabAt wr b n t v c hb R L W ∧ But b w.heap.size w wr ∧ Kp (RegS c lm R W p)) (fun i _ => 201 - (intOf i).toNat)
  case atStart => exact ⟨0, _, _, rfl, by omega, H0, hB0, hS0⟩
  case round =>
    clear H0 hB0 hS0
    obtain ⟨p, R, W, rfl, hp, H, hB, hS⟩ := hrel
    by_cases hlt : p < 201
    · have hlt2 : (p : Int) < 201 := by omega
      have hL1 := hLm.but hB n1
      have hW1 := hWy.but hB n2
      cases hlm : lm p with
      | false =>
        have hS2 : Kp (RegS c lm R W (p + 1)) := ⟨hS.out.skip F.out hlm⟩
        go_wp2_with fail
        refine (setHas_any lb 0 lm p _ hL1 hlt).mono ?_
        rintro e w1 ⟨rfl, rfl⟩
        rw [hlm]
        go_wp2_with fail
        go_roundw
        case rel => exact ⟨p + 1, R, W, by go_num, by omega, H, hB, hS2⟩
        case measure => simp [intOf]; omega
      | true =>
        have hlv := (F.out.live p).1 hlm
        have hpK := hlv.1
        replace hlv : Kp _ := ⟨hlv⟩
        have hWp : W p = false := by
          cases hx : W p
          · rfl
          · have := (hS.out.wait p hlt).1 hx; omega
        go_wp2_with fail
        refine (setHas_any lb 0 lm p _ hL1 hlt).mono ?_
        rintro e w1 ⟨rfl, rfl⟩
        rw [hlm]
        go_wp2_with fail
        refine (add_new b 42215 W p _ H.wait hlt hWp).mono ?_
        rintro e w2 ⟨rfl, hw2⟩
        have H2 := H.setW p hlt true
        have hB2 := hB.setCell (42215 + p) (.bool true)
        rw [← hw2] at H2 hB2
        clear hw2 H hB hL1 hW1
        have q0 := H2.c0
        have q1 := H2.c1
        have q2 := H2.c2
        have q3 := H2.c3
        go_wp2_with fail
        refine (instrP n p t v c _ hc (by omega) hpK).mono ?_
        rintro e w3 ⟨rfl, hb3⟩
        have H3 := H2.step hb3
        have hB3 := hB2.trans (But.of (hb3.mono hB2.size))
        clear q0 q1 q2 q3 H2 hB2 hb3
        by_cases h9 : opP c p = 9
        · have hpK2 : (p : Int) < half c := by
            by_cases e : (p : Int) = half c
            · unfold opP at h9; rw [if_pos e] at h9; omega
            · omega
          rw [h9]
          have q0 := H3.c0
          have q1 := H3.c1
          have q2 := H3.c2
          have q3 := H3.c3
          have hW3 := hWy.but hB3 n2
          have hTp : 0 < T p := turn_pos F.out.nar.w (F.out.ends p hlv.out.2)
          have hd : Below w3.heap.size w3 w3.drew := (Below.refl _ _).drew
          have H4 := H3.step hd
          have hW4 := hW3.step hd
          have hB4 := hB3.trans (But.of (hd.mono hB3.size))
          have hbs : ∀ m : Nat → Bool, (big 201 (fun j => Value.bool (m j))).size = 201 := fun m => big_size _ _
          have hbn : ∀ m : Nat → Bool, ¬ big 201 (fun j => Value.bool (m j)) = #[] := fun m => big_ne _ _ (by decide)
          go_wp2_with fail
          go_region_with (first
            | (go_at_call 81; refine (junctionP_any wb n t v c k T A p _ hW4 hlt hTp).mono ?_; rintro e w5 ⟨rfl, rfl⟩)
            | (go_at_call 80; refine (region_any n (A p) p t v c _ hc hK hr hpK2).mono ?_; rintro e w6 ⟨mr, rfl, hreg, hb6⟩; have H6 := H4.step hb6)
            | (rw [st_big _ b (5 + p * 201) 201 (fun j => .bool (mr j)) (fun j hj => by rw [H6.r p j hlt hj]; rfl) (fun j hj => H6.f _ (by omega)) (fun _ _ => rfl)]))
          all_goals
            have H7 := H6.setR p hlt mr
            have hB7 := but_cells (hB4.trans (But.of (hb6.mono hB4.size))) (big 201 (fun j => Value.bool (mr j))).toList (5 + p * 201)
            have hS2 : Kp (RegS c lm (setR R p mr) (fun j => if j = p then true else W j) (p + 1)) := ⟨hS.out.zero F.out hlm mr hreg.out⟩
            obtain ⟨w7, hw7⟩ : ∃ w7, w6.setCells b (5 + p * 201) (big 201 (fun j => Value.bool (mr j))).toList = w7 := ⟨_, rfl⟩
            rw [hw7] at H7 hB7 ⊢
            clear hw7 H6 hb6 hB4 hB3 H3 H4 hW3 hW4 q0 q1 q2 q3 hreg hbs hbn hd
            go_wp2_with fail
            go_roundw
            case rel => exact ⟨p + 1, _, _, by go_num, by omega, H7, hB7, hS2⟩
            case measure => simp [intOf]; omega
        · have h9' : (opP c p == 9) = false := beq_eq_false_iff_ne.2 h9
          have hS2 : Kp (RegS c lm R (fun j => if j = p then true else W j) (p + 1)) := ⟨hS.out.plain hlm (fun k1 k2 => h9 (by unfold opP; rw [if_neg (by omega)]; exact k2))⟩
          go_wp2_with fail
          go_roundw
          case rel => exact ⟨p + 1, R, _, by go_num, by omega, H3, hB3, hS2⟩
          case measure => simp [intOf]; omega
    · have e : p = 201 := by omega
      subst e
      go_wp2_with fail
      first | go_end0 | refine bodyPost_ret (results_none rfl _ _ _) rfl ?_
      exact ⟨R, W, rfl, H, hB, hS⟩
end Go.Proofs.Ytcnmegalanaldaa
