/-
  The walks of the document's own answer on what is let through (package sluiceref, P5), fifth part: the region of a choice; for every file all of whose ways lead to the end.
-/
import Derived.Test.YtcnbifdlkalimaaGreatChk4
import Derived.Deep.RegionWith
namespace Go.Proofs.YtcnbifdlkalimaaGreat
open Go.RowKit Go.Deep
set_option linter.unusedVariables false

theorem marked_next {c : ByteArray} {i : Nat} (hr : Ranged c) (hi : (i : Int) < half c) (wall p : Int) : Reach c (Marked c (fun j => isNxt c i j)) wall p ↔ Reach c (fun x => x ∈ nxt c i) wall p := by
  constructor
  · refine Reach.congr (fun x hx => ?_)
    have h2 : isNxt c i (x.toNat : Int) = true := hx.2.2
    rw [Int.toNat_of_nonneg hx.1] at h2
    exact of_decide_eq_true h2
  · refine Reach.congr (fun x hx => ?_)
    have h2 := hr i x ⟨by omega, hi, hx⟩
    refine ⟨h2.1, h2.2, ?_⟩
    show isNxt c i (x.toNat : Int) = true
    rw [Int.toNat_of_nonneg h2.1]
    exact decide_eq_true hx

set_option maxHeartbeats 1600000 in
theorem region_ref (n : Int) (i : Nat) (t v c : ByteArray) (w : World) (hc : c.size ≤ maxLen) (hk : half c ≤ 200) (hi : (i : Int) < half c) (hr : Kp (Ranged c)) (hend : Kp (∀ x, Reach c (One i) (-1) x → Reach c (One x) (-1) (half c))) :
    Calls Tryz.prog 21 #[.agg #[.int .i64 n, .string t, .string v, .string c, .int .i64 (half c)], .int .i64 i] w fun e w' =>
      ∃ g, e = .returned (.slice (some ⟨g, 0, none⟩) ((half c).toNat + 1) ((half c).toNat + 1)) ∧ w.heap.size ≤ g ∧ ∃ m : Nat → Bool, w'.rowIs g 4 ((half c).toNat + 1) (fun j => .bool (m j)) ∧ Kp (∀ p : Nat, (p : Int) ≤ half c → (m p = true ↔ Reg c i p)) ∧ Below w.heap.size w w' := by
  have hh := (half_bd c).1
  have hU := UBox.begin n t v c w
  go_enter Tryz.func21, Tryz.ntmps21
  go_wp2_with fail
  refine (junction_ref n i t v c _ hc hk hi hr hend).mono ?_
  rintro e w0 ⟨j, rfl, hJ, hb0⟩
  replace hU := hU.step hb0
  clear hb0
  have ol := hU.o.lt
  have q0 := hU.o.c 0 _ rfl
  have q1 := hU.o.c 1 _ rfl
  have q2 := hU.o.c 2 _ rfl
  have q3 := hU.o.c 3 _ rfl
  have q4 := hU.o.c 4 _ rfl
  go_wp2_with fail
  go_region_with (first | (go_at_call 53; refine (after_ref n i t v c _ hc (by omega) hi hk).mono ?_; rintro e w1 ⟨rfl, hrow, hb1⟩; have hU1 := hU.step ((Below.refl _ _).drew.trans hb1); have o0 := hU1.o.c 0 _ rfl; have o1 := hU1.o.c 1 _ rfl; have o2 := hU1.o.c 2 _ rfl; have o3 := hU1.o.c 3 _ rfl; have o4 := hU1.o.c 4 _ rfl) | (go_at_call 17; refine (from_ref n j _ (fun p => isNxt c i p) t v c _ hc hk hr hrow).mono ?_; rintro e w2 ⟨rfl, m, hrow2, hm, hb2⟩; replace hm : Kp _ := ⟨hm⟩))
  all_goals
    have hU2 := hU1.step hb2
    have hz1 := hU1.b.size
    have hreg : Kp (∀ p : Nat, (p : Int) ≤ half c → (m p = true ↔ Reg c i p)) := ⟨fun p hp => by
      rw [hm.out p hp, marked_next hr.out hi]
      constructor
      · intro h; exact ⟨j, hJ.out, h⟩
      · rintro ⟨k, hk2, h⟩
        have he : Reach c (One i) (-1) (half c) := hend.out i (Reach.start rfl (by omega))
        rw [IsJ.unique he hJ.out hk2]
        exact h⟩
    go_wp2
    go_ret
    exact ⟨_, rfl, by omega, m, hrow2, hreg, hU2.b⟩
end Go.Proofs.YtcnbifdlkalimaaGreat
