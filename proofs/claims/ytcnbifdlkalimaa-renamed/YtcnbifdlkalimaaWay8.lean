/-
  The walks of the package paths: ways narrowed, round by round, until none turns; for every file whose places are places.
-/
import Derived.Test.YtcnbifdlkalimaaWay7
namespace Go.Proofs.Ytcnbifdlkalimaa
open Go.RowKit
set_option linter.unusedVariables false
set_option maxRecDepth 100000

/-- what one round of narrowing leaves: g: some way was turned; done from place q on -/
structure NarS (c : ByteArray) (T A0 A : Int → Int) (U : Int → Int → Bool) (g : Bool) (q : Int) : Prop where
  ok : WOk c T A
  pass : Pass c T A U q
  no : g = false → A = A0 ∧ ∀ x, q ≤ x → 0 ≤ x → x < half c → (∀ s, s ∈ nxt c x → 0 < T s) → MeetAt c T A0 x (A0 x)
  yes : g = true → meas c (stepU c T U) < meas c U

theorem NarS.move {c : ByteArray} {T A0 A : Int → Int} {U : Int → Int → Bool} {g : Bool} {p m : Int} (hU : UOk c T U) (h : NarS c T A0 A U g (p + 1)) (h0 : 0 ≤ p) (h1 : p < half c) (M : MeetAt c T A p m) (hne : m ≠ A p) : NarS c T A0 (upd A p m) U true p :=
  ⟨ways_move h.ok h0 h1 M, pass_move h.ok hU h0 h1 M h.pass, fun h => absurd h (by simp), fun _ => meas_falls h.ok hU h.pass.sub h0 h1 M hne⟩

theorem NarS.same {c : ByteArray} {T A0 A : Int → Int} {U : Int → Int → Bool} {g : Bool} {p : Int} (hU : UOk c T U) (h : NarS c T A0 A U g (p + 1)) (h0 : 0 ≤ p) (h1 : p < half c) (M : MeetAt c T A p (A p)) : NarS c T A0 A U g p := by
  have hp := pass_move h.ok hU h0 h1 M h.pass
  rw [upd_same rfl] at hp
  refine ⟨h.ok, hp, fun hg => ⟨(h.no hg).1, fun x h2 h3 h4 h5 => ?_⟩, h.yes⟩
  by_cases e : x = p
  · subst e; rw [← (h.no hg).1]; exact M
  · exact (h.no hg).2 x (by omega) h3 h4 h5

theorem NarS.keep {c : ByteArray} {T A0 A : Int → Int} {U : Int → Int → Bool} {g : Bool} {p : Int} (hU : UOk c T U) (h : NarS c T A0 A U g (p + 1)) (hk : ∃ q, q ∈ nxt c p ∧ T q = 0) : NarS c T A0 A U g p := by
  obtain ⟨q, hq, hq0⟩ := hk
  refine ⟨h.ok, pass_keep h.ok hU hq hq0 h.pass, fun hg => ⟨(h.no hg).1, fun x h2 h3 h4 h5 => ?_⟩, h.yes⟩
  by_cases e : x = p
  · subst e; have := h5 q hq; omega
  · exact (h.no hg).2 x (by omega) h3 h4 h5

set_option maxHeartbeats 1600000 in
theorem narrow_any (b : Nat) (n k : Int) (t v c : ByteArray) (T A0 : Int → Int) (U : Int → Int → Bool) (w : World) (hc : c.size ≤ maxLen) (hK : half c ≤ 200) (hr : Kp (Ranged c)) (H : WaysAt w b n t v c k T A0) (hW : Kp (WOk c T A0)) (hU : Kp (UOk c T U)) (hs : Kp (∀ x d, 0 < T x → OnWay c A0 x d → U x d = true)) :
    Calls Try.prog 105 #[.pointer (some ⟨b, 0, none⟩)] w fun e w' =>
      ∃ (g : Bool) (A : Int → Int), e = .returned (.bool g) ∧ WaysAt w' b n t v c k T A ∧ Kp (NarS c T A0 A U g 0) ∧ But b w.heap.size w w' := by
  have hh := (half_bd c).1
  have q0 := H.c0
  have q1 := H.c1
  have q2 := H.c2
  have q3 := H.c3
  go_enter Try.func105, Try.ntmps105
  go_wp2_with fail
  refine (length_any n t v c _ hc).mono ?_
  rintro e w1 ⟨rfl, hb1⟩
  have H1 := H.step hb1
  have hS1 : Kp (NarS c T A0 A0 U false (half c)) := ⟨⟨hW.out, pass_begin hW.out hs.out, fun _ => ⟨rfl, fun x h1 h2 h3 => absurd h3 (by omega)⟩, fun h => absurd h (by simp)⟩⟩
  have hB1 : But b w.heap.size w w1 := But.of hb1
  clear q0 q1 q2 q3 H hW hs hb1
  go_wp2_with fail
  go_loopw [3, 4] (fun g i wr => ∃ (gb : Bool) (p : Nat) (A : Int → Int), g = .bool gb ∧ (p : Int) ≤ half c ∧ i = .int .i64 ((p : Int) - 1) ∧ WaysAt wr b n t v c k T A ∧ Kp (NarS c T A0 A U gb p) ∧ But b w.heap.size w wr) (fun _ i _ => (intOf i + 1).toNat)
  case atStart => exact ⟨false, (half c).toNat, A0, rfl, by omega, by rw [Int.toNat_of_nonneg hh], H1, ⟨by rw [Int.toNat_of_nonneg hh]; exact hS1.out⟩, hB1⟩
  case round =>
    clear H1 hS1 hB1
    obtain ⟨gb, p, A, rfl, hp, rfl, H, hS, hB⟩ := hrel
    cases p with
    | zero =>
      go_wp2_with fail
      go_ret
      exact ⟨gb, A, rfl, H, hS, hB⟩
    | succ p =>
      rw [show (((p + 1 : Nat) : Int) - 1) = (p : Int) from by omega]
      have hp2 : (p : Int) < half c := by omega
      replace hS : Kp (NarS c T A0 A U gb ((p : Int) + 1)) := ⟨by have := hS.out; rwa [show ((p + 1 : Nat) : Int) = (p : Int) + 1 from by omega] at this⟩
      clear hp
      go_wp2_with fail
      refine (meeting_any b p n k t v c T A _ hc hK hr H ⟨hS.out.ok⟩ hp2).mono ?_
      rintro e w2 ⟨m, ok, rfl, hM, hb2⟩
      have H2 := H.step hb2
      have hB2 := hB.trans (But.of (hb2.mono hB.size))
      clear H hB hb2
      cases ok
      · have hS2 : Kp (NarS c T A0 A U gb p) := ⟨hS.out.keep hU.out (hM.out.no rfl)⟩
        go_wp2_with fail
        go_roundw
        case rel => exact ⟨gb, p, A, rfl, by omega, rfl, H2, hS2, hB2⟩
        case measure => simp [intOf]
      · have hMM : Kp (MeetAt c T A p m) := ⟨hM.out.yes rfl⟩
        by_cases hm : m = A p
        · subst hm
          have hS2 : Kp (NarS c T A0 A U gb p) := ⟨hS.out.same hU.out (by omega) hp2 hMM.out⟩
          go_wp2_with fail
          refine (step_any b n t v c k T A p _ H2 (by omega)).mono ?_
          rintro e w3 ⟨rfl, rfl⟩
          go_wp2_with fail
          go_roundw
          case rel => exact ⟨gb, p, A, rfl, by omega, rfl, H2, hS2, hB2⟩
          case measure => simp [intOf]
        · have hS2 : Kp (NarS c T A0 (upd A p m) U true p) := ⟨hS.out.move hU.out (by omega) hp2 hMM.out hm⟩
          have hne : (m != A p) = true := by simpa using hm
          go_wp2_with fail
          refine (step_any b n t v c k T A p _ H2 (by omega)).mono ?_
          rintro e w3 ⟨rfl, rfl⟩
          go_wp2_with fail
          refine (move_any b n m t v c k T A p _ H2 (by omega)).mono ?_
          rintro e w3 ⟨rfl, hw3⟩
          have H3 : WaysAt w3 b n t v c k T (upd A p m) := by rw [hw3]; exact H2.setA p (by omega) m
          have hB3 : But b w.heap.size w w3 := by rw [hw3]; exact hB2.setCell _ _
          clear hw3 H2 hB2
          go_wp2_with fail
          go_roundw
          case rel => exact ⟨true, p, _, rfl, by omega, rfl, H3, hS2, hB3⟩
          case measure => simp [intOf]
end Go.Proofs.Ytcnbifdlkalimaa
