/-
  The walks of the package paths: where two ways meet; for every file whose ways are found.
-/
import Derived.Test.YtcnbifdlkalimaaWay5
namespace Go.Proofs.Ytcnbifdlkalimaa
open Go.RowKit
set_option linter.unusedVariables false
set_option maxRecDepth 100000

/-- what meeting answers at place p -/
structure MeetR (c : ByteArray) (T A : Int → Int) (p m : Int) (ok : Bool) : Prop where
  yes : ok = true → MeetAt c T A p m
  no : ok = false → ∃ q, q ∈ nxt c p ∧ T q = 0

/-- what is kept while two ways are gone along -/
structure MeetS (c : ByteArray) (T A : Int → Int) (q1 q2 x y : Int) : Prop where
  x0 : 0 ≤ x
  x1 : x ≤ half c
  y0 : 0 ≤ y
  y1 : y ≤ half c
  wx : OnWay c A q1 x
  wy : OnWay c A q2 y
  px : x = q1 ∨ (0 < T q1 ∧ 0 < T x)
  py : y = q2 ∨ (0 < T q2 ∧ 0 < T y)
  com : ∀ d, OnWay c A q1 d → OnWay c A q2 d → OnWay c A x d ∧ OnWay c A y d

theorem MeetS.left {c : ByteArray} {T A : Int → Int} {q1 q2 x y : Int} (H : WOk c T A) (S : MeetS c T A q1 q2 x y) (hx : T x ≠ 0) (hy : T y ≠ 0) (hlt : T y < T x) : MeetS c T A q1 q2 (A x) y ∧ T (A x) < T x ∧ 0 ≤ T (A x) := by
  have nx := H.nn x
  have ny := H.nn y
  have hK : x ≠ half c := fun e => by rw [e, H.fin] at hlt; omega
  have hd := H.down x (by omega) hK
  have hp := H.pos _ hd.1
  refine ⟨⟨hp.1, hp.2, S.y0, S.y1, S.wx.snoc hK, S.wy, .inr ⟨?_, hd.1⟩, S.py, fun d h1 h2 => ?_⟩, hd.2, by omega⟩
  · rcases S.px with h | h
    · rw [← h]; omega
    · exact h.1
  · have hc := S.com d h1 h2
    refine ⟨?_, hc.2⟩
    rcases hc.1.cases with h | ⟨_, h⟩
    · have := way_le H (by omega) hc.2
      rw [h] at this
      omega
    · exact h

theorem MeetS.right {c : ByteArray} {T A : Int → Int} {q1 q2 x y : Int} (H : WOk c T A) (S : MeetS c T A q1 q2 x y) (hx : T x ≠ 0) (hy : T y ≠ 0) (hne : x ≠ y) (hlt : ¬ T y < T x) : MeetS c T A q1 q2 x (A y) ∧ T (A y) < T y ∧ 0 ≤ T (A y) := by
  have nx := H.nn x
  have ny := H.nn y
  have hl : T x < T y := by
    rcases Int.lt_or_eq_of_le (by omega : T x ≤ T y) with h | h
    · exact h
    · exact absurd (H.inj x y (by omega) h) hne
  have hK : y ≠ half c := fun e => by rw [e, H.fin] at hl; omega
  have hd := H.down y (by omega) hK
  have hp := H.pos _ hd.1
  refine ⟨⟨S.x0, S.x1, hp.1, hp.2, S.wx, S.wy.snoc hK, S.px, .inr ⟨?_, hd.1⟩, fun d h1 h2 => ?_⟩, hd.2, by omega⟩
  · rcases S.py with h | h
    · rw [← h]; omega
    · exact h.1
  · have hc := S.com d h1 h2
    refine ⟨hc.1, ?_⟩
    rcases hc.2.cases with h | ⟨_, h⟩
    · have := way_le H (by omega) hc.1
      rw [h] at this
      omega
    · exact h

theorem MeetS.none {c : ByteArray} {T A : Int → Int} {p x y : Int} (h0 : 0 ≤ p) (h1 : p < half c) (S : MeetS c T A (nx1 c p) (nx2 c p) x y) (h : T x = 0 ∨ T y = 0) : MeetR c T A p 0 false := by
  refine ⟨fun h => absurd h (by simp), fun _ => ?_⟩
  rcases h with h | h
  · rcases S.px with k | k
    · exact ⟨nx1 c p, (mem_nxt h1).2 (.inl rfl), by rw [← k]; exact h⟩
    · omega
  · rcases S.py with k | k
    · exact ⟨nx2 c p, (mem_nxt h1).2 (.inr rfl), by rw [← k]; exact h⟩
    · omega

theorem MeetS.met {c : ByteArray} {T A : Int → Int} {p x : Int} (H : WOk c T A) (h0 : 0 ≤ p) (h1 : p < half c) (S : MeetS c T A (nx1 c p) (nx2 c p) x x) : MeetR c T A p x (decide (0 < T x)) := by
  have nx := H.nn x
  refine ⟨fun h => ?_, fun h => ?_⟩
  · have hx := of_decide_eq_true h
    refine ⟨fun q hq => ?_, fun d hd => ?_⟩
    · rcases (mem_nxt h1).1 hq with e | e
      · rw [e]
        refine ⟨?_, S.wx⟩
        rcases S.px with k | k
        · rw [← k]; exact hx
        · exact k.1
      · rw [e]
        refine ⟨?_, S.wy⟩
        rcases S.py with k | k
        · rw [← k]; exact hx
        · exact k.1
    · exact (S.com d (hd _ ((mem_nxt h1).2 (.inl rfl))) (hd _ ((mem_nxt h1).2 (.inr rfl)))).1
  · have hx := of_decide_eq_false h
    have h3 := S.none h0 h1 (.inl (by omega))
    exact h3.no rfl

set_option maxHeartbeats 1600000 in
theorem meeting_any (b p : Nat) (n k : Int) (t v c : ByteArray) (T A : Int → Int) (w : World) (hc : c.size ≤ maxLen) (hK : half c ≤ 200) (hr : Kp (Ranged c)) (H : WaysAt w b n t v c k T A) (hW : Kp (WOk c T A)) (hp : (p : Int) < half c) :
    Calls Try.prog 143 #[.pointer (some ⟨b, 0, none⟩), .int .i64 p] w fun e w' =>
      ∃ (m : Int) (ok : Bool), e = .returned (.tuple #[.int .i64 m, .bool ok]) ∧ Kp (MeetR c T A p m ok) ∧ Below w.heap.size w w' := by
  obtain ⟨⟨n1, n2⟩, n3, n4⟩ := nx_in hr.out (k := p) (by omega) (by omega)
  have hS : Kp (MeetS c T A (nx1 c p) (nx2 c p) (nx1 c p) (nx2 c p)) := ⟨⟨n1, n2, n3, n4, OnWay.refl _ _ _, OnWay.refl _ _ _, .inl rfl, .inl rfl, fun d h1 h2 => ⟨h1, h2⟩⟩⟩
  have q0 := H.c0
  have q1 := H.c1
  have q2 := H.c2
  have q3 := H.c3
  go_enter Try.func143, Try.ntmps143
  go_wp2_with fail
  refine (behind_any n p t v c _ hc hK (by omega) (by omega)).mono ?_
  rintro e w1 ⟨rfl, hb1⟩
  have H1 := H.step hb1
  clear q0 q1 q2 q3 H
  go_wp2_with fail
  go_loop [6, 7] (fun x y => ∃ (x1 y1 : Nat), x = .int .i64 x1 ∧ y = .int .i64 y1 ∧ Kp (MeetS c T A (nx1 c p) (nx2 c p) x1 y1)) (fun x y => (T (intOf x) + T (intOf y)).toNat)
  case atStart => exact ⟨(nx1 c p).toNat, (nx2 c p).toNat, by rw [Int.toNat_of_nonneg n1], by rw [Int.toNat_of_nonneg n3], ⟨by rw [Int.toNat_of_nonneg n1, Int.toNat_of_nonneg n3]; exact hS.out⟩⟩
  case round =>
    clear hS n1 n2 n3 n4
    obtain ⟨x, y, rfl, rfl, hS⟩ := hrel
    have x1 := hS.out.x1
    have y1 := hS.out.y1
    by_cases hxy : x = y
    · subst hxy
      have hR : Kp (MeetR c T A p x (decide (0 < T x))) := ⟨hS.out.met hW.out (by omega) hp⟩
      go_wp2_with fail
      refine (ends_any b n t v c k T A x _ H1 (by omega)).mono ?_
      rintro e w2 ⟨rfl, rfl⟩
      go_wp2_with fail
      go_ret2
      exact ⟨x, _, rfl, hR, hb1⟩
    · have hne : ((x : Int) != (y : Int)) = true := by simp; omega
      have hne' : (x : Int) ≠ (y : Int) := by omega
      replace hne' : Kp _ := ⟨hne'⟩
      clear hxy
      go_wp2_with fail
      refine (turn_any b n t v c k T A x _ H1 (by omega)).mono ?_
      rintro e w2 ⟨rfl, rfl⟩
      go_wp2_with fail
      refine (turn_any b n t v c k T A y _ H1 (by omega)).mono ?_
      rintro e w2 ⟨rfl, rfl⟩
      have nx := hW.out.nn x
      have ny := hW.out.nn y
      obtain ⟨tx, htx⟩ : ∃ tx, T x = tx := ⟨_, rfl⟩
      obtain ⟨ty, hty⟩ : ∃ ty, T y = ty := ⟨_, rfl⟩
      rw [htx, hty]
      rw [htx] at nx
      rw [hty] at ny
      by_cases h0 : tx = 0
      · have hR : Kp (MeetR c T A p 0 false) := ⟨hS.out.none (by omega) hp (.inl (by rw [htx]; exact h0))⟩
        replace htx : Kp _ := ⟨htx⟩
        replace hty : Kp _ := ⟨hty⟩
        subst h0
        go_wp2_with fail
        go_ret2
        exact ⟨0, false, rfl, hR, hb1⟩
      · have h1 : (tx == 0) = false := beq_eq_false_iff_ne.2 h0
        by_cases h02 : ty = 0
        · have hR : Kp (MeetR c T A p 0 false) := ⟨hS.out.none (by omega) hp (.inr (by rw [hty]; exact h02))⟩
          replace htx : Kp _ := ⟨htx⟩
          replace hty : Kp _ := ⟨hty⟩
          subst h02
          go_wp2_with fail
          go_ret2
          exact ⟨0, false, rfl, hR, hb1⟩
        · have h2 : (ty == 0) = false := beq_eq_false_iff_ne.2 h02
          by_cases hlt : ty < tx
          · obtain ⟨hS2, hdn, hnn⟩ := hS.out.left hW.out (by rw [htx]; omega) (by rw [hty]; omega) (by rw [htx, hty]; exact hlt)
            have hax := hS2.x0
            replace hS2 : Kp _ := ⟨hS2⟩
            replace hdn : Kp _ := ⟨hdn⟩
            replace hnn : Kp _ := ⟨hnn⟩
            replace htx : Kp _ := ⟨htx⟩
            replace hty : Kp _ := ⟨hty⟩
            go_wp2_with fail
            refine (step_any b n t v c k T A x _ H1 (by omega)).mono ?_
            rintro e w2 ⟨rfl, rfl⟩
            go_wp2_with fail
            refine ⟨⟨(A x).toNat, y, by rw [Int.toNat_of_nonneg hax], rfl, ⟨by rw [Int.toNat_of_nonneg hax]; exact hS2.out⟩⟩, ?_⟩
            have h3 := hdn.out
            have h4 := hnn.out
            have h5 := htx.out
            have h6 := hty.out
            simp only [intOf]
            omega
          · obtain ⟨hS2, hdn, hnn⟩ := hS.out.right hW.out (by rw [htx]; omega) (by rw [hty]; omega) hne'.out (by rw [htx, hty]; exact hlt)
            have hax := hS2.y0
            replace hS2 : Kp _ := ⟨hS2⟩
            replace hdn : Kp _ := ⟨hdn⟩
            replace hnn : Kp _ := ⟨hnn⟩
            replace htx : Kp _ := ⟨htx⟩
            replace hty : Kp _ := ⟨hty⟩
            go_wp2_with fail
            refine (step_any b n t v c k T A y _ H1 (by omega)).mono ?_
            rintro e w2 ⟨rfl, rfl⟩
            go_wp2_with fail
            refine ⟨⟨x, (A y).toNat, rfl, by rw [Int.toNat_of_nonneg hax], ⟨by rw [Int.toNat_of_nonneg hax]; exact hS2.out⟩⟩, ?_⟩
            have h3 := hdn.out
            have h4 := hnn.out
            have h5 := htx.out
            have h6 := hty.out
            simp only [intOf]
            omega
end Go.Proofs.Ytcnbifdlkalimaa
