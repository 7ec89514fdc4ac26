/-
  The walks of the package paths: ways found and narrowed, round by round; for every file whose places are places.
-/
import Derived.Test.YtcnbifdlkalimaaWay6
namespace Go.Proofs.Ytcnbifdlkalimaa
open Go.RowKit
set_option linter.unusedVariables false
set_option maxRecDepth 100000

/-- how many of the first k places have no way yet -/
def cntW (T : Int → Int) (k : Nat) : Nat := cntF (fun j => decide (0 < T j)) k

/-- what one round of growing leaves: from k0, T0 to k1, T1; g: something was found; done from place q on -/
structure GrowS (c : ByteArray) (T0 T A : Int → Int) (k : Int) (g : Bool) (q : Int) : Prop where
  ok : GOk c T A k
  bd : k + cntW T 201 ≤ 201
  no : g = false → T = T0 ∧ ∀ x s, q ≤ x → x < half c → s ∈ nxt c x → 0 < T s → 0 < T x
  yes : g = true → cntW T 201 < cntW T0 201
  le : cntW T 201 ≤ cntW T0 201

theorem cntW_upd {T : Int → Int} {p : Nat} {x : Int} (hp : p < 201) (h : T p = 0) (hx : 0 < x) : cntW (upd T p x) 201 + 1 = cntW T 201 := by
  have h2 := cntF_set (m := fun j => decide (0 < T j)) (k := 201) (j := p) hp (by simp; omega)
  unfold cntW
  rw [← h2]
  congr 1
  refine cntF_same (fun i _ => ?_)
  by_cases e : i = p
  · subst e; rw [upd_at]; simp [hx]
  · rw [upd_ne (by omega)]; simp [e]

theorem GrowS.skip {c : ByteArray} {T0 T A : Int → Int} {k : Int} {g : Bool} {p : Int} (h : GrowS c T0 T A k g (p + 1)) (hs : ∀ s, s ∈ nxt c p → 0 < T s → 0 < T p) : GrowS c T0 T A k g p :=
  ⟨h.ok, h.bd, fun hg => ⟨(h.no hg).1, fun x s h1 h2 h3 h4 => by
    by_cases e : x = p
    · subst e; exact hs s h3 h4
    · exact (h.no hg).2 x s (by omega) h2 h3 h4⟩, h.yes, h.le⟩

theorem GrowS.add {c : ByteArray} {T0 T A : Int → Int} {k : Int} {g : Bool} {p : Nat} {s : Int} (h : GrowS c T0 T A k g ((p : Int) + 1)) (hp : (p : Int) < half c) (hK : half c ≤ 200) (hT : T p = 0) (hs : s ∈ nxt c p) (hs0 : 0 < T s) : GrowS c T0 (upd T p (k + 1)) (upd A p s) (k + 1) true p := by
  have h1 : 1 ≤ k := by have := h.ok.top (half c); rw [h.ok.fin] at this; exact this
  have hc := cntW_upd (T := T) (p := p) (x := k + 1) (by omega) hT (by omega)
  have hb := h.bd
  have hl := h.le
  exact ⟨grow_add h.ok (by omega) hp hT hs hs0, by omega, fun h => absurd h (by simp), fun _ => by omega, by omega⟩

set_option maxHeartbeats 1600000 in
theorem grow_any (b : Nat) (n k0 : Int) (t v c : ByteArray) (T0 A0 : Int → Int) (w : World) (hc : c.size ≤ maxLen) (hK : half c ≤ 200) (hr : Kp (Ranged c)) (H : WaysAt w b n t v c k0 T0 A0) (hG : Kp (GOk c T0 A0 k0)) (hbd : Kp (k0 + cntW T0 201 ≤ 201)) :
    Calls Try.prog 104 #[.pointer (some ⟨b, 0, none⟩)] w fun e w' =>
      ∃ (g : Bool) (k : Int) (T A : Int → Int), e = .returned (.bool g) ∧ WaysAt w' b n t v c k T A ∧ Kp (GrowS c T0 T A k g 0) ∧ But b w.heap.size w w' := by
  have hh := (half_bd c).1
  have q0 := H.c0
  have q1 := H.c1
  have q2 := H.c2
  have q3 := H.c3
  go_enter Try.func104, Try.ntmps104
  go_wp2_with fail
  refine (length_any n t v c _ hc).mono ?_
  rintro e w1 ⟨rfl, hb1⟩
  have H1 := H.step hb1
  have hlt := H.lt
  have hG1 : Kp (GrowS c T0 T0 A0 k0 false (half c)) := ⟨⟨hG.out, hbd.out, fun _ => ⟨rfl, fun x s h1 h2 => absurd h2 (by omega)⟩, fun h => absurd h (by simp), Nat.le_refl _⟩⟩
  have hB1 : But b w.heap.size w w1 := But.of hb1
  clear q0 q1 q2 q3 H hG hbd hb1
  go_wp2_with fail
  go_loopw [3, 4] (fun g i wr => ∃ (gb : Bool) (p : Nat) (k : Int) (T A : Int → Int), g = .bool gb ∧ (p : Int) ≤ half c ∧ i = .int .i64 ((p : Int) - 1) ∧ WaysAt wr b n t v c k T A ∧ Kp (GrowS c T0 T A k gb p) ∧ But b w.heap.size w wr) (fun _ i _ => (intOf i + 1).toNat)
  case atStart => exact ⟨false, (half c).toNat, k0, T0, A0, rfl, by omega, by rw [Int.toNat_of_nonneg hh], H1, ⟨by rw [Int.toNat_of_nonneg hh]; exact hG1.out⟩, hB1⟩
  case round =>
    clear H1 hG1 hB1
    obtain ⟨gb, p, k, T, A, rfl, hp, rfl, H, hS, hB⟩ := hrel
    cases p with
    | zero =>
      go_wp2_with fail
      go_ret
      exact ⟨gb, k, T, A, rfl, H, hS, hB⟩
    | succ p =>
      rw [show (((p + 1 : Nat) : Int) - 1) = (p : Int) from by omega]
      have hp2 : (p : Int) < half c := by omega
      replace hS : Kp (GrowS c T0 T A k gb ((p : Int) + 1)) := ⟨by have := hS.out; rwa [show ((p + 1 : Nat) : Int) = (p : Int) + 1 from by omega] at this⟩
      clear hp
      obtain ⟨⟨n1, n2⟩, n3, n4⟩ := nx_in hr.out (k := p) (by omega) (by omega)
      obtain ⟨a1, e1⟩ : ∃ a1 : Nat, nx1 c p = a1 := ⟨(nx1 c p).toNat, by omega⟩
      obtain ⟨a2, e2⟩ : ∃ a2 : Nat, nx2 c p = a2 := ⟨(nx2 c p).toNat, by omega⟩
      have m1 : Kp ((a1 : Int) ∈ nxt c p) := ⟨(mem_nxt hp2).2 (.inl e1.symm)⟩
      have m2 : Kp ((a2 : Int) ∈ nxt c p) := ⟨(mem_nxt hp2).2 (.inr e2.symm)⟩
      have m3 : Kp (∀ x, x ∈ nxt c p → x = a1 ∨ x = a2) := ⟨fun x hx => by have := (mem_nxt hp2).1 hx; rwa [e1, e2] at this⟩
      rw [e1] at n1 n2
      rw [e2] at n3 n4
      have q0 := H.c0
      have q1 := H.c1
      have q2 := H.c2
      have q3 := H.c3
      go_wp2_with fail
      refine (behind_any n p t v c _ hc hK (by omega) (by omega)).mono ?_
      rintro e w2 ⟨rfl, hb2⟩
      have H2 := H.step hb2
      have hB2 := hB.trans (But.of (hb2.mono hB.size))
      clear q0 q1 q2 q3 H hB hb2
      rw [e1, e2]
      clear e1 e2
      go_wp2_with fail
      refine (ends_any b n t v c k T A a1 _ H2 (by omega)).mono ?_
      rintro e w3 ⟨rfl, rfl⟩
      by_cases hT1 : 0 < T a1
      · rw [decide_eq_true hT1]
        have hmem := m1
        have hpos : Kp (0 < T a1) := ⟨hT1⟩
        go_wp2_with fail
        refine (ends_any b n t v c k T A a1 _ H2 (by omega)).mono ?_
        rintro e w3 ⟨rfl, rfl⟩
        rw [decide_eq_true hT1]
        clear hT1
        by_cases hTp : 0 < T p
        · have hS2 : Kp (GrowS c T0 T A k gb p) := ⟨hS.out.skip (fun _ _ _ => hTp)⟩
          go_wp2_with fail
          refine (addw_old b n a1 t v c k T A p _ H2 (by omega) hTp).mono ?_
          rintro e w3 ⟨rfl, rfl⟩
          go_wp2_with fail
          go_roundw
          case rel => exact ⟨gb, p, k, T, A, rfl, by omega, rfl, H2, hS2, hB2⟩
          case measure => simp [intOf]
        · have hT0 : T p = 0 := by have := hS.out.ok.nn p; omega
          have hk1 := hS.out.ok.top (half c)
          rw [hS.out.ok.fin] at hk1
          have hk2 := hS.out.bd
          have hS2 : Kp (GrowS c T0 (upd T p (k + 1)) (upd A p a1) (k + 1) true p) := ⟨hS.out.add hp2 hK hT0 hmem.out hpos.out⟩
          go_wp2_with fail
          refine (addw_new b n a1 t v c k T A p _ H2 (by omega) hT0 (by omega) (by omega)).mono ?_
          rintro e w3 ⟨rfl, H3, hb3⟩
          have hB3 := hB2.trans (hb3.mono hB2.size)
          clear H2 hB2 hb3
          go_wp2_with fail
          go_roundw
          case rel => exact ⟨true, p, k + 1, _, _, rfl, by omega, rfl, H3, hS2, hB3⟩
          case measure => simp [intOf]
      · rw [decide_eq_false hT1]
        go_wp2_with fail
        refine (ends_any b n t v c k T A a2 _ H2 (by omega)).mono ?_
        rintro e w3 ⟨rfl, rfl⟩
        by_cases hT2 : 0 < T a2
        · rw [decide_eq_true hT2]
          have hmem := m2
          have hpos : Kp (0 < T a2) := ⟨hT2⟩
          clear hT1 hT2
          by_cases hTp : 0 < T p
          · have hS2 : Kp (GrowS c T0 T A k gb p) := ⟨hS.out.skip (fun _ _ _ => hTp)⟩
            go_wp2_with fail
            refine (addw_old b n a2 t v c k T A p _ H2 (by omega) hTp).mono ?_
            rintro e w3 ⟨rfl, rfl⟩
            go_wp2_with fail
            go_roundw
            case rel => exact ⟨gb, p, k, T, A, rfl, by omega, rfl, H2, hS2, hB2⟩
            case measure => simp [intOf]
          · have hT0 : T p = 0 := by have := hS.out.ok.nn p; omega
            have hk1 := hS.out.ok.top (half c)
            rw [hS.out.ok.fin] at hk1
            have hk2 := hS.out.bd
            have hS2 : Kp (GrowS c T0 (upd T p (k + 1)) (upd A p a2) (k + 1) true p) := ⟨hS.out.add hp2 hK hT0 hmem.out hpos.out⟩
            go_wp2_with fail
            refine (addw_new b n a2 t v c k T A p _ H2 (by omega) hT0 (by omega) (by omega)).mono ?_
            rintro e w3 ⟨rfl, H3, hb3⟩
            have hB3 := hB2.trans (hb3.mono hB2.size)
            clear H2 hB2 hb3
            go_wp2_with fail
            go_roundw
            case rel => exact ⟨true, p, k + 1, _, _, rfl, by omega, rfl, H3, hS2, hB3⟩
            case measure => simp [intOf]
        · rw [decide_eq_false hT2]
          have hS2 : Kp (GrowS c T0 T A k gb p) := ⟨hS.out.skip (fun s hs h => by rcases m3.out s hs with e | e <;> (rw [e] at h; omega))⟩
          go_wp2_with fail
          go_roundw
          case rel => exact ⟨gb, p, k, T, A, rfl, by omega, rfl, H2, hS2, hB2⟩
          case measure => simp [intOf]
end Go.Proofs.Ytcnbifdlkalimaa
