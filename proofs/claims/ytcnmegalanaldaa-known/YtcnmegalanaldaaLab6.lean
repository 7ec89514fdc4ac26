/-
  The walks of the package check: labels settled, round by round; for every file that is scanned and has heights.
-/
import Derived.Test.YtcnmegalanaldaaLab5
import Derived.Deep.LoopGhost
namespace Go.Proofs.Ytcnmegalanaldaa
open Go.RowKit
set_option linter.unusedVariables false
set_option maxRecDepth 100000

/-- what a round leaves: g: some place handed on; those below q have been looked at -/
structure RoundS (c v t : ByteArray) (n : Int) (h : Nat → Int) (L0 : Int → Int → Int) (W0 : Nat → Bool) (L : Int → Int → Int) (W : Nat → Bool) (g : Bool) (q : Nat) : Prop where
  ok : LabOk c v t n h L
  all : ∀ i : Nat, (i : Int) < half c → Live c i → W i = false → Handed c v t n h L i
  wl : ∀ j : Nat, W j = true → (j : Int) ≤ half c ∧ Live c j
  no : g = false → W = W0 ∧ L = L0 ∧ ∀ i : Nat, i < q → W i = false
  yes : g = true → mu t n L W < mu t n L0 W0
  le : mu t n L W ≤ mu t n L0 W0

theorem RoundS.skip {c v t : ByteArray} {n : Int} {h : Nat → Int} {L0 L : Int → Int → Int} {W0 W : Nat → Bool} {g : Bool} {q : Nat} (S : RoundS c v t n h L0 W0 L W g q) (hq : W q = false) : RoundS c v t n h L0 W0 L W g (q + 1) :=
  ⟨S.ok, S.all, S.wl, fun hg => ⟨(S.no hg).1, (S.no hg).2.1, fun i hi => by
    by_cases e : i = q
    · subst e; exact hq
    · exact (S.no hg).2.2 i (by omega)⟩, S.yes, S.le⟩

theorem RoundS.hand {c v t : ByteArray} {n : Int} {h : Nat → Int} {L0 L L' : Int → Int → Int} {W0 W W' : Nat → Bool} {g : Bool} {q : Nat} (F : CodeF c v t n h) (S : RoundS c v t n h L0 W0 L W g q) (hq : W q = true) (hq2 : q < 201) (R : Ris c v t n h L (fun j => if j = q then false else W j) L' W') (hH : W' q = false → Handed c v t n h L' q) : RoundS c v t n h L0 W0 L' W' true (q + 1) := by
  have hmu := mu_del (t := t) (n := n) (L := L) hq2 hq
  have h1 := R.mu
  have h2 := S.le
  refine ⟨R.ok, fun i hi hl hw => ?_, fun j hj => ?_, fun hg => absurd hg (by simp), fun _ => by omega, by omega⟩
  · by_cases e : i = q
    · subst e; exact hH hw
    · have hs := R.rise.same i hw
      have hw2 : W i = false := by have := hs.1; simpa [e] using this
      have hI := F.ins (i := i) (by omega) hi
      exact (S.all i hi hl hw2).rise F.lat.lat S.ok.rng R.ok.rng (push_lv F.lat.lat S.ok.rng (fun k => (hI.vr (.inl k)).2) (fun k => hI.lv (.inl k))) R.rise hw
  · rcases R.wl j hj with k | k
    · by_cases e : j = q
      · simp [e] at k
      · simp [e] at k; exact S.wl j k
    · exact k

set_option maxHeartbeats 3200000 in
theorem round_any (b : Nat) (n : Int) (t v c : ByteArray) (hb : Nat) (R : Nat → Nat → Bool) (m : Nat → Bool) (h : Nat → Int) (L0 : Int → Int → Int) (W0 : Nat → Bool) (w : World) (S0 : LS w b n t v c hb R m h L0 W0) (F : Kp (CodeF c v t n h)) (hReg : Kp (RegOk c R)) (hS0 : Kp (RoundS c v t n h L0 W0 L0 W0 false 0)) :
    Calls Try.prog 82 #[.pointer (some ⟨b, 0, none⟩)] w fun e w' =>
      ∃ (g : Bool) (L : Int → Int → Int) (W : Nat → Bool), e = .returned (.bool g) ∧ LS w' b n t v c hb R m h L W ∧ But b w.heap.size w w' ∧ Kp (RoundS c v t n h L0 W0 L W g (half c).toNat) := by
  have hh := (half_bd c).1
  have hK := F.out.hK
  have hc := F.out.hc
  go_enter Try.func82, Try.ntmps82
  go_wp2_with fail
  have hB0 := But.refl b w.heap.size w
  go_loopw [3, 4] (fun g i wr => ∃ (gb : Bool) (p : Nat) (L : Int → Int → Int) (W : Nat → Bool), g = .bool gb ∧ (p : Int) ≤ half c ∧ i = .int .i64 p ∧ LS wr b n t v c hb R m h L W ∧ But b w.heap.size w wr ∧ Kp (RoundS c v t n h L0 W0 L W gb p)) (fun _ i _ => (half c).toNat - (intOf i).toNat)
  case atStart => exact ⟨false, 0, L0, W0, rfl, by omega, rfl, S0, hB0, hS0⟩
  case round =>
    clear S0 hB0 hS0
    obtain ⟨gb, p, L, W, rfl, hp, rfl, S, hB, hS⟩ := hrel
    have q0 := S.lab.c0
    have q1 := S.lab.c1
    have q2 := S.lab.c2
    have q3 := S.lab.c3
    go_wp2_with fail
    refine (length_any n t v c _ hc).mono ?_
    rintro e w4 ⟨rfl, hb4⟩
    have S4 := S.step hb4
    have hB4 := hB.trans (But.of (hb4.mono hB.size))
    clear q0 q1 q2 q3 S hB hb4
    by_cases hlt : (p : Int) < half c
    · cases hW : W p with
      | false =>
        have hS2 : Kp (RoundS c v t n h L0 W0 L W gb (p + 1)) := ⟨hS.out.skip hW⟩
        go_wp2_with fail
        refine (remove_not b 42215 W p _ S4.lab.wait (by omega) hW).mono ?_
        rintro e w5 ⟨rfl, rfl⟩
        go_wp2_with fail
        go_roundw
        case rel => exact ⟨gb, p + 1, L, W, rfl, by omega, by go_num, S4, hB4, hS2⟩
        case measure => simp [intOf]; omega
      | true =>
        have hl : Kp (Live c p) := ⟨(hS.out.wl p hW).2⟩
        go_wp2_with fail
        refine (remove_old b 42215 W p _ S4.lab.wait (by omega) hW).mono ?_
        rintro e w5 ⟨rfl, hw5⟩
        have S5 : LS w5 b n t v c hb R m h L (fun j => if j = p then false else W j) := by
          rw [hw5]; exact S4.to ((But.refl b _ _).setCell _ _) (S4.lab.setW p (by omega) false)
        have hB5 : But b w.heap.size w w5 := by rw [hw5]; exact hB4.setCell _ _
        replace hW : Kp _ := ⟨hW⟩
        clear hw5 S4 hB4
        go_wp2_with fail
        refine (handOn_any b n t v c hb R m h L (fun j => if j = p then false else W j) p _ S5 F hReg ⟨hS.out.ok⟩ hlt hl).mono ?_
        rintro e w6 ⟨L2, W2, rfl, S6, hb6, hR6⟩
        have hB6 := hB5.trans (hb6.mono hB5.size)
        have hS2 : Kp (RoundS c v t n h L0 W0 L2 W2 true (p + 1)) := ⟨hS.out.hand F.out hW.out (by omega) hR6.out.1 hR6.out.2⟩
        clear S5 hB5 hb6 hR6 hS
        go_wp2_with fail
        go_roundw
        case rel => exact ⟨true, p + 1, L2, W2, rfl, by omega, by go_num, S6, hB6, hS2⟩
        case measure => simp [intOf]; omega
    · have e : p = (half c).toNat := by omega
      have hS2 : Kp (RoundS c v t n h L0 W0 L W gb (half c).toNat) := ⟨by rw [← e]; exact hS.out⟩
      clear hS
      go_wp2_with fail
      go_ret
      exact ⟨gb, L, W, rfl, S4, hB4, hS2⟩

/-- labels that are settled -/
structure Settled (c v t : ByteArray) (n : Int) (h : Nat → Int) (L : Int → Int → Int) : Prop where
  ok : LabOk c v t n h L
  all : ∀ i : Int, 0 ≤ i → i < half c → Live c i → Handed c v t n h L i

/-- what settling leaves -/
def SettlePost (b : Nat) (n : Int) (t v c : ByteArray) (hb : Nat) (R : Nat → Nat → Bool) (m : Nat → Bool) (h : Nat → Int) (w : World) (e : Ending) (w' : World) : Prop :=
  ∃ (L : Int → Int → Int) (W : Nat → Bool), e = .returned (.tuple #[]) ∧ LS w' b n t v c hb R m h L W ∧ But b w.heap.size w w' ∧ Kp (Settled c v t n h L)

set_option maxHeartbeats 3200000 in
theorem settle_any (b : Nat) (n : Int) (t v c : ByteArray) (hb : Nat) (R : Nat → Nat → Bool) (m : Nat → Bool) (h : Nat → Int) (L0 : Int → Int → Int) (W0 : Nat → Bool) (w : World) (S0 : LS w b n t v c hb R m h L0 W0) (F : Kp (CodeF c v t n h)) (hReg : Kp (RegOk c R)) (hS0 : Kp (RoundS c v t n h L0 W0 L0 W0 false 0)) :
    Calls Try.prog 57 #[.pointer (some ⟨b, 0, none⟩)] w (SettlePost b n t v c hb R m h w) := by
  have hh := (half_bd c).1
  go_enter Try.func57, Try.ntmps57
  go_wp2_with fail
  have hB0 := But.refl b w.heap.size w
  go_loopg [2] (mu t n L0 W0 + 1) (fun gm g wr => ∃ (gb : Bool) (L : Int → Int → Int) (W : Nat → Bool), g = .bool gb ∧ gm = mu t n L W + (if gb then 1 else 0) ∧ LS wr b n t v c hb R m h L W ∧ But b w.heap.size w wr ∧ Kp (RoundS c v t n h L W L W false 0) ∧ Kp (gb = false → ∀ i : Nat, (i : Int) < half c → W i = false))
  case atStart => exact ⟨true, L0, W0, rfl, by simp, S0, hB0, hS0, ⟨fun h => absurd h (by simp)⟩⟩
  case round =>
    clear S0 hB0 hS0
    obtain ⟨gb, L, W, rfl, hgm, S, hB, hS, hN⟩ := hrel
    replace hgm : Kp _ := ⟨hgm⟩
    cases gb
    · have hE : Kp (Settled c v t n h L) := ⟨hS.out.ok, fun i h0 h1 hl => by
        have e : ((i.toNat : Nat) : Int) = i := Int.toNat_of_nonneg h0
        have := hS.out.all i.toNat (by rw [e]; exact h1) (by rw [e]; exact hl) (hN.out rfl i.toNat (by rw [e]; exact h1))
        rwa [e] at this⟩
      go_wp2_with fail
      first | go_end0 | refine bodyPost_ret (results_none rfl _ _ _) rfl ?_
      exact ⟨L, W, rfl, S, hB, hE⟩
    · clear hN
      go_wp2_with fail
      refine (round_any b n t v c hb R m h L W _ S F hReg hS).mono ?_
      rintro e w5 ⟨g, L2, W2, rfl, S5, hb5, hR5⟩
      have hB5 := hB.trans (hb5.mono hB.size)
      clear S hB hb5 hS
      go_wp2_with fail
      go_roundg (mu t n L2 W2 + (if g then 1 else 0))
      case measure =>
        have h1 := hgm.out
        have h2 := hR5.out.le
        have h3 := hR5.out.yes
        simp at h1
        cases g
        · simp; omega
        · have := h3 rfl; simp; omega
      case rel =>
        refine ⟨g, L2, W2, rfl, rfl, S5, hB5, ⟨⟨hR5.out.ok, hR5.out.all, hR5.out.wl, fun _ => ⟨rfl, rfl, fun i hi => absurd hi (by omega)⟩, fun h => absurd h (by simp), Nat.le_refl _⟩⟩, ⟨fun hg i hi => ?_⟩⟩
        exact (hR5.out.no hg).2.2 i (by omega)
end Go.Proofs.Ytcnmegalanaldaa
