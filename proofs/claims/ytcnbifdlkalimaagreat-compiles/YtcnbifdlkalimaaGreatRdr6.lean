/-
  The walks of the document's order: the closed table; for every text of pairs, at most 1000 bytes.
-/
import Derived.Test.YtcnbifdlkalimaaGreatRdrH
import Derived.Test.YtcnbifdlkalimaaGreatTrnC
namespace Go.Proofs.YtcnbifdlkalimaaGreat
open Go.RowKit
set_option linter.unusedVariables false
set_option maxRecDepth 100000

theorem hop_same {l l' : List Int} (h : ∀ x y, Pr l x y ↔ Pr l' x y) : ∀ (k : Nat) (a b : Int), hopF l k a b = hopF l' k a b
  | 0, a, b => rfl
  | k + 1, a, b => by
    rw [Bool.eq_iff_iff, hop_succ, hop_succ]
    constructor
    · rintro (e | ⟨c, hc, h1⟩)
      · exact .inl e
      · exact .inr ⟨c, (h _ _).1 hc, by rw [← hop_same h k]; exact h1⟩
    · rintro (e | ⟨c, hc, h1⟩)
      · exact .inl e
      · exact .inr ⟨c, (h _ _).2 hc, by rw [hop_same h k]; exact h1⟩
theorem OnS.all {P S : ByteArray} (h : OnS P S (P.size / 2)) (x y : Int) : Pr (bl S) x y ↔ Pr (bl P) x y := by
  rw [h.pr]
  constructor
  · rintro ⟨i, hi, a, b⟩; exact ⟨i, by rw [bl_len]; omega, a, b⟩
  · rintro ⟨i, hi, a, b⟩; rw [bl_len] at hi; exact ⟨i, by omega, a, b⟩

set_option maxHeartbeats 1600000 in
theorem closed_any (P : ByteArray) (n : Nat) (w : World) (hP : P.size ≤ 1000) (hev : P.size % 2 = 0) (h1 : 1 ≤ n) (h6 : n ≤ 6) :
    Calls Tryz.prog 176 #[.string P, .int .i64 n] w fun e w' => e = .returned (.string (bs (cells (fun i j => hopF (bl P) (n - 1) i j) n))) ∧ Below w.heap.size w w' := by
  have hO := once_any P w hP hev
  obtain ⟨f, hf⟩ : ∃ f : Nat → Nat → Bool, (fun i j : Nat => hopF (bl P) (n - 1) i j) = f := ⟨_, rfl⟩
  rw [hf]
  replace hO : Kp _ := ⟨hO⟩
  replace hf : Kp _ := ⟨hf⟩
  have hni : (n : Int) ≤ 6 := by omega
  have hn1 : 1 ≤ (n : Int) := by omega
  go_enter Tryz.func176, Tryz.ntmps176
  go_wp2_with fail
  refine hO.out.mono ?_
  rintro e w1 ⟨S, rfl, hS, b1⟩
  have hh : Kp (∀ (a b : Nat) W, Calls Tryz.prog 195 #[.string S, .int .i64 a, .int .i64 b, .int .i64 ((n : Int) - 1)] W fun e w' => e = .returned (.bool (f a b)) ∧ w' = W) := ⟨fun a b W => by
    have := hop_any S (by have := hS.out.le; omega) (n - 1) a b W (by omega)
    rw [hop_same hS.out.all, show ((n - 1 : Nat) : Int) = (n : Int) - 1 from by omega] at this
    rw [← hf.out]
    exact this⟩
  replace b1 : Kp _ := ⟨b1⟩
  clear hS hO hf
  go_wp2_with fail
  go_loopw [6, 7] (fun tv av wr => ∃ a : Nat, a ≤ n ∧ tv = .string (bs (cellsTo f n (a * n))) ∧ av = .int .i64 a ∧ Kp (wr = w1)) (fun _ av _ => n - (intOf av).toNat)
  case atStart => exact ⟨0, by omega, by rw [Nat.zero_mul]; rfl, rfl, ⟨rfl⟩⟩
  case round =>
    obtain ⟨a, ha, rfl, rfl, hwr⟩ := hrel
    by_cases han : a < n
    · have hai : (a : Int) < (n : Int) := by omega
      obtain ⟨V0, hV0⟩ : ∃ V, bs (cellsTo f n (a * n)) = V := ⟨_, rfl⟩
      rw [hV0]
      replace hV0 : Kp _ := ⟨hV0⟩
      obtain ⟨wq, hwq⟩ : ∃ x, x = wr := ⟨_, rfl⟩
      go_wp2_with fail
      go_loopw [6, 8] (fun tv cv wr => ∃ c : Nat, c ≤ n ∧ tv = .string (bs (cellsTo f n (a * n + c))) ∧ cv = .int .i64 c ∧ Kp (wr = w1)) (fun _ cv _ => n - (intOf cv).toNat)
      case atStart => exact ⟨0, by omega, by rw [Nat.add_zero, hV0.out], rfl, hwr⟩
      case round =>
        clear hwq hwr
        obtain ⟨c, hc, rfl, rfl, hwr⟩ := hrel
        obtain ⟨V, hV⟩ : ∃ V, bs (cellsTo f n (a * n + c)) = V := ⟨_, rfl⟩
        rw [hV]
        by_cases hcn : c < n
        · have hci : (c : Int) < (n : Int) := by omega
          have hnx := cellsTo_next f (a := a) hcn
          have hsz := sq_bd h6 ha hc
          have hVs : (V.size : Int) ≤ 42 := by rw [← hV, bs_size, cellsTo_len]; omega
          have s1 : ¬ (9223372036854775807 : Int) < (V.size : Int) + 1 := by omega
          have s2 : ¬ (9223372036854775807 : Int) < ((V.size + 1 : Nat) : Int) := by omega
          cases hfc : f a c with
          | false =>
            have hN : Kp (V ++ ⟨#[48]⟩ = bs (cellsTo f n (a * n + (c + 1)))) := ⟨by
              rw [← Nat.add_assoc, hnx, bs_append, hV, hfc]
              rfl⟩
            have hc1 := fun W => hh.out a c W
            rw [hfc] at hc1
            replace hc1 : Kp _ := ⟨hc1⟩
            replace hfc : Kp _ := ⟨hfc⟩
            replace hnx : Kp _ := ⟨hnx⟩
            replace hV : Kp _ := ⟨hV⟩
            clear hsz
            go_wp2_with fail
            refine (hc1.out _).mono ?_
            rintro e w2 ⟨rfl, hw⟩
            subst hw
            go_wp2_with fail
            go_roundw
            case rel => exact ⟨c + 1, by omega, by rw [← hN.out], by go_num, hwr⟩
            case measure => simp [intOf]; omega
          | true =>
            have hN : Kp (V ++ ⟨#[49]⟩ = bs (cellsTo f n (a * n + (c + 1)))) := ⟨by
              rw [← Nat.add_assoc, hnx, bs_append, hV, hfc]
              rfl⟩
            have hc1 := fun W => hh.out a c W
            rw [hfc] at hc1
            replace hc1 : Kp _ := ⟨hc1⟩
            replace hfc : Kp _ := ⟨hfc⟩
            replace hnx : Kp _ := ⟨hnx⟩
            replace hV : Kp _ := ⟨hV⟩
            clear hsz
            go_wp2_with fail
            refine (hc1.out _).mono ?_
            rintro e w2 ⟨rfl, hw⟩
            subst hw
            go_wp2_with fail
            go_roundw
            case rel => exact ⟨c + 1, by omega, by rw [← hN.out], by go_num, hwr⟩
            case measure => simp [intOf]; omega
        · have hci : ¬ (c : Int) < (n : Int) := by omega
          have hcn2 : c = n := by omega
          have hN : Kp (V = bs (cellsTo f n ((a + 1) * n))) := ⟨by rw [← hV, hcn2, Nat.add_mul, Nat.one_mul]⟩
          replace hV : Kp _ := ⟨hV⟩
          replace hcn2 : Kp _ := ⟨hcn2⟩
          go_wp2_with fail
          go_roundw
          case rel => exact ⟨a + 1, by omega, by rw [← hN.out], by go_num, hwr⟩
          case measure => simp [intOf]; omega
    · have hai : ¬ (a : Int) < (n : Int) := by omega
      have e : a = n := by omega
      have hN : bs (cellsTo f n (a * n)) = bs (cells f n) := by rw [e, cellsTo_all]
      rw [hN]
      obtain ⟨V, hV⟩ : ∃ V, bs (cells f n) = V := ⟨_, rfl⟩
      rw [hV]
      replace hV : Kp _ := ⟨hV⟩
      clear hN
      replace e : Kp _ := ⟨e⟩
      go_wp2_with fail
      go_ret
      exact ⟨by rw [hV.out]; rfl, by rw [hwr.out]; exact b1.out⟩
end Go.Proofs.YtcnbifdlkalimaaGreat
