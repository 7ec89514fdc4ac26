/-
  The walk of the statement Shut; for every text.
-/
import Derived.Test.YtcnbifdlkalimabGreatSht9
import Derived.Test.YtcnbifdlkalimabGreatTwo0
import Derived.Test.YtcnbifdlkalimabGreatTrnD
import Derived.Test.YtcnbifdlkalimabGreatCmpB
import Derived.Test.YtcnbifdlkalimabGreatLabB
namespace Go.Proofs.YtcnbifdlkalimabGreat
open Go.RowKit
set_option linter.unusedVariables false
set_option maxRecDepth 100000

/-- the first source, and the second -/
def src1 : ByteArray := { data := #[50, 32, 48, 49, 46, 97, 49, 46, 97, 61, 36, 48, 59] }
def src2 : ByteArray := { data := #[50, 32, 48, 49, 46, 97, 48, 46, 97, 61, 36, 49, 59] }
theorem src1_f : compF src1 = twoF { data := #[1] } { data := #[10, 0, 2, 0] } := by kernel_rfl
theorem src1_a : compA src1 = 0 := by kernel_rfl
theorem src1_e : compE src1 = 0 := by kernel_rfl
theorem src2_f : transF src2 = twoF { data := #[0] } { data := #[10, 1, 2, 0] } := by kernel_rfl
theorem src2_e : transE src2 = 0 := by kernel_rfl
theorem src1_l : src1.size ≤ maxLen := by unfold maxLen; decide
theorem src2_l : src2.size ≤ maxLen := by unfold maxLen; decide
theorem two1 : twoF { data := #[1] } { data := #[10, 0, 2, 0] } = { data := #[83, 2, 49, 49, 48, 49, 1, 1, 2, 10, 0, 2, 0] } := by kernel_rfl
theorem two2 : twoF { data := #[0] } { data := #[10, 1, 2, 0] } = { data := #[83, 2, 49, 49, 48, 49, 1, 0, 2, 10, 1, 2, 0] } := by kernel_rfl

/-- what the calls say of a source -/
def ShAns (F G : ByteArray) (A B E D : Int) : Prop :=
  (E ≠ 0 ∧ F = { data := #[] } ∧ G = { data := #[] } ∧ B = A ∧ D = E) ∨ (E = 0 ∧ A = 0 ∧ ((D = 0 ∧ G = F ∧ B = 0) ∨ (D = 8 ∧ G = { data := #[] }) ∨ (D = 9 ∧ G = { data := #[] })))
theorem sh_ans (s : ByteArray) : ShAns (transF s) (compF s) (transA s) (compA s) (transE s) (compE s) := by
  by_cases h : transE s = 0
  · refine .inr ⟨h, ?_, ?_⟩
    · unfold transA
      unfold transE at h
      by_cases c : 300 < s.size
      · rw [if_pos c] at h; omega
      · rw [if_neg c] at h ⊢
        by_cases d : (endP s).er = 0
        · rw [if_neg (by rw [d]; simp)]
        · rw [if_pos d] at h; exact absurd h d
    · have cE : compE s = if 8 < (readQ s).hi then 8 else if leakP s ≠ -1 then 9 else 0 := by unfold compE; rw [if_neg (by rw [h]; simp)]
      have cA : compA s = if 8 < (readQ s).hi then 0 else if leakP s ≠ -1 then leakP s else 0 := by unfold compA; rw [if_neg (by rw [h]; simp)]
      unfold compF
      rw [cE, cA]
      by_cases c : 8 < (readQ s).hi
      · rw [if_pos c]; exact .inr (.inl ⟨rfl, rfl⟩)
      · rw [if_neg c, if_neg c]
        by_cases d : leakP s ≠ -1
        · rw [if_pos d]; exact .inr (.inr ⟨rfl, rfl⟩)
        · rw [if_neg d, if_neg d]; exact .inl ⟨rfl, rfl, rfl⟩
  · have e1 : compE s = transE s := by unfold compE; rw [if_pos h]
    refine .inl ⟨h, ?_, ?_, ?_, e1⟩
    · unfold transF
      rw [if_pos]
      · rfl
      · unfold transE at h
        by_cases c : 300 < s.size
        · exact .inl c
        · rw [if_neg c] at h
          by_cases d : (endP s).er = 0
          · rw [if_neg (by rw [d]; simp)] at h
            by_cases f : levE (tabP s) = 0
            · rw [if_neg (by rw [f]; simp)] at h
              by_cases g : 200 < (codP s).length / 2
              · exact .inr (.inr (.inr g))
              · rw [if_neg g] at h; exact absurd rfl h
            · exact .inr (.inr (.inl f))
          · exact .inr (.inl d)
    · unfold compF
      rw [e1, if_neg h]
    · unfold compA; rw [if_pos h]
/-- what Check says of its file -/
theorem sh_check (s : ByteArray) (h : transE s = 0) (W : World) : Calls Tryz.prog 14 #[.string (transF s)] W fun e w' => ∃ p : Int, e = .returned (.tuple #[.int .i64 p, .int .i64 (compE s)]) ∧ Below W.heap.size W w' := by
  have FI := file_is h
  have hf : transF s = fileP s := by
    unfold transF
    rw [if_neg]
    unfold transE at h
    intro k
    by_cases c : 300 < s.size
    · rw [if_pos c] at h; omega
    · rw [if_neg c] at h
      by_cases d : (endP s).er = 0
      · rw [if_neg (by rw [d]; simp)] at h
        by_cases f : levE (tabP s) = 0
        · rw [if_neg (by rw [f]; simp)] at h
          by_cases g : 200 < (codP s).length / 2
          · rw [if_pos g] at h; omega
          · rcases k with k | k | k | k
            · exact c k
            · exact k d
            · exact k f
            · exact g k
        · rw [if_pos f] at h; exact f h
      · rw [if_pos d] at h; exact d h
  rw [hf]
  have hl : (fileP s).size ≤ maxLen := by
    have := FI.scan
    unfold scanE at this
    by_cases c : 448 < ((fileP s).size : Int)
    · rw [if_pos c] at this; omega
    · unfold maxLen; omega
  refine (check_any (fileP s) W hl).mono ?_
  rintro e w' ⟨p, x, rfl, hC, hb⟩
  obtain ⟨q, hq⟩ := shut_is h
  obtain ⟨rfl, rfl⟩ := check_one (fun k => by rw [FI.code]; exact FI.rng) hC.out hq
  exact ⟨p, rfl, hb⟩

set_option maxHeartbeats 1600000 in
theorem shut_walk (s : ByteArray) (hs : s.size ≤ maxLen) (w : World) :
    Calls Tryz.prog 4 #[.string s] w fun e w' => e = .returned (.bool true) ∧ Below w.heap.size w w' := by
  have h1 := fun W => compile_any src1 W src1_l
  have h2 := fun W => translate_any src2 W src2_l
  rw [src1_f, src1_a, src1_e, two1] at h1
  rw [src2_f, src2_e, two2] at h2
  have h3 := fun W => translate_any s W hs
  have h4 := fun W => compile_any s W hs
  have h5 := fun h W => sh_check s h W
  have hA := sh_ans s
  generalize transA src2 = Z at *
  generalize transF s = F at *
  generalize transA s = A at *
  generalize transE s = E at *
  generalize compF s = G at *
  generalize compA s = B at *
  generalize compE s = D at *
  replace h1 : Kp _ := ⟨h1⟩
  replace h2 : Kp _ := ⟨h2⟩
  replace h3 : Kp _ := ⟨h3⟩
  replace h4 : Kp _ := ⟨h4⟩
  replace h5 : Kp _ := ⟨h5⟩
  replace hA : Kp _ := ⟨hA⟩
  unfold src1 at h1
  unfold src2 at h2
  go_enter Tryz.func4, Tryz.ntmps4
  go_wp2_with fail
  refine (h1.out _).mono ?_
  rintro e w1 ⟨rfl, b1⟩
  replace b1 : Kp _ := ⟨b1⟩
  go_wp2_with fail
  refine (two_any { data := #[1] } { data := #[10, 0, 2, 0] } _ (by decide) (by decide)).mono ?_
  rintro e w2 ⟨rfl, b2⟩
  rw [two1]
  have b3 : Kp _ := ⟨b1.out.trans (b2.mono b1.out.size)⟩
  clear b1 b2
  go_wp2_with fail
  refine (h2.out _).mono ?_
  rintro e w3 ⟨rfl, b2⟩
  have b4 : Kp _ := ⟨b3.out.trans (b2.mono b3.out.size)⟩
  clear b3 b2
  go_wp2_with fail
  refine (two_any { data := #[0] } { data := #[10, 1, 2, 0] } _ (by decide) (by decide)).mono ?_
  rintro e w4 ⟨rfl, b2⟩
  rw [two2]
  have b5 : Kp _ := ⟨b4.out.trans (b2.mono b4.out.size)⟩
  clear b4 b2
  go_wp2_with fail
  refine (h3.out _).mono ?_
  rintro e w5 ⟨rfl, b2⟩
  have b6 : Kp _ := ⟨b5.out.trans (b2.mono b5.out.size)⟩
  clear b5 b2
  go_wp2_with fail
  refine (h4.out _).mono ?_
  rintro e w6 ⟨rfl, b2⟩
  have b7 : Kp _ := ⟨b6.out.trans (b2.mono b6.out.size)⟩
  clear b6 b2
  rcases hA.out with ⟨hE, rfl, rfl, rfl, rfl⟩ | ⟨rfl, rfl, hD⟩
  · have hk : (D != 0) = true := bne_iff_ne.2 hE
    clear hA h5
    go_wp2
    go_ret
    exact ⟨by simp, b7.out⟩
  · clear hA
    have h6 := fun W => h5.out rfl W
    clear h5
    replace h6 : Kp _ := ⟨h6⟩
    go_wp2_with fail
    refine (h6.out _).mono ?_
    rintro e w7 ⟨p, rfl, b2⟩
    have b8 : Kp _ := ⟨b7.out.trans (b2.mono b7.out.size)⟩
    clear b7 b2
    rcases hD with ⟨rfl, rfl, rfl⟩ | ⟨rfl, rfl⟩ | ⟨rfl, rfl⟩
    · go_wp2
      go_ret
      exact ⟨by simp, b8.out⟩
    · go_wp2
      go_ret
      exact ⟨by simp, b8.out⟩
    · go_wp2
      go_ret
      exact ⟨by simp, b8.out⟩
end Go.Proofs.YtcnbifdlkalimabGreat
