import Derived.Test.YtcnbifdlkalimaaGreatRdr15
import Derived.Test.YtcnbifdlkalimaaGreatRdr16
import Derived.Test.YtcnbifdlkalimaaGreatRdr17
import Derived.Test.YtcnbifdlkalimaaGreatRdr18
import Derived.Test.YtcnbifdlkalimaaGreatRdr19
import Derived.Test.YtcnbifdlkalimaaGreatRdr22
import Derived.Test.YtcnbifdlkalimaaGreatSrcB
import Derived.OwnWalk

/-
  The walks of the document's reading: statements, whichever; for every reading.
-/
namespace Go.Proofs.YtcnbifdlkalimaaGreat
open Go.RowKit
set_option linter.unusedVariables false

theorem statP_any (rb sb B : Nat) (s tb : ByteArray) (tp : Value) (hs : s.size ≤ 300) : ∀ k, SGo rb sb B s tb tp k
  | 0 => fun p S sv w H G h0 hk hp => by omega
  | k + 1 => by
    have ih : Kp (SGo rb sb B s tb tp k) := ⟨statP_any rb sb B s tb tp hs k⟩
    intro p S sv w H G h0 hk hp
    by_cases h1 : tok s p.r = 62
    · exact statP_1 rb sb B s tb tp hs k ih p S sv w H G hk hp h1
    · by_cases h2 : tok s p.r = 63
      · by_cases h58 : tok s (blkP s (stmP s k) k (exP s { p with r := nx (adv s p.r) }).1).1.r = 58
        · exact statP_5 rb sb B s tb tp hs k ih p S sv w H G hk hp h2 h58
        · exact statP_2 rb sb B s tb tp hs k ih p S sv w H G hk hp h2 h58
      · by_cases h3 : tok s p.r = 64
        · exact statP_3 rb sb B s tb tp hs k ih p S sv w H G hk hp h3
        · exact statP_4 rb sb B s tb tp hs k ih p S sv w H G hk hp h0 h1 h2 h3
end Go.Proofs.YtcnbifdlkalimaaGreat

/-
  The walks of the document's reading: Parse; for every text of at most 300 bytes.
-/
namespace Go.Proofs.YtcnbifdlkalimaaGreat
open Go.RowKit
set_option linter.unusedVariables false
set_option maxRecDepth 100000

def nilS : Nat → Value := fun _ => .slice none 0 0
theorem own4r (w : World) (v0 v1 v2 v3 : Value) (t : TypeId) : Own (w.alloc (.cells #[v0, v1, v2, v3] t)) w.heap.size [v0, v1, v2, v3] := by
  refine ⟨by simp, ?_, ?_⟩
  · intro i v hv
    have hi : i < 4 := by have := (List.getElem?_eq_some_iff.1 hv).1; simpa using this
    have e : (w.alloc (.cells #[v0, v1, v2, v3] t)).cell? ⟨w.heap.size, i, none⟩ = ([v0, v1, v2, v3] : List Value)[i]? := by
      match i, hi with
      | 0, _ => simp [go_sem]
      | 1, _ => simp [go_sem]
      | 2, _ => simp [go_sem]
      | 3, _ => simp [go_sem]
    rw [e]
    exact hv
  · intro i v hv
    have hi : i < 4 := by have := (List.getElem?_eq_some_iff.1 hv).1; simpa using this
    match i, hi with
    | 0, _ => simp [go_sem]
    | 1, _ => simp [go_sem]
    | 2, _ => simp [go_sem]
    | 3, _ => simp [go_sem]

/-- the beginning -/
theorem PsAt.start {w0 w1 w2 : World} (s : ByteArray) (t1 t2 : TypeId) (h1 : w1 = w0.alloc (.cells #[.int .i64 1, .string ⟨#[]⟩, .string ⟨#[]⟩, .string ⟨#[]⟩, .slice none 0 0, .slice none 0 0, .slice none 0 0] t1)) (h2 : w2 = w1.alloc (.cells #[.string s, .int .i64 0, .int .i64 0, .pointer (some ⟨w0.heap.size, 0, none⟩)] t2)) :
    PsAt w2 (w0.heap.size + 1) w0.heap.size (w0.heap.size + 2) s ⟨⟨0, 0⟩, 1, [], [], [], []⟩ ⟨#[]⟩ (.slice none 0 0) nilS [] := by
  have O1 := own7 w0 (.int .i64 1) (.string ⟨#[]⟩) (.string ⟨#[]⟩) (.string ⟨#[]⟩) (.slice none 0 0) (.slice none 0 0) (.slice none 0 0) t1
  rw [← h1] at O1
  have O2 := own4r w1 (.string s) (.int .i64 0) (.int .i64 0) (.pointer (some ⟨w0.heap.size, 0, none⟩)) t2
  rw [← h2] at O2
  have s1 : w1.heap.size = w0.heap.size + 1 := by rw [h1]; simp
  rw [s1] at O2
  have s2 : w2.heap.size = w0.heap.size + 2 := by rw [h2]; simp [s1]
  have O3 : Own w2 w0.heap.size [.int .i64 1, .string ⟨#[]⟩, .string ⟨#[]⟩, .string ⟨#[]⟩, .slice none 0 0, .slice none 0 0, .slice none 0 0] := O1.step (by rw [h2]; exact (Below.refl _ _).alloc (Nat.le_refl _) _)
  refine ⟨⟨by omega, O2.c 0 _ rfl, O2.c 1 _ rfl, O2.c 2 _ rfl, O2.f 1 _ rfl, O2.f 2 _ rfl⟩, O2.c 3 _ rfl, by omega, by omega, by omega, by omega, O3.c 0 _ rfl, O3.c 1 _ rfl, O3.c 2 _ rfl, O3.c 3 _ rfl, fun j hj => ?_, O3.c 6 _ rfl, fun j hj => ?_, fun j hj => ?_, fun i j hi hj hij => .inl rfl, rfl, fun i x y hx => by simp at hx, by omega⟩
  · match j, hj with
    | 0, _ => exact O3.c 4 _ rfl
    | 1, _ => exact O3.c 5 _ rfl
  · match j, hj with
    | 0, _ => exact O3.f 0 _ rfl
    | 1, _ => exact O3.f 1 _ rfl
    | 2, _ => exact O3.f 2 _ rfl
    | 3, _ => exact O3.f 3 _ rfl
    | 4, _ => exact O3.f 4 _ rfl
    | 5, _ => exact O3.f 5 _ rfl
    | 6, _ => exact O3.f 6 _ rfl
  · match j, hj with
    | 0, _ => exact ⟨rfl, .inl ⟨rfl, rfl⟩⟩
    | 1, _ => exact ⟨rfl, .inl ⟨rfl, rfl⟩⟩
/-- seen from outside -/
theorem PsTo.out {rb sb B : Nat} {S' : Nat → Value} {w w' : World} (T : PsTo rb sb nilS S' w w') (hr : B ≤ rb) (hs : B ≤ sb) (hb : B ≤ w.heap.size) : Below B w w' :=
  ⟨T.os, T.tape, T.output, T.size, fun k hk => T.block k (by omega) (by omega) (by omega) (fun j hj e => by cases e)⟩

theorem loop_end (s : ByteArray) (f : Rs → Rs × Nat) : ∀ (k : Nat) (p : Rs) (l : List Nat), ∃ r, (loopP s f k p l).1.r = adv s r
  | 0, p, l => ⟨p.r, rfl⟩
  | k + 1, p, l => by
    simp only [loopP]
    split
    · exact loop_end s f k _ _
    · exact ⟨p.r, rfl⟩
theorem prs_le (s : ByteArray) (n : Int) : ∀ (k : Nat) (r : Rd) (l : List Int), r.a ≤ s.size → (prsP s n k r l).1.a ≤ s.size
  | 0, r, l, h => adv_le h
  | k + 1, r, l, h => by
    simp only [prsP]
    split
    · exact prs_le s n k _ _ (digR_le (by omega) (digR_le (by omega) (adv_le h)))
    · exact adv_le h
theorem dec_le (s : ByteArray) (n : Int) : ∀ (k : Nat) (r : Rd) (ls vs : List Int), r.a ≤ s.size → (decsP s n k r ls vs).1.a ≤ s.size
  | 0, r, ls, vs, h => adv_le h
  | k + 1, r, ls, vs, h => by
    simp only [decsP]
    split
    · rename_i hi
      split
      · show (rfs (adv s r) 12).a ≤ s.size
        rw [rfs_a]; exact adv_le h
      · exact dec_le s n k _ _ _ (digR_le (by omega) (nxt_le (by have := of_decide_eq_true hi; omega)))
    · exact adv_le h
theorem dec_let (s : ByteArray) (n : Int) : ∀ (k : Nat) (r : Rd) (ls vs : List Int), Let1 ls → Let1 (decsP s n k r ls vs).2.1
  | 0, r, ls, vs, h => h
  | k + 1, r, ls, vs, h => by
    simp only [decsP]
    split
    · rename_i hi
      have := of_decide_eq_true hi
      split
      · exact h
      · rename_i ho
        exact dec_let s n k _ _ _ (h.add ho this.1 this.2)
    · exact h
theorem head_gp (s : ByteArray) : Gp s (headP s) := by
  have h1 : (prP s).1.a ≤ s.size := prs_le s _ _ _ _ (digR_le (by omega) (Nat.zero_le _))
  have h2 : (dcP s).1.a ≤ s.size := dec_le s _ _ _ _ _ (tk_le h1 (by omega))
  have h3 := (dec_let s (nP s) (s.size + 1) (tk s (prP s).1 46) [] [] Let1.nil).lets
  exact ⟨tk_le h2 (by omega), (nP_bd s).1, (nP_bd s).2, h3.1, h3.2⟩
theorem head_pot (s : ByteArray) (hs : s.size ≤ 300) : potP s (headP s) ≤ 6000 := by
  have h1 := rem_le s (headP s).r
  show 0 + 0 + potR s (headP s).r ≤ 6000
  unfold potR
  split <;> omega

/-- what Parse leaves -/
def PPost (s : ByteArray) (w : World) (e : Ending) (w' : World) : Prop :=
  Below w.heap.size w w' ∧ (((endP s).er ≠ 0 ∧ e = .returned (.tuple #[.pointer none, .int .i64 (endP s).a, .int .i64 (endP s).er])) ∨
    ((endP s).er = 0 ∧ ∃ rb sb B tp S sv, e = .returned (.tuple #[.pointer (some ⟨sb, 0, none⟩), .int .i64 0, .int .i64 0]) ∧ PsAt w' rb sb B s (readP s).1 (tabP s) tp S sv ∧ IRow w' B S tp (readP s).2))
end Go.Proofs.YtcnbifdlkalimaaGreat

/-
  The walks of the document's reading: Parse; for every text of at most 300 bytes.
-/
namespace Go.Proofs.YtcnbifdlkalimaaGreat
open Go.RowKit
set_option linter.unusedVariables false
set_option maxRecDepth 100000

theorem below_dn {B : Nat} {w w' : World} (h : Below B w w') (k : Nat) : Below B w (w'.drewN k) := ⟨h.os, h.tape, h.output, h.size, h.block⟩

set_option maxHeartbeats 3200000 in
theorem parse_any (s : ByteArray) (w : World) (hs : s.size ≤ 300) : Calls Tryz.prog 76 #[.string s] w (PPost s w) := by
  obtain ⟨w1, hw1⟩ : ∃ w1, w1 = w.alloc (.cells #[.int .i64 1, .string ⟨#[]⟩, .string ⟨#[]⟩, .string ⟨#[]⟩, .slice none 0 0, .slice none 0 0, .slice none 0 0] 95) := ⟨_, rfl⟩
  obtain ⟨w2, hw2⟩ : ∃ w2, w2 = w1.alloc (.cells #[.string s, .int .i64 0, .int .i64 0, .pointer (some ⟨w.heap.size, 0, none⟩)] 205) := ⟨_, rfl⟩
  have A0 := PsAt.start s 95 205 hw1 hw2
  have b0 : Below w.heap.size w w2 := by
    rw [hw2, hw1]
    exact ((Below.refl _ _).alloc (Nat.le_refl _) _).alloc (by simp) _
  rw [hw1] at hw2
  clear hw1
  have hout : Kp (∀ (S' : Nat → Value) (w' : World), PsTo (w.heap.size + 1) w.heap.size nilS S' w2 w' → Below w.heap.size w w') := ⟨fun S' w' T => b0.trans (T.out (by omega) (by omega) b0.size)⟩
  obtain ⟨rb, hrb⟩ : ∃ rb, w.heap.size + 1 = rb := ⟨_, rfl⟩
  obtain ⟨sb, hsb⟩ : ∃ sb, w.heap.size = sb := ⟨_, rfl⟩
  obtain ⟨B, hB⟩ : ∃ B, w.heap.size + 2 = B := ⟨_, rfl⟩
  have hH := headsP_any (w.heap.size + 1) w.heap.size (w.heap.size + 2) s (.slice none 0 0) nilS w2 hs A0
  have hH : Calls Tryz.prog 135 #[.pointer (some ⟨w.heap.size + 1, 0, none⟩)] w2 fun e w' => e = .returned (.tuple #[]) ∧ PsAt w' rb sb B s (headP s) (tabP s) (.slice none 0 0) nilS [] ∧ PsTo rb sb nilS nilS w2 w' := by rw [← hrb, ← hsb, ← hB]; exact hH
  have hout2 : Kp (∀ (S' : Nat → Value) (w' : World), PsTo rb sb nilS S' w2 w' → Below w.heap.size w w') := ⟨by rw [← hrb, ← hsb]; exact hout.out⟩
  have Gh := head_gp s
  have ph := head_pot s hs
  obtain ⟨rp, hrp⟩ : ∃ rp, readP s = rp := ⟨_, rfl⟩
  obtain ⟨ep, hep⟩ : ∃ ep, endP s = ep := ⟨_, rfl⟩
  have hep2 : ep = if rp.1.r.er = 0 ∧ rp.1.r.a < s.size then rfs rp.1.r 11 else rp.1.r := by rw [← hep, ← hrp]; rfl
  have hlp : loopP s (stmP s (s.size + 2)) (s.size + 1) (headP s) [] = rp := hrp
  have hLi : Kp (∀ w3, PsAt w3 rb sb B s (headP s) (tabP s) (.slice none 0 0) nilS [] → Calls Tryz.prog 136 #[.pointer (some ⟨rb, 0, none⟩)] w3 (LPost rb sb B s (tabP s) (.slice none 0 0) nilS [] w3 rp)) := ⟨fun w3 A => by
    rw [← hlp]
    exact listP_any rb sb B s (tabP s) (.slice none 0 0) hs (s.size + 2) (s.size + 1) ⟨statP_any rb sb B s (tabP s) (.slice none 0 0) hs (s.size + 2)⟩ (headP s) nilS [] w3 A Gh (by have := rem_le s (headP s).r; omega) (by have := rem_le s (headP s).r; omega) ph⟩
  have Gr : Gp s rp.1 := by rw [← hlp]; exact gp_loop (gp_stm _) _ _ _ Gh
  have hsk : skp s rp.1.r.a = rp.1.r.a ∨ rp.1.r.er ≠ 0 := by
    obtain ⟨r, hr⟩ := loop_end s (stmP s (s.size + 2)) (s.size + 1) (headP s) []
    rw [hlp] at hr
    by_cases h : r.er = 0
    · left
      rw [hr, adv_ok h]
      exact skp_skp s r.a
    · right
      rw [hr, adv_er]
      exact h
  have hSk : Kp (∀ w3, RdAt w3 rb s rp.1.r → rp.1.r.er = 0 → Calls Tryz.prog 137 #[.pointer (some ⟨rb, 0, none⟩)] w3 fun e w' => e = .returned (.tuple #[]) ∧ RdTo w3 w' rb rp.1.r) := ⟨fun w3 A h => by
    have q := skipP_any rb s rp.1.r w3 A (Gr.ok hs)
    rcases hsk with k | k
    · rw [k] at q
      exact q
    · exact absurd h k⟩
  have hbad : (headP s).r.er ≠ 0 → rp = (headP s, []) := fun h => by rw [← hlp]; exact loopP_bad h _
  have hP : PPost s w = fun e w' => Below w.heap.size w w' ∧ ((ep.er ≠ 0 ∧ e = .returned (.tuple #[.pointer none, .int .i64 ep.a, .int .i64 ep.er])) ∨ (ep.er = 0 ∧ ∃ rb sb B tp S sv, e = .returned (.tuple #[.pointer (some ⟨sb, 0, none⟩), .int .i64 0, .int .i64 0]) ∧ PsAt w' rb sb B s rp.1 (tabP s) tp S sv ∧ IRow w' B S tp rp.2)) := by
    unfold PPost
    rw [hep, hrp]
  rw [hP]
  generalize tabP s = tb at *
  generalize headP s = hp at *
  replace hH : Kp _ := ⟨hH⟩
  replace hep2 : Kp _ := ⟨hep2⟩
  replace hw2 : Kp _ := ⟨hw2⟩
  replace hrb : Kp _ := ⟨hrb⟩
  replace Gr : Kp _ := ⟨Gr⟩
  replace hbad : Kp _ := ⟨hbad⟩
  have hne : rb ≠ sb := by have := hrb.out; omega
  have hne2 : sb ≠ rb := fun e => hne e.symm
  replace hsb : Kp _ := ⟨hsb⟩
  replace hB : Kp _ := ⟨hB⟩
  clear A0 b0 hout Gh ph hrp hep hlp hsk hP
  go_enter Tryz.func76, Tryz.ntmps76
  go_wp2_with fail
  rw [← hw2.out]
  refine hH.out.mono ?_
  rintro e w3 ⟨rfl, A3, T3⟩
  simp only [hrb.out]
  have c1 := A3.rd.c1
  have c2 := A3.rd.c2
  have c3 := A3.c3
  replace A3 : Kp _ := ⟨A3⟩
  replace T3 : Kp _ := ⟨T3⟩
  clear hH
  by_cases he : hp.r.er = 0
  · have hL := hLi.out w3.drew (A3.out.step (Below.refl _ _).drew)
    replace hL : Kp _ := ⟨hL⟩
    rw [he] at c2
    replace he : Kp _ := ⟨he⟩
    go_wp2_with fail
    go_region_held (fun w' => w'.cell? ⟨rb, 3, none⟩ = some (.pointer (some ⟨sb, 0, none⟩))) (first | go_keep | assumption) ((go_at_call 136; refine hL.out.mono ?_; rintro e w4 ⟨v, rfl, S4, sv4, A4, T4, N4, I4, F4⟩; obtain ⟨p1, q1, rfl⟩ := orow_len I4.1; have d3 := A4.c3; have df := A4.f 6 (by omega); have dp := A4.cp; have dl := A4.lt; have A5 := A4.setP (.slice p1 rp.2.length q1); have k3 := A5.1.c3; have I5 := I4.to A5.2 A4.b0 A4.b1; have T5 := T3.out.trans ((PsTo.below (rb := rb) (sb := sb) (S := nilS) ((Below.refl _ _).drew)).trans (T4.trans A5.2)); have k1 := A5.1.rd.c1; have k2 := A5.1.rd.c2; replace A5 : Kp _ := ⟨A5.1⟩; replace T5 : Kp _ := ⟨T5⟩; replace I5 : Kp _ := ⟨I5⟩; clear A4 T4 N4 I4 F4))
    all_goals
      obtain ⟨w5, hw5⟩ : ∃ w5, w4.setCell ⟨sb, 6, none⟩ (.slice p1 rp.2.length q1) = w5 := ⟨_, rfl⟩
      rw [hw5] at A5 T5 I5 k1 k2 k3 ⊢
      clear hw5 d3 df dp dl
      by_cases he2 : rp.1.r.er = 0
      · rw [he2] at k2
        have hS := hSk.out w5 A5.out.rd he2
        replace hS : Kp _ := ⟨hS⟩
        by_cases ha : rp.1.r.a < s.size
        · have e2 : Kp (ep = ⟨rp.1.r.a, 11⟩) := ⟨by
            rw [hep2.out, if_pos ⟨he2, ha⟩]
            unfold rfs
            rw [if_pos he2]⟩
          have hai : (rp.1.r.a : Int) < (s.size : Int) := by omega
          have hd1 : decide (rp.1.r.a < s.size) = true := decide_eq_true ha
          have hd2 : decide ((rp.1.r.a : Int) < (s.size : Int)) = true := decide_eq_true hai
          go_wp2_with fail
          refine hS.out.mono ?_
          rintro e w6 ⟨rfl, R6⟩
          have A6 := A5.out.rdto R6
          have T6 := T5.out.trans (PsTo.rd R6)
          have m1 := A6.rd.c1
          have m2' := A6.rd.c2
          have mf := A6.rd.f2
          have ml := A6.rd.lt
          have m2 : w6.cell? ⟨rb, 2, none⟩ = some (.int .i64 0) := by rw [← he2]; exact m2'
          clear m2'
          have R7 := RdTo.setE A6.rd 11
          have T7 := T6.trans (PsTo.rd R7)
          have n1 : (w6.setCell ⟨rb, 2, none⟩ (.int .i64 11)).cell? ⟨rb, 1, none⟩ = some (.int .i64 rp.1.r.a) := R7.c1
          have n2 := R7.c2
          replace T7 : Kp _ := ⟨T7⟩
          clear R6 A6 T6 R7 A5 T5 hS
          go_wp2_with fail
          go_quiet (fail)
          go_wp2_with fail
          go_ret3
          exact ⟨below_dn (hout2.out _ _ T7.out) _, .inl ⟨by rw [e2.out]; show (11 : Int) ≠ 0; omega, by rw [e2.out]; rfl⟩⟩
        · have e2 : Kp (ep = rp.1.r) := ⟨by rw [hep2.out, if_neg (fun k => ha k.2)]⟩
          have hai : ¬ (rp.1.r.a : Int) < (s.size : Int) := by omega
          have hd1 : decide (rp.1.r.a < s.size) = false := decide_eq_false ha
          have hd2 : decide ((rp.1.r.a : Int) < (s.size : Int)) = false := decide_eq_false hai
          have hle : Kp (ep.er = 0) := ⟨by rw [e2.out]; exact he2⟩
          go_wp2_with fail
          refine hS.out.mono ?_
          rintro e w6 ⟨rfl, R6⟩
          have A6 := A5.out.rdto R6
          have T6 := T5.out.trans (PsTo.rd R6)
          have I6 := I5.out.to (PsTo.rd (sb := sb) (S := S4) R6) A6.b0 A6.b1
          have m1 := A6.rd.c1
          have m2' := A6.rd.c2
          have m3 := A6.c3
          have m2 : w6.cell? ⟨rb, 2, none⟩ = some (.int .i64 0) := by rw [← he2]; exact m2'
          clear m2'
          replace A6 : Kp _ := ⟨A6⟩
          replace T6 : Kp _ := ⟨T6⟩
          replace I6 : Kp _ := ⟨I6⟩
          clear R6 A5 T5 I5 hS
          go_wp2_with fail
          go_ret3
          exact ⟨hout2.out _ _ T6.out, .inr ⟨hle.out, rb, sb, B, _, S4, sv4, rfl, A6.out, I6.out⟩⟩
      · have e2 : Kp (ep = rp.1.r) := ⟨by rw [hep2.out, if_neg (fun k => he2 k.1)]⟩
        have hk : (rp.1.r.er == 0) = false := beq_eq_false_iff_ne.2 he2
        have hk2 : (rp.1.r.er != 0) = true := bne_iff_ne.2 he2
        have hle : Kp (ep.er ≠ 0) := ⟨by rw [e2.out]; exact he2⟩
        go_wp2_with fail
        go_quiet (fail)
        go_wp2_with fail
        go_ret3
        exact ⟨below_dn (hout2.out _ _ T5.out) _, .inl ⟨hle.out, by rw [e2.out]; rfl⟩⟩
  · have e1 := hbad.out he
    have e2 : Kp (ep = hp.r) := ⟨by rw [hep2.out, e1, if_neg (fun k => he k.1)]⟩
    have hk : (hp.r.er == 0) = false := beq_eq_false_iff_ne.2 he
    have hk2 : (hp.r.er != 0) = true := bne_iff_ne.2 he
    have hle : Kp (ep.er ≠ 0) := ⟨by rw [e2.out]; exact he⟩
    clear e1 hbad
    go_wp2_with fail
    go_quiet (fail)
    go_wp2_with fail
    go_ret3
    exact ⟨below_dn (hout2.out _ _ T3.out) _, .inl ⟨hle.out, by rw [e2.out]; rfl⟩⟩
end Go.Proofs.YtcnbifdlkalimaaGreat
