import Derived.Test.YtcnbifdlkalimaaGreatRdrA
import Derived.Test.YtcnbifdlkalimaaGreatSrcB

/-
  The walks of the document's order: hop; for every text of pairs.
-/
namespace Go.Proofs.YtcnbifdlkalimaaGreat
open Go.RowKit
set_option linter.unusedVariables false
set_option maxRecDepth 100000

theorem bl_getD {s : ByteArray} {i : Nat} (h : i < s.size) : (bl s).getD i 0 = bv s i := by rw [List.getD_eq_getElem?_getD, bl_get h]; rfl

/-- by the first j pairs, and then by k more -/
def hopTo (l : List Int) (k : Nat) (a b : Int) (j : Nat) : Prop := ∃ i, i < j ∧ l.getD (2 * i) 0 = a ∧ hopF l k (l.getD (2 * i + 1) 0) b = true
theorem hop_step {l : List Int} {k : Nat} {a b : Int} (hne : a ≠ b) : hopF l (k + 1) a b = true ↔ hopTo l k a b (l.length / 2) := by
  rw [hopF, Bool.or_eq_true, beq_iff_eq, List.any_eq_true]
  constructor
  · rintro (h | ⟨i, hi, h⟩)
    · exact absurd h hne
    · rw [Bool.and_eq_true, beq_iff_eq] at h
      exact ⟨i, List.mem_range.1 hi, h.1, h.2⟩
  · rintro ⟨i, hi, h1, h2⟩
    exact .inr ⟨i, List.mem_range.2 hi, by rw [Bool.and_eq_true, beq_iff_eq]; exact ⟨h1, h2⟩⟩

set_option maxHeartbeats 1600000 in
theorem hop_any (P : ByteArray) (hP : P.size ≤ 100000) : ∀ (k : Nat) (a b : Int) (w : World), k ≤ 100 →
    Calls Tryz.prog 195 #[.string P, .int .i64 a, .int .i64 b, .int .i64 k] w fun e w' => e = .returned (.bool (hopF (bl P) k a b)) ∧ w' = w
  | 0, a, b, w, hk => by
    by_cases hab : a = b
    · subst hab
      rw [hop_self]
      go_enter Tryz.func195, Tryz.ntmps195
      go_wp2_with fail
      go_ret
      exact ⟨rfl, rfl⟩
    · have e1 : hopF (bl P) 0 a b = false := by simp only [hopF]; exact beq_eq_false_iff_ne.2 hab
      rw [e1]
      have k1 : (a == b) = false := beq_eq_false_iff_ne.2 hab
      clear e1 hab
      go_enter Tryz.func195, Tryz.ntmps195
      go_wp2_with fail
      go_ret
      exact ⟨rfl, rfl⟩
  | k + 1, a, b, w, hk => by
    obtain ⟨N, hN⟩ : ∃ N, k + 1 = N := ⟨_, rfl⟩
    have hNk : (N : Int) - 1 = k := by omega
    have hN9 : (N : Int) ≤ 100 := by omega
    have hN1 : 1 ≤ (N : Int) := by omega
    have ih : Kp (∀ a1 w1, Calls Tryz.prog 195 #[.string P, .int .i64 a1, .int .i64 b, .int .i64 ((N : Int) - 1)] w1 fun e w' => e = .returned (.bool (hopF (bl P) k a1 b)) ∧ w' = w1) := ⟨fun a1 w1 => by rw [hNk]; exact hop_any P hP k a1 b w1 (by omega)⟩
    replace hNk : Kp _ := ⟨hNk⟩
    by_cases hab : a = b
    · subst hab
      rw [hop_self]
      clear ih
      go_enter Tryz.func195, Tryz.ntmps195
      go_wp2_with fail
      go_ret
      exact ⟨rfl, rfl⟩
    · have k1 : (a == b) = false := beq_eq_false_iff_ne.2 hab
      have hst := hop_step (l := bl P) (k := k) hab
      rw [bl_len] at hst
      obtain ⟨res, hres⟩ : ∃ res, hopF (bl P) (k + 1) a b = res := ⟨_, rfl⟩
      rw [hres] at hst ⊢
      rw [hN]
      replace hst : Kp _ := ⟨hst⟩
      have k2 : ((N : Int) == 0) = false := beq_eq_false_iff_ne.2 (by omega)
      clear hab hres hN hk
      go_enter Tryz.func195, Tryz.ntmps195
      go_wp2_with fail
      go_loopw [9] (fun iv wr => ∃ j : Nat, 2 * j ≤ P.size ∧ iv = .int .i64 (2 * j : Nat) ∧ Kp (¬ hopTo (bl P) k a b j) ∧ Kp (wr = w)) (fun iv _ => P.size + 2 - (intOf iv).toNat)
      case atStart => exact ⟨0, by omega, rfl, ⟨fun ⟨i, hi, _⟩ => by omega⟩, ⟨rfl⟩⟩
      case round =>
        obtain ⟨j, hj, rfl, hb, hwr⟩ := hrel
        obtain ⟨m, hm⟩ : ∃ m, 2 * j = m := ⟨_, rfl⟩
        rw [hm] at hj ⊢
        by_cases h1 : m + 1 < P.size
        · have h1i : (m : Int) + 1 < (P.size : Int) := by omega
          have h0i : (m : Int) < (P.size : Int) := by omega
          have u0 := bv_nat P m (by omega)
          have u1 := bv_nat P (m + 1) h1
          have g0 := bl_getD (s := P) (i := m) (by omega)
          have g1 := bl_getD h1
          obtain ⟨x0, x9⟩ := bv_bd P m
          obtain ⟨y0, y9⟩ := bv_bd P (m + 1 : Nat)
          obtain ⟨x, hx⟩ : ∃ x, bv P m = x := ⟨_, rfl⟩
          obtain ⟨y, hy⟩ : ∃ y, bv P (m + 1 : Nat) = y := ⟨_, rfl⟩
          rw [hx] at u0 g0 x0 x9
          rw [hy] at u1 g1 y0 y9
          by_cases hxa : x = a
          · subst hxa
            have hi := ih.out y wr
            obtain ⟨q, hq⟩ : ∃ q, hopF (bl P) k y b = q := ⟨_, rfl⟩
            rw [hq] at hi
            replace hi : Kp _ := ⟨hi⟩
            cases q with
            | true =>
              have e1 : Kp (res = true) := ⟨hst.out.2 ⟨j, by omega, by rw [hm]; exact g0, by rw [hm, g1]; exact hq⟩⟩
              clear hb hx hy g0 g1 hq ih
              go_wp2_with fail
              refine hi.out.mono ?_
              rintro e w2 ⟨rfl, hw⟩
              subst hw
              go_wp2_with fail
              go_ret
              exact ⟨by rw [e1.out]; rfl, hwr.out⟩
            | false =>
              have hb2 : Kp (¬ hopTo (bl P) k x b (j + 1)) := ⟨fun ⟨i, h2, h3, h4⟩ => by
                by_cases e : i = j
                · rw [e, hm, g1, hq] at h4; simp at h4
                · exact hb.out ⟨i, by omega, h3, h4⟩⟩
              clear hb hx hy g0 g1 hq ih
              go_wp2_with fail
              refine hi.out.mono ?_
              rintro e w2 ⟨rfl, hw⟩
              subst hw
              go_wp2_with fail
              go_roundw
              case rel => exact ⟨j + 1, by omega, by go_num, hb2, hwr⟩
              case measure => simp [intOf]; omega
          · have k3 : (x == a) = false := beq_eq_false_iff_ne.2 hxa
            have hb2 : Kp (¬ hopTo (bl P) k a b (j + 1)) := ⟨fun ⟨i, h2, h3, h4⟩ => by
              by_cases e : i = j
              · rw [e, hm, g0] at h3; exact hxa h3
              · exact hb.out ⟨i, by omega, h3, h4⟩⟩
            clear hb hx hy g0 g1 hxa ih
            go_wp2_with fail
            go_roundw
            case rel => exact ⟨j + 1, by omega, by go_num, hb2, hwr⟩
            case measure => simp [intOf]; omega
        · have h1i : ¬ (m : Int) + 1 < (P.size : Int) := by omega
          have e1 : Kp (res = false) := ⟨by
            cases res with
            | false => rfl
            | true =>
              obtain ⟨i, h2, h3⟩ := hst.out.1 rfl
              exact absurd ⟨i, by omega, h3⟩ hb.out⟩
          clear hb ih h1
          go_wp2_with fail
          go_ret
          exact ⟨by rw [e1.out]; rfl, hwr.out⟩
end Go.Proofs.YtcnbifdlkalimaaGreat

/-
  The walks of the document's order: each pair once; for every text of pairs.
-/
namespace Go.Proofs.YtcnbifdlkalimaaGreat
open Go.RowKit
set_option linter.unusedVariables false
set_option maxRecDepth 100000

theorem bl_append (a b : ByteArray) : bl (a ++ b) = bl a ++ bl b := by
  unfold bl
  rw [ByteArray.data_append, Array.toList_append, List.map_append]
theorem bl_inj {a b : ByteArray} (h : bl a = bl b) : a = b := by rw [← bs_bl a, ← bs_bl b, h]
theorem ext2_size {s : ByteArray} {m : Nat} (h : m + 1 < s.size) : (s.extract m (m + 2)).size = 2 := by
  rw [ByteArray.size_extract]
  omega
theorem bl_ext2 {s : ByteArray} {m : Nat} (h : m + 1 < s.size) : bl (s.extract m (m + 2)) = [bv s m, bv s (m + 1 : Nat)] := by
  have hs := ext2_size h
  have key : ∀ i, i < 2 → (bl (s.extract m (m + 2)))[i]? = some (bv s (m + i : Nat)) := fun i hi => by
    rw [bl_get (by omega)]
    unfold bv
    rw [byt_cut s m (m + 2) i (by omega) (by omega)]
  have hl : (bl (s.extract m (m + 2))).length = 2 := by rw [bl_len, hs]
  match hb : bl (s.extract m (m + 2)), hl with
  | [x, y], _ =>
    have h0 := key 0 (by omega)
    have h1 := key 1 (by omega)
    rw [hb] at h0 h1
    simp at h0 h1
    rw [h0, h1, show ((m + 1 : Nat) : Int) = (m : Int) + 1 from by omega]
theorem str_eq (a b : ByteArray) : (a.toList == b.toList) = true ↔ bl a = bl b := by
  rw [beq_iff_eq, ByteArray.toList_eq, ByteArray.toList_eq]
  constructor
  · intro h; unfold bl; rw [h]
  · intro h; rw [bl_inj h]

theorem cmp_two {S P : ByteArray} {d m : Nat} (h2 : d + 1 < S.size) (h1 : m + 1 < P.size) : ((S.extract d (d + 2)).toList == (P.extract m (m + 2)).toList) = true ↔ (bv S d = bv P m ∧ bv S (d + 1 : Nat) = bv P (m + 1 : Nat)) := by
  rw [str_eq, bl_ext2 h2, bl_ext2 h1]
  constructor
  · intro h
    exact ⟨(List.cons.inj h).1, (List.cons.inj (List.cons.inj h).2).1⟩
  · rintro ⟨a, b⟩
    rw [a, b]

/-- S holds the first j pairs of P, each once -/
structure OnS (P S : ByteArray) (j : Nat) : Prop where
  ev : S.size % 2 = 0
  le : S.size ≤ 2 * j
  pr : ∀ x y, Pr (bl S) x y ↔ ∃ i, i < j ∧ (bl P).getD (2 * i) 0 = x ∧ (bl P).getD (2 * i + 1) 0 = y

theorem OnS.zero (P : ByteArray) : OnS P { data := #[] } 0 := ⟨rfl, Nat.le_refl _, fun x y => ⟨fun ⟨i, hi, _⟩ => by simp [bl] at hi, fun ⟨i, hi, _⟩ => by omega⟩⟩
theorem OnS.old {P S : ByteArray} {j : Nat} (h : OnS P S j) (hj : 2 * j + 1 < P.size) (hp : Pr (bl S) (bv P (2 * j : Nat)) (bv P (2 * j + 1 : Nat))) : OnS P S (j + 1) := by
  refine ⟨h.ev, by have := h.le; omega, fun x y => ?_⟩
  rw [h.pr]
  constructor
  · rintro ⟨i, hi, a, b⟩; exact ⟨i, by omega, a, b⟩
  · rintro ⟨i, hi, a, b⟩
    by_cases e : i = j
    · subst e
      rw [bl_getD (by omega)] at a
      rw [bl_getD hj] at b
      rw [← a, ← b]
      exact (h.pr _ _).1 hp
    · exact ⟨i, by omega, a, b⟩
theorem OnS.new {P S : ByteArray} {j : Nat} (h : OnS P S j) (hj : 2 * j + 1 < P.size) : OnS P (S ++ P.extract (2 * j) (2 * j + 2)) (j + 1) := by
  have hsz : (S ++ P.extract (2 * j) (2 * j + 2)).size = S.size + 2 := by rw [ByteArray.size_append, ext2_size hj]
  have hev := h.ev
  have hle := h.le
  refine ⟨by omega, by omega, fun x y => ?_⟩
  rw [bl_append, bl_ext2 hj, pr_add (by rw [bl_len]; exact hev), h.pr]
  constructor
  · rintro (⟨i, hi, a, b⟩ | ⟨a, b⟩)
    · exact ⟨i, by omega, a, b⟩
    · exact ⟨j, by omega, by rw [bl_getD (by omega), a], by rw [bl_getD hj, b]⟩
  · rintro ⟨i, hi, a, b⟩
    by_cases e : i = j
    · subst e
      rw [bl_getD (by omega)] at a
      rw [bl_getD hj] at b
      exact .inr ⟨a.symm, b.symm⟩
    · exact .inl ⟨i, by omega, a, b⟩

/-- among the first k pairs -/
def InTo (S : ByteArray) (x y : Int) (k : Nat) : Prop := ∃ i, i < k ∧ (bl S).getD (2 * i) 0 = x ∧ (bl S).getD (2 * i + 1) 0 = y
theorem inTo_pr {S : ByteArray} {x y : Int} {k : Nat} (hk : S.size = 2 * k) : InTo S x y k ↔ Pr (bl S) x y := by
  constructor
  · rintro ⟨i, hi, a, b⟩; exact ⟨i, by rw [bl_len]; omega, a, b⟩
  · rintro ⟨i, hi, a, b⟩; rw [bl_len] at hi; exact ⟨i, by omega, a, b⟩
theorem inTo_succ {S : ByteArray} {x y : Int} {k : Nat} : InTo S x y (k + 1) ↔ InTo S x y k ∨ ((bl S).getD (2 * k) 0 = x ∧ (bl S).getD (2 * k + 1) 0 = y) := by
  constructor
  · rintro ⟨i, hi, a, b⟩
    by_cases e : i = k
    · subst e; exact .inr ⟨a, b⟩
    · exact .inl ⟨i, by omega, a, b⟩
  · rintro (⟨i, hi, a, b⟩ | ⟨a, b⟩)
    · exact ⟨i, by omega, a, b⟩
    · exact ⟨k, by omega, a, b⟩

set_option maxHeartbeats 3200000 in
theorem once_any (P : ByteArray) (w : World) (hP : P.size ≤ 1000) (hev : P.size % 2 = 0) :
    Calls Tryz.prog 194 #[.string P] w fun e w' => ∃ S, e = .returned (.string S) ∧ Kp (OnS P S (P.size / 2)) ∧ Below w.heap.size w w' := by
  obtain ⟨K, hK⟩ : ∃ K, P.size = 2 * K := ⟨P.size / 2, by omega⟩
  have hPi : (P.size : Int) ≤ 1000 := by omega
  replace hK : Kp _ := ⟨hK⟩
  go_enter Tryz.func194, Tryz.ntmps194
  go_wp2_with fail
  go_loopw [3, 4] (fun sv iv wr => ∃ (j m : Nat) (S : ByteArray), sv = .string S ∧ m = 2 * j ∧ j ≤ K ∧ iv = .int .i64 m ∧ S.size ≤ 1000 ∧ Kp (OnS P S j) ∧ Kp (Below w.heap.size w wr)) (fun _ iv _ => P.size + 2 - (intOf iv).toNat)
  case atStart => exact ⟨0, 0, _, rfl, rfl, by omega, rfl, by show 0 ≤ 1000; omega, ⟨OnS.zero P⟩, ⟨Below.refl _ _⟩⟩
  case round =>
    obtain ⟨j, m, S, rfl, hm, hj, rfl, hS, hO, hB⟩ := hrel
    have hmi : (m : Int) ≤ 1000 := by have := hK.out; omega
    replace hm : Kp _ := ⟨hm⟩
    have hSi : (S.size : Int) ≤ 1000 := by omega
    by_cases h1 : m + 1 < P.size
    · have h1i : (m : Int) + 1 < (P.size : Int) := by omega
      obtain ⟨m2, hm2⟩ : ∃ m2, m + 2 = m2 := ⟨_, rfl⟩
      have hm2i : (m : Int) + 2 = m2 := by omega
      have kab := i64w (x := (m : Int) + 2) (by omega) (by omega)
      rw [hm2i] at kab
      replace kab : Kp _ := ⟨kab⟩
      have hm2s : m2 ≤ P.size := by omega
      have hmm2 : m ≤ m2 := by omega
      have hm2si : (m2 : Int) ≤ (P.size : Int) := by omega
      have hYs : (P.extract m m2).size = 2 := by rw [← hm2]; exact ext2_size h1
      replace hm2 : Kp _ := ⟨hm2⟩
      replace hm2i : Kp _ := ⟨hm2i⟩
      obtain ⟨Y, hY⟩ : ∃ Y, P.extract m m2 = Y := ⟨_, rfl⟩
      rw [hY] at hYs
      obtain ⟨k, hk⟩ : ∃ k, S.size = 2 * k := ⟨S.size / 2, by have := hO.out.ev; omega⟩
      replace hk : Kp _ := ⟨hk⟩
      obtain ⟨wq, hwq⟩ : ∃ x, x = wr := ⟨_, rfl⟩
      have hB0 : Kp (Below w.heap.size w wr) := hB
      go_wp2_with fail
      go_loopw [5, 6] (fun nv cv wr => ∃ (c d : Nat) (q : Bool), nv = .bool q ∧ d = 2 * c ∧ c ≤ k ∧ cv = .int .i64 d ∧ Kp (q = true ↔ InTo S (bv P m) (bv P (m + 1 : Nat)) c) ∧ Kp (Below w.heap.size w wr)) (fun _ cv _ => S.size + 2 - (intOf cv).toNat)
      case atStart => exact ⟨0, 0, false, rfl, rfl, by omega, rfl, ⟨⟨fun h => by simp at h, fun ⟨i, hi, _⟩ => by omega⟩⟩, hB0⟩
      case round =>
        clear hB hB0 hwq
        obtain ⟨c, d, q, rfl, hd, hc, rfl, hq, hB⟩ := hrel
        have hdi : (d : Int) ≤ 1000 := by have := hk.out; omega
        replace hd : Kp _ := ⟨hd⟩
        by_cases h2 : d + 1 < S.size
        · have h2i : (d : Int) + 1 < (S.size : Int) := by omega
          have hck1 : c + 1 ≤ k := by have := hd.out; have := hk.out; omega
          have g0 : (bl S).getD (2 * c) 0 = bv S d := by rw [← hd.out]; exact bl_getD (by omega)
          have g1 : (bl S).getD (2 * c + 1) 0 = bv S (d + 1 : Nat) := by rw [← hd.out]; exact bl_getD h2
          cases q with
          | true =>
            have hq2 : Kp (true = true ↔ InTo S (bv P m) (bv P (m + 1 : Nat)) (c + 1)) := ⟨⟨fun _ => inTo_succ.2 (.inl (hq.out.1 rfl)), fun _ => rfl⟩⟩
            clear hq g0 g1
            go_wp2_with fail
            go_quiet (fail)
            go_wp2_with fail
            go_roundw
            case rel => exact ⟨c + 1, d + 2, true, rfl, by have := hd.out; omega, hck1, by go_num, ⟨by simpa using hq2.out⟩, ⟨below_drewN hB.out _⟩⟩
            case measure => simp [intOf]; omega
          | false =>
            obtain ⟨d2, hd2⟩ : ∃ d2, d + 2 = d2 := ⟨_, rfl⟩
            have hd2i : (d : Int) + 2 = d2 := by omega
            have lab := i64w (x := (d : Int) + 2) (by omega) (by omega)
            rw [hd2i] at lab
            replace lab : Kp _ := ⟨lab⟩
            have hd2s : d2 ≤ S.size := by omega
            have hdd2 : d ≤ d2 := by omega
            have hd2si : (d2 : Int) ≤ (S.size : Int) := by omega
            replace hd2 : Kp _ := ⟨hd2⟩
            replace hd2i : Kp _ := ⟨hd2i⟩
            have hzq := cmp_two h2 h1
            rw [hd2.out, hm2.out, hY] at hzq
            obtain ⟨X, hX⟩ : ∃ X, S.extract d d2 = X := ⟨_, rfl⟩
            rw [hX] at hzq
            obtain ⟨z, hz⟩ : ∃ z, (X.toList == Y.toList) = z := ⟨_, rfl⟩
            rw [hz] at hzq
            have hq2 : Kp (z = true ↔ InTo S (bv P m) (bv P (m + 1 : Nat)) (c + 1)) := ⟨by
              rw [inTo_succ, hzq, g0, g1]
              constructor
              · exact fun h => .inr h
              · rintro (h | h)
                · have := hq.out.2 h; simp at this
                · exact h⟩
            clear hq g0 g1 hzq
            obtain ⟨ka, kb⟩ := kab.out
            obtain ⟨la, lb⟩ := lab.out
            go_wp2_with fail
            go_quiet (fail)
            clear ka kb la lb
            go_wp2_with fail
            go_roundw
            case rel => exact ⟨c + 1, d + 2, z, by rw [hd2.out, hm2.out, hX, hY, hz], by have := hd.out; omega, hck1, by go_num, ⟨by simpa using hq2.out⟩, ⟨below_drewN hB.out _⟩⟩
            case measure => simp [intOf]; omega
        · have h2i : ¬ (d : Int) + 1 < (S.size : Int) := by omega
          have hck : c = k := by have := hd.out; have := hk.out; omega
          rw [hck] at hq
          cases q with
          | true =>
            have hO2 : Kp (OnS P S (j + 1)) := ⟨by
              have h := (inTo_pr hk.out).1 (hq.out.1 rfl)
              rw [hm.out] at h h1
              exact hO.out.old h1 h⟩
            clear hq h2
            go_wp2_with fail
            go_roundw
            case rel => exact ⟨j + 1, m + 2, S, rfl, by have := hm.out; omega, by have := hm.out; have := hK.out; omega, by go_num, hS, hO2, hB⟩
            case measure => simp [intOf]; omega
          | false =>
            have hO2 : Kp (OnS P (S ++ Y) (j + 1)) := ⟨by
              rw [← hY, ← hm2.out]
              have hm3 := hm.out
              subst hm3
              exact hO.out.new h1⟩
            have hS2 : (S ++ Y).size ≤ 1000 := by rw [ByteArray.size_append, hYs]; have := hO.out.le; have := hm.out; omega
            have s1 : ¬ (9223372036854775807 : Int) < (S.size : Int) + (Y.size : Int) := by omega
            have s2 : ¬ (9223372036854775807 : Int) < ((S.size + Y.size : Nat) : Int) := by omega
            clear hq h2
            obtain ⟨ka, kb⟩ := kab.out
            go_wp2_with fail
            clear ka kb
            go_roundw
            case rel => exact ⟨j + 1, m + 2, S ++ Y, by rw [hm2.out, hY], by have := hm.out; omega, by have := hm.out; have := hK.out; omega, by go_num, hS2, hO2, hB⟩
            case measure => simp [intOf]; omega
    · have h1i : ¬ (m : Int) + 1 < (P.size : Int) := by omega
      have hjK : Kp (OnS P S (P.size / 2)) := ⟨by rw [show P.size / 2 = j from by have := hm.out; have := hK.out; omega]; exact hO.out⟩
      clear h1 hO
      go_wp2_with fail
      refine bodyPost_ret (v := .string S) (by simp [results, Tryz.results194, go_sem]) rfl ⟨S, rfl, hjK, hB.out⟩
end Go.Proofs.YtcnbifdlkalimaaGreat
