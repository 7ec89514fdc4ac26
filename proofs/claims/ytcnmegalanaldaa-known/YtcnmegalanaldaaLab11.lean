/-
  The walks of the package check: Judge, the whole answer on code; for every file that is scanned.
-/
import Derived.Test.YtcnmegalanaldaaLab10
namespace Go.Proofs.Ytcnmegalanaldaa
open Go.RowKit
set_option linter.unusedVariables false
set_option maxRecDepth 100000

theorem live_rng {c : ByteArray} (hr : Ranged c) {x : Int} (h : Live c x) : 0 ≤ x ∧ x ≤ half c :=
  h (fun x => 0 ≤ x ∧ x ≤ half c) (fun x hx _ => by have hx : x = 0 := hx; have := (half_bd c).1; omega) (fun x y _ he _ => hr x y he)

theorem trap_found {c : ByteArray} {T A : Int → Int} {lm : Nat → Bool} {x : Int} (H : WOk c T A) (hl : ∀ j : Nat, lm j = true ↔ (j : Int) ≤ half c ∧ Live c j) (h : FirstR (fun q => lm q && !(decide (0 < T q))) (half c) x true) : Trap c x ∧ ∀ q, q < x → ¬ Trap c q := by
  rcases h with ⟨_, h0, h1, h2, h3⟩ | ⟨h, _⟩
  · have e : ((x.toNat : Nat) : Int) = x := Int.toNat_of_nonneg h0
    simp only [Bool.and_eq_true, Bool.not_eq_true', decide_eq_false_iff_not] at h2
    have hlv := (hl x.toNat).1 h2.1
    rw [e] at hlv h2
    refine ⟨⟨⟨h0, by omega⟩, hlv.2, fun hR => h2.2 (turn_pos H hR)⟩, fun q hq ht => ?_⟩
    have e2 : ((q.toNat : Nat) : Int) = q := Int.toNat_of_nonneg ht.1.1
    have h4 := h3 q.toNat (by omega)
    have h5 := (hl q.toNat).2 ⟨by omega, by rw [e2]; exact ht.2.1⟩
    simp only [h5, Bool.true_and, Bool.not_eq_false', decide_eq_true_iff] at h4
    rw [e2] at h4
    exact ht.2.2 (H.ends q h4)
  · exact absurd h (by simp)

theorem trap_none {c : ByteArray} {T A : Int → Int} {lm : Nat → Bool} {x : Int} (H : WOk c T A) (hl : ∀ j : Nat, lm j = true ↔ (j : Int) ≤ half c ∧ Live c j) (h : FirstR (fun q => lm q && !(decide (0 < T q))) (half c) x false) : ∀ q, ¬ Trap c q := by
  rcases h with ⟨h, _⟩ | ⟨_, _, h3⟩
  · exact absurd h (by simp)
  · intro q ht
    have h0 := ht.1.1
    have e2 : ((q.toNat : Nat) : Int) = q := Int.toNat_of_nonneg h0
    by_cases k : q = half c
    · exact ht.2.2 (Reach.start k.symm (by omega))
    · have h4 := h3 q.toNat (by have := ht.1.2; omega)
      have h5 := (hl q.toNat).2 ⟨by have := ht.1.2; omega, by rw [e2]; exact ht.2.1⟩
      simp only [h5, Bool.true_and, Bool.not_eq_false', decide_eq_true_iff] at h4
      rw [e2] at h4
      exact ht.2.2 (H.ends q h4)

theorem LabAt.congrW {w : World} {b : Nat} {n : Int} {t v c : ByteArray} {hb : Nat} {R : Nat → Nat → Bool} {L : Int → Int → Int} {W W' : Nat → Bool} (h : LabAt w b n t v c hb R L W) (e : ∀ j, j < 201 → W j = W' j) : LabAt w b n t v c hb R L W' :=
  ⟨h.lt, h.c0, h.c1, h.c2, h.c3, h.hp, h.r, h.pl, h.vl, fun j hj => by rw [← e j hj]; exact h.wt j hj, h.f⟩

/-- what is known of a file that is scanned -/
structure FileF (c v t : ByteArray) (n : Int) : Prop where
  hc : c.size ≤ maxLen
  hv : v.size ≤ maxLen
  hK : half c ≤ 200
  ok : codeOk c v n = true
  vars : ∀ k : Int, 0 ≤ k → k < v.size → Lv n (bv v k)
  lat : LatT t n

theorem FileF.code {c v t : ByteArray} {n : Int} {h : Nat → Int} (F : FileF c v t n) (H : HeightsOk c h) : CodeF c v t n h := ⟨F.hc, F.hv, F.hK, F.ok, F.vars, H, F.lat⟩

/-- the labels' state as the walk begins -/
theorem begin_ok {c v t : ByteArray} {n : Int} {h : Nat → Int} {lm W : Nat → Bool} {R : Nat → Nat → Bool} (F : FileF c v t n) (H : HeightsOk c h) (hl : ∀ j : Nat, lm j = true ↔ (j : Int) ≤ half c ∧ Live c j) (S : RegS c lm R W 201) :
    RoundS c v t n h (fun _ _ => (firstTo (pBot t n) n.toNat).getD 0) (fun j => if j < 201 then W j else false) (fun _ _ => (firstTo (pBot t n) n.toNat).getD 0) (fun j => if j < 201 then W j else false) false 0 ∧ RegOk c R := by
  have hK := F.hK
  have hb := bot_is F.lat.lat
  refine ⟨⟨⟨fun _ _ => hb.1, fun _ _ u hu _ => hb.2 u hu⟩, fun i hi hlv hw => ?_, fun j hj => ?_, fun _ => ⟨rfl, rfl, fun i hi => absurd hi (by omega)⟩, fun h => absurd h (by simp), Nat.le_refl _⟩, fun z p h1 h2 h3 h4 => S.reg z p (by omega) h1 h2 h3 h4⟩
  · have : W i = true := (S.wait i (by omega)).2 ⟨by omega, (hl i).2 ⟨by omega, hlv⟩⟩
    rw [if_pos (by omega), this] at hw
    exact absurd hw (by simp)
  · by_cases k : j < 201
    · rw [if_pos k] at hj
      exact (hl j).1 ((S.wait j k).1 hj).2
    · rw [if_neg k] at hj
      exact absurd hj (by simp)

theorem leak_found {c v t : ByteArray} {n : Int} {h : Nat → Int} {L : Int → Int → Int} {lm : Nat → Bool} (F : FileF c v t n) (H : HeightsOk c h) (hl : ∀ j : Nat, lm j = true ↔ (j : Int) ≤ half c ∧ Live c j) (S : Settled c v t n h L) :
    ∀ q : Nat, (q : Int) < half c → ((lm q && leakL c v t n h L q) = true ↔ Breaks c v t n h q) := by
  have F2 := F.code H
  have full : ∀ a p d, Lv n a → Flow c v h a p d → (d = -1 ∧ ¬ p < half c) ∨ le t n a (L p d) = true := fun a p d hla hf =>
    labels_full F.lat.lat S.ok H (fun i h0 h1 k => ((F2.ins h0 h1).vr (.inl k)).2) (fun i h0 h1 k => (F2.ins h0 h1).lv (.inl k)) S.all hla hf
  intro q hq
  have key := fun hlv => leak_iff F.lat.lat S.ok H (fun i h0 h1 k => ((F2.ins h0 h1).vr (.inr k)).2) (fun i h0 h1 k => (F2.ins h0 h1).lv k) full (i := q) (by omega) hq hlv
  rw [Bool.and_eq_true]
  constructor
  · rintro ⟨k1, k2⟩
    exact (key ((hl q).1 k1).2).1 k2
  · intro k
    exact ⟨(hl q).2 ⟨by omega, k.2.1⟩, (key k.2.1).2 k⟩

theorem breaks_answer {c v t : ByteArray} {n : Int} {h : Nat → Int} {L : Int → Int → Int} {lm : Nat → Bool} {x : Int} {ok : Bool} (F : FileF c v t n) (H : HeightsOk c h) (hl : ∀ j : Nat, lm j = true ↔ (j : Int) ≤ half c ∧ Live c j) (S : Settled c v t n h L) (hno : ∀ q, ¬ Trap c q) (hf : FirstR (fun q => lm q && leakL c v t n h L q) (half c) x ok) : CodeIs c v t n x (if ok then 9 else 0) := by
  have key := leak_found F H hl S
  refine .inr ⟨hno, .inr ⟨h, H, ?_⟩⟩
  rcases hf with ⟨rfl, h0, h1, h2, h3⟩ | ⟨rfl, rfl, h3⟩
  · refine .inl ⟨rfl, ?_, fun q hq hb => ?_⟩
    · have e : ((x.toNat : Nat) : Int) = x := Int.toNat_of_nonneg h0
      have := (key x.toNat (by rw [e]; exact h1)).1 h2
      rwa [e] at this
    · have e : ((q.toNat : Nat) : Int) = q := Int.toNat_of_nonneg hb.1.1
      have h4 : (lm q.toNat && leakL c v t n h L (q.toNat : Nat)) = false := h3 q.toNat (by rw [e]; exact hq)
      have h5 := (key q.toNat (by rw [e]; exact hb.1.2)).2 (by rw [e]; exact hb)
      rw [h5] at h4
      exact absurd h4 (by simp)
  · refine .inr ⟨rfl, rfl, fun q hb => ?_⟩
    have e : ((q.toNat : Nat) : Int) = q := Int.toNat_of_nonneg hb.1.1
    have h4 : (lm q.toNat && leakL c v t n h L (q.toNat : Nat)) = false := h3 q.toNat (by rw [e]; exact hb.1.2)
    have h5 := (key q.toNat (by rw [e]; exact hb.1.2)).2 (by rw [e]; exact hb)
    rw [h5] at h4
    exact absurd h4 (by simp)

/-- what Judge leaves -/
def JudgePost (c v t : ByteArray) (n : Int) (w : World) (e : Ending) (w' : World) : Prop :=
  ∃ p x : Int, e = .returned (.tuple #[.int .i64 p, .int .i64 x]) ∧ Kp (CodeIs c v t n p x) ∧ Below w.heap.size w w'

set_option maxHeartbeats 6400000 in
theorem judgeC_any (n : Int) (t v c : ByteArray) (w : World) (F : Kp (FileF c v t n)) :
    Calls Try.prog 37 #[.agg #[.int .i64 n, .string t, .string v, .string c]] w (JudgePost c v t n w) := by
  have hh := (half_bd c).1
  have hc := F.out.hc
  have hK := F.out.hK
  have hr : Kp (Ranged c) := ⟨ranged_of F.out.ok⟩
  have hop : Kp (∀ i : Int, 0 ≤ i → i < half c → bv c (2 * i) ≤ 11) := ⟨fun i h0 h1 => by have := of_decide_eq_true (ops_of F.out.ok h0 h1); omega⟩
  have hO0 := Own.new4 w (.int .i64 n) (.string t) (.string v) (.string c) 59
  have hB0 := (Below.refl w.heap.size w).alloc (Nat.le_refl _) (.cells #[.int .i64 n, .string t, .string v, .string c] 59)
  go_enter Try.func37, Try.ntmps37
  go_wp2_with fail
  refine (live_any n t v c _ hc hK hr).mono ?_
  rintro e w1 ⟨lm, rfl, hlm, hb1⟩
  have hO1 := hO0.step hb1
  have hB1 := hB0.trans (hb1.mono hB0.size)
  have hz1 := hO1.lt
  clear hO0 hB0 hb1
  -- live
  obtain ⟨w2, hw2⟩ : ∃ w2, w2 = w1.alloc (.cells Try.zeroCells83 83) := ⟨_, rfl⟩
  have hR2 : Room w2 w1.heap.size 201 := by rw [hw2]; exact Room.of_row (heap_alloc_last _ _) (by kernel_rfl)
  have hb2 : Below w1.heap.size w1 w2 := by rw [hw2]; exact (Below.refl _ _).alloc (Nat.le_refl _) _
  obtain ⟨w3, hw3⟩ : ∃ w3, w3 = w2.setCells w1.heap.size 0 (big 201 (fun j => .bool (lm j))).toList := ⟨_, rfl⟩
  have hb3 : Below w1.heap.size w2 w3 := by rw [hw3]; exact below_cells (Below.refl _ _) (Nat.le_refl _) _ 0
  have hLm3 : SetAt w3 w1.heap.size 0 lm := by
    rw [hw3]
    refine ⟨?_, fun j hj => st_big_cell w2 w1.heap.size 0 201 (fun j => .bool (lm j)) hR2.c j hj, fun j hj => by rw [World.frozen?_setCells]; exact hR2.f j hj⟩
    have := (but_cells (But.refl w1.heap.size 0 w2) (big 201 (fun j => Value.bool (lm j))).toList 0).size
    exact Nat.lt_of_lt_of_le hR2.lt this
  have hO3 := hO1.step (hb2.trans hb3)
  have hB3 := hB1.trans ((hb2.trans hb3).mono hB1.size)
  replace hw2 : Kp _ := ⟨hw2⟩
  replace hw3 : Kp _ := ⟨hw3⟩
  dsimp only
  have q0 := hO3.c 0 _ rfl
  have q1 := hO3.c 1 _ rfl
  have q2 := hO3.c 2 _ rfl
  have q3 := hO3.c 3 _ rfl
  clear hO1 hB1 hb2 hb3
  repeat (first | (refine wp_store_big 83 (.tmp 4) (.tmp 12) rfl w1.heap.size 0 201 (fun j => .bool (lm j)) rfl rfl (by kernel_rfl) (by rw [← hw2.out]; exact hR2.c) (by rw [← hw2.out]; exact hR2.f) (fun _ _ => rfl) ?_; rw [← hw2.out, ← hw3.out]; dsimp only [Act.put]) | go_step)
  refine (waysOf_any n t v c _ hc hK hr).mono ?_
  rintro e w4 ⟨k, T, A, rfl, hN, hb4⟩
  have hO4 := hO3.step hb4
  have hLm4 := hLm3.step hb4
  have hB4 := hB3.trans (hb4.mono hB3.size)
  have hz4 := hLm4.lt
  clear q0 q1 q2 q3 hO3 hB3 hLm3 hb4 hw2 hw3 hR2
  -- ways
  obtain ⟨w5, hw5⟩ : ∃ w5, w5 = w4.alloc (.cells Try.zeroCells87 87) := ⟨_, rfl⟩
  have hR5 : Room w5 w4.heap.size 407 := by rw [hw5]; exact Room.of_row (heap_alloc_last _ _) (by kernel_rfl)
  have hb5 : Below w4.heap.size w4 w5 := by rw [hw5]; exact (Below.refl _ _).alloc (Nat.le_refl _) _
  obtain ⟨w6, hw6⟩ : ∃ w6, w6 = w5.setCells w4.heap.size 0 (big 407 (wayCells n t v c k T A)).toList := ⟨_, rfl⟩
  have hb6 : Below w4.heap.size w5 w6 := by rw [hw6]; exact below_cells (Below.refl _ _) (Nat.le_refl _) _ 0
  have hWy6 : WaysAt w6 w4.heap.size n t v c k T A := by rw [hw6]; exact waysAt_new hR5 n t v c k T A
  have hO6 := hO4.step (hb5.trans hb6)
  have hLm6 := hLm4.step (hb5.trans hb6)
  have hB6 := hB4.trans ((hb5.trans hb6).mono hB4.size)
  replace hw5 : Kp _ := ⟨hw5⟩
  replace hw6 : Kp _ := ⟨hw6⟩
  dsimp only
  have q0 := hO6.c 0 _ rfl
  have q1 := hO6.c 1 _ rfl
  have q2 := hO6.c 2 _ rfl
  have q3 := hO6.c 3 _ rfl
  clear hO4 hB4 hb5 hb6 hLm4
  repeat (first | (refine wp_store_big 87 (.tmp 5) (.tmp 14) rfl w4.heap.size 0 407 (wayCells n t v c k T A) rfl rfl (by kernel_rfl) (by rw [← hw5.out]; exact hR5.c) (by rw [← hw5.out]; exact hR5.f) (fun j _ => way_one _ _ _ _ _ _ _ j) ?_; rw [← hw5.out, ← hw6.out]; dsimp only [Act.put]) | go_step)
  refine (findTrap_any w1.heap.size w4.heap.size n k t v c T A lm _ hc hK hLm6 hWy6).mono ?_
  rintro e w7 ⟨x, ok, rfl, hF7, hb7⟩
  have hO7 := hO6.step hb7
  have hLm7 := hLm6.step hb7
  have hWy7 := hWy6.step hb7
  have hB7 := hB6.trans (hb7.mono hB6.size)
  clear q0 q1 q2 q3 hO6 hB6 hLm6 hWy6 hb7 hw5 hw6 hR5
  cases ok with
  | true =>
    have hA : Kp (CodeIs c v t n x 7) := ⟨.inl ⟨rfl, trap_found hN.out.w hlm.out hF7.out⟩⟩
    go_wp2_with fail
    go_ret2
    exact ⟨x, 7, rfl, hA, hB7⟩
  | false =>
    have hno : Kp (∀ q, ¬ Trap c q) := ⟨trap_none hN.out.w hlm.out hF7.out⟩
    have hWF : Kp (WayF c T A lm) := ⟨hN.out, hr.out, hlm.out, fun x hx => by
      have hx2 := live_rng hr.out hx
      by_cases hR : Reach c (One x) (-1) (half c)
      · exact hR
      · exact absurd ⟨hx2, hx, hR⟩ (hno.out x)⟩
    have q0 := hO7.c 0 _ rfl
    have q1 := hO7.c 1 _ rfl
    have q2 := hO7.c 2 _ rfl
    have q3 := hO7.c 3 _ rfl
    go_wp2_with fail
    refine (heightsOf_any n t v c _ hc hK hr hop).mono ?_
    rintro e w8 ⟨m, h, hE8, hb8⟩
    have hO8 := hO7.step hb8
    have hLm8 := hLm7.step hb8
    have hWy8 := hWy7.step hb8
    have hB8 := hB7.trans (hb8.mono hB7.size)
    clear q0 q1 q2 q3 hO7 hB7 hLm7 hWy7 hb8
    -- heights
    obtain ⟨w9, hw9⟩ : ∃ w9, w9 = w8.alloc (.cells Try.zeroCells93 93) := ⟨_, rfl⟩
    have hR9 : Room w9 w8.heap.size 402 := by rw [hw9]; exact Room.of_row (heap_alloc_last _ _) (by kernel_rfl)
    have hb9 : Below w8.heap.size w8 w9 := by rw [hw9]; exact (Below.refl _ _).alloc (Nat.le_refl _) _
    obtain ⟨wa, hwa⟩ : ∃ wa, wa = w9.setCells w8.heap.size 0 (big 402 (htCells m h)).toList := ⟨_, rfl⟩
    have hba : Below w8.heap.size w9 wa := by rw [hwa]; exact below_cells (Below.refl _ _) (Nat.le_refl _) _ 0
    have hHt : HtAt wa w8.heap.size m h := by rw [hwa]; exact htAt_new hR9 m h
    have hOa := hO8.step (hb9.trans hba)
    have hLma := hLm8.step (hb9.trans hba)
    have hWya := hWy8.step (hb9.trans hba)
    have hBa := hB8.trans ((hb9.trans hba).mono hB8.size)
    have hzl := hLm8.lt
    have hzw := hWy8.lt
    replace hw9 : Kp _ := ⟨hw9⟩
    replace hwa : Kp _ := ⟨hwa⟩
    have q0 := hOa.c 0 _ rfl
    have q1 := hOa.c 1 _ rfl
    have q2 := hOa.c 2 _ rfl
    have q3 := hOa.c 3 _ rfl
    clear hO8 hB8 hb9 hba hLm8 hWy8
    rcases hE8 with ⟨rfl, hH⟩ | ⟨rfl, hH⟩
    · dsimp only
      repeat (first | (refine wp_store_big 93 (.tmp 8) (.tmp 25) rfl w8.heap.size 0 402 (htCells m h) rfl rfl (by kernel_rfl) (by rw [← hw9.out]; exact hR9.c) (by rw [← hw9.out]; exact hR9.f) (fun j _ => ht_one _ _ j) ?_; rw [← hw9.out, ← hwa.out]; dsimp only [Act.put]) | go_step)
      have hCF : Kp (CodeF c v t n h) := ⟨F.out.code hH.out⟩
      have hza := hHt.s.lt
      refine (newLabels_any n t v c w8.heap.size wa F.out.lat).mono ?_
      rintro e wb ⟨rfl, hLab, hbb⟩
      have hHtb := hHt.step hbb
      have hLmb := hLma.step hbb
      have hWyb := hWya.step hbb
      have hBb := hBa.trans (hbb.mono hBa.size)
      clear q0 q1 q2 q3 hOa hBa hLma hWya hHt hbb hw9 hwa hR9
      go_wp2_with fail
      refine (regions_any (wa.heap.size + 1) w1.heap.size w4.heap.size n k t v c w8.heap.size T A lm _ wb hc hK hLab hLmb hWyb (by omega) (by omega) hWF).mono ?_
      rintro e wc ⟨R, W, rfl, hLabc, hbc, hRS⟩
      have hLmc := hLmb.but hbc (by omega)
      have hHtc := hHtb.but hbc (by omega)
      have hzb : w.heap.size ≤ wb.heap.size := hBb.size
      have hzww : w.heap.size ≤ wa.heap.size + 1 := by omega
      have hBc := hBb.trans ((hbc.mono hzb).below hzww)
      have hbeg : Kp _ := ⟨begin_ok F.out hH.out hlm.out hRS.out⟩
      have hRO : Kp (RegOk c R) := ⟨hbeg.out.2⟩
      have hLS : LS wc (wa.heap.size + 1) n t v c w8.heap.size R m h (fun _ _ => (firstTo (pBot t n) n.toNat).getD 0) (fun j => if j < 201 then W j else false) := ⟨hLabc.congrW (fun j hj => by rw [if_pos hj]), hHtc, by omega⟩
      clear hLab hLmb hWyb hHtb hBb hbc hLabc hHtc
      go_wp2_with fail
      refine (settle_any (wa.heap.size + 1) n t v c w8.heap.size R m h _ _ wc hLS hCF hRO ⟨hbeg.out.1⟩).mono ?_
      rintro e wd ⟨L, Wd, rfl, hLSd, hbd, hSet⟩
      have hLmd := hLmc.but hbd (by omega)
      have hzc : w.heap.size ≤ wc.heap.size := hBc.size
      have hBd := hBc.trans ((hbd.mono hzc).below hzww)
      clear hLS hLmc hBc hbd hbeg
      go_wp2_with fail
      refine (findLeak_any (wa.heap.size + 1) w1.heap.size n t v c w8.heap.size R L Wd m lm h wd hLSd hLmd hCF ⟨hSet.out.ok.rng⟩ ⟨fun j hj => ((hlm.out j).1 hj).2⟩).mono ?_
      rintro e we ⟨y, ok, rfl, hFe, hbe⟩
      have hBe := hBd.trans (hbe.mono hBd.size)
      have hA : Kp (CodeIs c v t n y (if ok then 9 else 0)) := ⟨breaks_answer F.out hH.out hlm.out hSet.out hno.out hFe.out⟩
      have hy : Kp (ok = false → y = 0) := ⟨fun k => by
        rcases hFe.out with ⟨h1, _⟩ | ⟨_, h2, _⟩
        · rw [k] at h1; exact absurd h1 (by simp)
        · exact h2⟩
      clear hLSd hLmd hBd hbe hFe
      cases ok with
      | true =>
        go_wp2_with fail
        go_ret2
        exact ⟨y, 9, rfl, hA, hBe⟩
      | false =>
        have h0 := hy.out rfl
        subst h0
        go_wp2_with fail
        go_ret2
        exact ⟨0, 0, rfl, hA, hBe⟩
    · have hA : Kp (CodeIs c v t n 0 8) := ⟨.inr ⟨hno.out, .inl ⟨rfl, rfl, hH.out⟩⟩⟩
      dsimp only
      repeat (first | (refine wp_store_big 93 (.tmp 8) (.tmp 25) rfl w8.heap.size 0 402 (htCells m h) rfl rfl (by kernel_rfl) (by rw [← hw9.out]; exact hR9.c) (by rw [← hw9.out]; exact hR9.f) (fun j _ => ht_one _ _ j) ?_; rw [← hw9.out, ← hwa.out]; dsimp only [Act.put]) | go_step)
      go_wp2_with fail
      go_ret2
      exact ⟨0, 8, rfl, hA, hBa⟩
end Go.Proofs.Ytcnmegalanaldaa
