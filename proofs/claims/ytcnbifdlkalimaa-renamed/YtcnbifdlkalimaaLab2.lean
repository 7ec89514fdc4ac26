/-
  The walks of the package check: joins of labels, what is popped and pushed, labels raised; for every file that is scanned.
-/
import Derived.Test.YtcnbifdlkalimaaLab1
namespace Go.Proofs.Ytcnbifdlkalimaa
open Go.RowKit
set_option linter.unusedVariables false
set_option maxRecDepth 100000

/-- a table that is a lattice, as the walks need it -/
structure LatT (t : ByteArray) (n : Int) : Prop where
  tab : Tab t n
  ord : pOrder t n = true
  lat : LatOk t n

set_option maxHeartbeats 400000 in
theorem joinL_any (b : Nat) (n x y : Int) (t v c : ByteArray) (hb : Nat) (R : Nat → Nat → Bool) (L : Int → Int → Int) (W : Nat → Bool) (w : World) (H : LabAt w b n t v c hb R L W) (hT : LatT t n) (hx : Lv n x) (hy : Lv n y) :
    Calls Try.prog 153 #[.pointer (some ⟨b, 0, none⟩), .int .i64 x, .int .i64 y] w fun e w' => e = .returned (.int .i64 (jn t n x y)) ∧ Below w.heap.size w w' := by
  have q0 := H.c0
  have q1 := H.c1
  have hj : Kp ((pJoin t n x y).getD 0 = jn t n x y) := ⟨by unfold jn; rw [join_same hT.ord]⟩
  have hC := fun w1 => join_any hT.tab x y w1 hx.1 hx.2 hy.1 hy.2
  clear H hT hx hy
  go_enter Try.func153, Try.ntmps153
  go_wp2_with fail
  refine (hC _).mono ?_
  rintro e w1 ⟨rfl, hb1⟩
  rw [hj.out]
  generalize (pJoin t n x y).isSome = g
  go_wp2_with fail
  go_ret
  exact ⟨rfl, hb1⟩

set_option maxHeartbeats 400000 in
theorem popped_any (b k d : Nat) (n : Int) (t v c : ByteArray) (hb : Nat) (R : Nat → Nat → Bool) (L : Int → Int → Int) (W : Nat → Bool) (m : Nat → Bool) (h : Nat → Int) (p : Nat) (w : World) (H : LabAt w b n t v c hb R L W) (hH : HtAt w hb m h) (hp : p < 201) (hd : h p - k = d) (h8 : d < 8) (hk : k ≤ 2) :
    Calls Try.prog 154 #[.pointer (some ⟨b, 0, none⟩), .int .i64 p, .int .i64 k] w fun e w' => e = .returned (.int .i64 (L p (h p - k))) ∧ w' = w := by
  have q := H.hp
  rw [hd]
  have hy : h p = d + k := by omega
  clear hd
  go_enter Try.func154, Try.ntmps154
  go_wp2_with fail
  refine (of_any hb m h p w hH hp).mono ?_
  rintro e w1 ⟨rfl, rfl⟩
  rw [hy]
  go_wp2_with fail
  refine (ofValue_any b n t v c hb R L W p d _ H hp h8).mono ?_
  rintro e w1 ⟨rfl, rfl⟩
  go_wp2_with fail
  go_ret
  exact ⟨rfl, rfl⟩

/-- labels rose, and are still not above what flows -/
structure Ris (c v t : ByteArray) (n : Int) (h : Nat → Int) (L : Int → Int → Int) (W : Nat → Bool) (L' : Int → Int → Int) (W' : Nat → Bool) : Prop where
  rise : Rise t n L W L' W'
  ok : LabOk c v t n h L'
  mu : mu t n L' W' ≤ mu t n L W
  wl : ∀ j : Nat, W' j = true → W j = true ∨ ((j : Int) ≤ half c ∧ Live c j)

theorem Ris.refl {c v t : ByteArray} {n : Int} {h : Nat → Int} {L : Int → Int → Int} {W : Nat → Bool} (H : LatOk t n) (K : LabOk c v t n h L) : Ris c v t n h L W L W := ⟨Rise.refl H K.rng, K, Nat.le_refl _, fun _ h => .inl h⟩

theorem Ris.trans {c v t : ByteArray} {n : Int} {h : Nat → Int} {L L' L'' : Int → Int → Int} {W W' W'' : Nat → Bool} (H : LatOk t n) (K : LabOk c v t n h L) (a : Ris c v t n h L W L' W') (b : Ris c v t n h L' W' L'' W'') : Ris c v t n h L W L'' W'' :=
  ⟨a.rise.trans H K.rng a.ok.rng b.ok.rng b.rise, b.ok, Nat.le_trans b.mu a.mu, fun j hj => by
    rcases b.wl j hj with k | k
    · exact a.wl j k
    · exact .inr k⟩

theorem Ris.raise {c v t : ByteArray} {n : Int} {h : Nat → Int} {L : Int → Int → Int} {W : Nat → Bool} {p : Nat} {d lev : Int} (H : LatOk t n) (K : LabOk c v t n h L) (hm : MayFlow c v t n h p d lev) (hp : p < 201) (hpK : (p : Int) ≤ half c) (hl : Live c p) (hd0 : -1 ≤ d) (hd : d < 8) (hne : jn t n (L p d) lev ≠ L p d) : Ris c v t n h L W (updL L p d (jn t n (L p d) lev)) (fun j => if j = p then true else W j) :=
  ⟨Rise.raise H K.rng hm.1, K.raise H hm, Nat.le_of_lt (mu_raise H K.rng hm.1 hp hd0 hd hne), fun j hj => by
    by_cases e : j = p
    · subst e; exact .inr ⟨hpK, hl⟩
    · simp [e] at hj; exact .inl hj⟩

/-- what a raise leaves -/
def RaisePost (b : Nat) (n : Int) (t v c : ByteArray) (hb : Nat) (R : Nat → Nat → Bool) (h : Nat → Int) (L : Int → Int → Int) (W : Nat → Bool) (p d lev : Int) (w : World) (e : Ending) (w' : World) : Prop :=
  ∃ (L' : Int → Int → Int) (W' : Nat → Bool), e = .returned (.tuple #[]) ∧ LabAt w' b n t v c hb R L' W' ∧ But b w.heap.size w w' ∧ Kp (Ris c v t n h L W L' W' ∧ le t n lev (L' p d) = true)

set_option maxHeartbeats 1600000 in
theorem raiseP_any (b : Nat) (n lev : Int) (t v c : ByteArray) (hb : Nat) (R : Nat → Nat → Bool) (h : Nat → Int) (L : Int → Int → Int) (W : Nat → Bool) (p : Nat) (w : World) (H : LabAt w b n t v c hb R L W) (hT : LatT t n) (K : Kp (LabOk c v t n h L)) (hm : Kp (MayFlow c v t n h p (-1) lev)) (hp : p < 201) (hpK : Kp ((p : Int) ≤ half c ∧ Live c p)) :
    Calls Try.prog 194 #[.pointer (some ⟨b, 0, none⟩), .int .i64 p, .int .i64 lev] w (RaisePost b n t v c hb R h L W p (-1) lev w) := by
  have hp2 : (p : Int) < 201 := by omega
  have q := H.pl p hp
  go_enter Try.func194, Try.ntmps194
  go_wp2_with fail
  refine (joinL_any b n (L p (-1)) lev t v c hb R L W w H hT (K.out.rng _ _) hm.out.1).mono ?_
  rintro e w1 ⟨rfl, hb1⟩
  have H1 := H.step hb1
  have hB1 : But b w.heap.size w w1 := But.of hb1
  clear q H hb1
  have q := H1.pl p hp
  have qf := H1.f (40406 + p) (by omega)
  by_cases hne : jn t n (L p (-1)) lev = L p (-1)
  · have hR : Kp (Ris c v t n h L W L W ∧ le t n lev (L p (-1)) = true) := ⟨Ris.refl hT.lat K.out, by have := hT.lat.jr _ _ (K.out.rng p (-1)) hm.out.1; rwa [hne] at this⟩
    rw [hne]
    go_wp2_with fail
    first | go_end0 | refine bodyPost_ret (results_none rfl _ _ _) rfl ?_
    exact ⟨L, W, rfl, H1, hB1, hR⟩
  · have hR : Kp (Ris c v t n h L W (updL L p (-1) (jn t n (L p (-1)) lev)) (fun j => if j = p then true else W j) ∧ le t n lev (updL L p (-1) (jn t n (L p (-1)) lev) p (-1)) = true) := ⟨Ris.raise hT.lat K.out hm.out hp hpK.out.1 hpK.out.2 (by omega) (by omega) hne, by rw [updL_at]; exact hT.lat.jr _ _ (K.out.rng p (-1)) hm.out.1⟩
    have hne2 : (jn t n (L p (-1)) lev != L p (-1)) = true := by simpa using hne
    have H2 := H1.setP p hp (jn t n (L p (-1)) lev)
    have hB2 := hB1.setCell (40406 + p) (.int .i64 (jn t n (L p (-1)) lev))
    obtain ⟨w2, hw2⟩ : ∃ w2, w1.setCell ⟨b, 40406 + p, none⟩ (.int .i64 (jn t n (L p (-1)) lev)) = w2 := ⟨_, rfl⟩
    rw [hw2] at H2 hB2
    generalize jn t n (L p (-1)) lev = z at *
    clear hne H1 hB1
    cases hW : W p with
    | true =>
      have hWW : (fun j => if j = p then true else W j) = W := by funext j; by_cases e : j = p <;> simp [e, hW]
      rw [hWW] at hR
      go_wp2_with fail
      refine (add_old b 42215 W p w2 H2.wait hp hW).mono ?_
      rintro e w3 ⟨rfl, rfl⟩
      go_wp2_with fail
      first | go_end0 | refine bodyPost_ret (results_none rfl _ _ _) rfl ?_
      exact ⟨_, W, rfl, H2, hB2, hR⟩
    | false =>
      go_wp2_with fail
      refine (add_new b 42215 W p w2 H2.wait hp hW).mono ?_
      rintro e w3 ⟨rfl, hw3⟩
      have H3 := H2.setW p hp true
      have hB3 := hB2.setCell (42215 + p) (.bool true)
      rw [← hw3] at H3 hB3
      clear hw3 H2 hB2
      go_wp2_with fail
      first | go_end0 | refine bodyPost_ret (results_none rfl _ _ _) rfl ?_
      exact ⟨_, _, rfl, H3, hB3, hR⟩

set_option maxHeartbeats 1600000 in
theorem raiseV_any (b : Nat) (n lev : Int) (t v c : ByteArray) (hb : Nat) (R : Nat → Nat → Bool) (h : Nat → Int) (L : Int → Int → Int) (W : Nat → Bool) (p d : Nat) (w : World) (H : LabAt w b n t v c hb R L W) (hT : LatT t n) (K : Kp (LabOk c v t n h L)) (hm : Kp (MayFlow c v t n h p d lev)) (hp : p < 201) (hd : d < 8) (hpK : Kp ((p : Int) ≤ half c ∧ Live c p)) :
    Calls Try.prog 191 #[.pointer (some ⟨b, 0, none⟩), .int .i64 p, .int .i64 d, .int .i64 lev] w (RaisePost b n t v c hb R h L W p d lev w) := by
  have hp2 : (p : Int) < 201 := by omega
  have hd2 : (d : Int) < 8 := by omega
  have q := H.vl p d hp hd
  go_enter Try.func191, Try.ntmps191
  go_wp2_with fail
  refine (joinL_any b n (L p d) lev t v c hb R L W w H hT (K.out.rng _ _) hm.out.1).mono ?_
  rintro e w1 ⟨rfl, hb1⟩
  have H1 := H.step hb1
  have hB1 : But b w.heap.size w w1 := But.of hb1
  clear q H hb1
  have q := H1.vl p d hp hd
  have qf := H1.f (40607 + p * 8 + d) (by omega)
  by_cases hne : jn t n (L p d) lev = L p d
  · have hR : Kp (Ris c v t n h L W L W ∧ le t n lev (L p d) = true) := ⟨Ris.refl hT.lat K.out, by have := hT.lat.jr _ _ (K.out.rng p d) hm.out.1; rwa [hne] at this⟩
    rw [hne]
    go_wp2_with fail
    first | go_end0 | refine bodyPost_ret (results_none rfl _ _ _) rfl ?_
    exact ⟨L, W, rfl, H1, hB1, hR⟩
  · have hR : Kp (Ris c v t n h L W (updL L p d (jn t n (L p d) lev)) (fun j => if j = p then true else W j) ∧ le t n lev (updL L p d (jn t n (L p d) lev) p d) = true) := ⟨Ris.raise hT.lat K.out hm.out hp hpK.out.1 hpK.out.2 (by omega) (by omega) hne, by rw [updL_at]; exact hT.lat.jr _ _ (K.out.rng p d) hm.out.1⟩
    have hne2 : (jn t n (L p d) lev != L p d) = true := by simpa using hne
    have H2 := H1.setV p d hp hd (jn t n (L p d) lev)
    have hB2 := hB1.setCell (40607 + p * 8 + d) (.int .i64 (jn t n (L p d) lev))
    obtain ⟨w2, hw2⟩ : ∃ w2, w1.setCell ⟨b, 40607 + p * 8 + d, none⟩ (.int .i64 (jn t n (L p d) lev)) = w2 := ⟨_, rfl⟩
    rw [hw2] at H2 hB2
    generalize jn t n (L p d) lev = z at *
    clear hne H1 hB1
    cases hW : W p with
    | true =>
      have hWW : (fun j => if j = p then true else W j) = W := by funext j; by_cases e : j = p <;> simp [e, hW]
      rw [hWW] at hR
      go_wp2_with fail
      refine (add_old b 42215 W p w2 H2.wait hp hW).mono ?_
      rintro e w3 ⟨rfl, rfl⟩
      go_wp2_with fail
      first | go_end0 | refine bodyPost_ret (results_none rfl _ _ _) rfl ?_
      exact ⟨_, W, rfl, H2, hB2, hR⟩
    | false =>
      go_wp2_with fail
      refine (add_new b 42215 W p w2 H2.wait hp hW).mono ?_
      rintro e w3 ⟨rfl, hw3⟩
      have H3 := H2.setW p hp true
      have hB3 := hB2.setCell (42215 + p) (.bool true)
      rw [← hw3] at H3 hB3
      clear hw3 H2 hB2
      go_wp2_with fail
      first | go_end0 | refine bodyPost_ret (results_none rfl _ _ _) rfl ?_
      exact ⟨_, _, rfl, H3, hB3, hR⟩
end Go.Proofs.Ytcnbifdlkalimaa
