/-
  The plain mathematics of labels that rise until all asked of them holds: that they end as the lowest, and that the rising ends; no condition but those that stand in each lemma.
-/
import Derived.Test.YtcnbifdlkalimaaPlain10
namespace Go.Proofs.Ytcnbifdlkalimaa
open Go.RowKit

/-- the level that instruction i pushes, by the labels L -/
def pushLev (c v t : ByteArray) (n : Int) (h : Nat → Int) (L : Int → Int → Int) (i : Int) : Int :=
  if bv c (2 * i) = 1 then jn t n (L i (-1)) (bv v (bv c (2 * i + 1)))
  else if bv c (2 * i) = 10 then jn t n (L i (-1)) (bv c (2 * i + 1))
  else if 3 ≤ bv c (2 * i) ∧ bv c (2 * i) ≤ 7 then jn t n (jn t n (L i (-1)) (L i (h i.toNat - 1))) (L i (h i.toNat - 2))
  else L i (-1)

/-- levels are labels, and not above what flows -/
structure LabOk (c v t : ByteArray) (n : Int) (h : Nat → Int) (L : Int → Int → Int) : Prop where
  rng : ∀ p d, Lv n (L p d)
  sound : ∀ p d u, Lv n u → (∀ a, Lv n a → Flow c v h a p d → le t n a u = true) → le t n (L p d) u = true

/-- lev may flow to label d of place p -/
def MayFlow (c v t : ByteArray) (n : Int) (h : Nat → Int) (p d lev : Int) : Prop := Lv n lev ∧ ∀ u, Lv n u → (∀ a, Lv n a → Flow c v h a p d → le t n a u = true) → le t n lev u = true

/-- labels rose; what does not wait is as it was -/
structure Rise (t : ByteArray) (n : Int) (L : Int → Int → Int) (W : Nat → Bool) (L' : Int → Int → Int) (W' : Nat → Bool) : Prop where
  up : ∀ p d, le t n (L p d) (L' p d) = true
  same : ∀ p : Nat, W' p = false → W p = false ∧ ∀ d, L' p d = L p d

theorem Rise.refl {t : ByteArray} {n : Int} (H : LatOk t n) {L : Int → Int → Int} {W : Nat → Bool} (hr : ∀ p d, Lv n (L p d)) : Rise t n L W L W := ⟨fun p d => H.refl _ (hr p d), fun _ h => ⟨h, fun _ => rfl⟩⟩

theorem Rise.trans {t : ByteArray} {n : Int} (H : LatOk t n) {L L' L'' : Int → Int → Int} {W W' W'' : Nat → Bool} (r : ∀ p d, Lv n (L p d)) (r' : ∀ p d, Lv n (L' p d)) (r'' : ∀ p d, Lv n (L'' p d)) (a : Rise t n L W L' W') (b : Rise t n L' W' L'' W'') : Rise t n L W L'' W'' :=
  ⟨fun p d => H.trans _ _ _ (r p d) (r' p d) (r'' p d) (a.up p d) (b.up p d), fun p h => by
    have h1 := b.same p h
    have h2 := a.same p h1.1
    exact ⟨h2.1, fun d => by rw [h1.2 d, h2.2 d]⟩⟩

/-- instruction i has handed on what its labels ask to place j; to those of its region -/
structure HandTo (c v t : ByteArray) (n : Int) (h : Nat → Int) (L : Int → Int → Int) (i j : Int) : Prop where
  stay : ∀ d, 0 ≤ d → d < h i.toNat - takesAt c i → le t n (L i d) (L j d) = true
  push : givesAt c i = 1 → le t n (pushLev c v t n h L i) (L j (h i.toNat - takesAt c i)) = true

def zeroLev (t : ByteArray) (n : Int) (h : Nat → Int) (L : Int → Int → Int) (i : Int) : Int := jn t n (L i (-1)) (L i (h i.toNat - 1))

structure Handed (c v t : ByteArray) (n : Int) (h : Nat → Int) (L : Int → Int → Int) (i : Int) : Prop where
  to : ∀ j, j ∈ nxt c i → HandTo c v t n h L i j
  hide : bv c (2 * i) = 9 → ∀ p, 0 ≤ p → p < half c → Reg c i p → le t n (zeroLev t n h L i) (L p (-1)) = true

theorem push_same {c v t : ByteArray} {n : Int} {h : Nat → Int} {L L' : Int → Int → Int} {i : Int} (e : ∀ d, L' i d = L i d) : pushLev c v t n h L' i = pushLev c v t n h L i := by
  unfold pushLev
  rw [e, e, e]

theorem zero_same {t : ByteArray} {n : Int} {h : Nat → Int} {L L' : Int → Int → Int} {i : Int} (e : ∀ d, L' i d = L i d) : zeroLev t n h L' i = zeroLev t n h L i := by
  unfold zeroLev
  rw [e, e]

theorem push_lv {c v t : ByteArray} {n : Int} {h : Nat → Int} {L : Int → Int → Int} {i : Int} (H : LatOk t n) (hr : ∀ p d, Lv n (L p d)) (hv : bv c (2 * i) = 1 → Lv n (bv v (bv c (2 * i + 1)))) (ha : bv c (2 * i) = 10 → Lv n (bv c (2 * i + 1))) : Lv n (pushLev c v t n h L i) := by
  unfold pushLev
  split
  · rename_i e; exact H.jin _ _ (hr _ _) (hv e)
  · split
    · rename_i e; exact H.jin _ _ (hr _ _) (ha e)
    · split
      · exact H.jin _ _ (H.jin _ _ (hr _ _) (hr _ _)) (hr _ _)
      · exact hr _ _

theorem HandTo.rise {c v t : ByteArray} {n : Int} {h : Nat → Int} {L L' : Int → Int → Int} {W W' : Nat → Bool} {i : Nat} {j : Int} (H : LatOk t n) (hr : ∀ p d, Lv n (L p d)) (hr' : ∀ p d, Lv n (L' p d)) (hp : Lv n (pushLev c v t n h L i)) (R : Rise t n L W L' W') (hw : W' i = false) (K : HandTo c v t n h L i j) : HandTo c v t n h L' i j := by
  have e := (R.same i hw).2
  refine ⟨fun d h0 h1 => ?_, fun hg => ?_⟩
  · rw [e d]; exact H.trans _ _ _ (hr _ _) (hr _ _) (hr' _ _) (K.stay d h0 h1) (R.up _ _)
  · rw [push_same e]; exact H.trans _ _ _ hp (hr _ _) (hr' _ _) (K.push hg) (R.up _ _)

theorem Handed.rise {c v t : ByteArray} {n : Int} {h : Nat → Int} {L L' : Int → Int → Int} {W W' : Nat → Bool} {i : Nat} (H : LatOk t n) (hr : ∀ p d, Lv n (L p d)) (hr' : ∀ p d, Lv n (L' p d)) (hp : Lv n (pushLev c v t n h L i)) (R : Rise t n L W L' W') (hw : W' i = false) (K : Handed c v t n h L i) : Handed c v t n h L' i := by
  have e := (R.same i hw).2
  refine ⟨fun j hj => (K.to j hj).rise H hr hr' hp R hw, fun h9 p h0 h1 hR => ?_⟩
  rw [zero_same e]
  exact H.trans _ _ _ (H.jin _ _ (hr _ _) (hr _ _)) (hr _ _) (hr' _ _) (K.hide h9 p h0 h1 hR) (R.up _ _)

/-- one label raised -/
def updL (L : Int → Int → Int) (p d x : Int) : Int → Int → Int := fun q e => if q = p ∧ e = d then x else L q e
theorem updL_at (L : Int → Int → Int) (p d x : Int) : updL L p d x p d = x := if_pos ⟨rfl, rfl⟩
theorem updL_ne {L : Int → Int → Int} {p d x q e : Int} (h : ¬ (q = p ∧ e = d)) : updL L p d x q e = L q e := if_neg h

theorem LabOk.raise {c v t : ByteArray} {n : Int} {h : Nat → Int} {L : Int → Int → Int} {p d lev : Int} (H : LatOk t n) (K : LabOk c v t n h L) (hm : MayFlow c v t n h p d lev) : LabOk c v t n h (updL L p d (jn t n (L p d) lev)) := by
  refine ⟨fun q e => ?_, fun q e u hu ha => ?_⟩
  · by_cases k : q = p ∧ e = d
    · obtain ⟨rfl, rfl⟩ := k; rw [updL_at]; exact H.jin _ _ (K.rng _ _) hm.1
    · rw [updL_ne k]; exact K.rng q e
  · by_cases k : q = p ∧ e = d
    · obtain ⟨rfl, rfl⟩ := k; rw [updL_at]; exact H.jm _ _ _ (K.rng _ _) hm.1 hu (K.sound _ _ u hu ha) (hm.2 u hu ha)
    · rw [updL_ne k]; exact K.sound q e u hu ha

theorem Rise.raise {t : ByteArray} {n : Int} {L : Int → Int → Int} {W : Nat → Bool} {p : Nat} {d lev : Int} (H : LatOk t n) (hr : ∀ p d, Lv n (L p d)) (hl : Lv n lev) : Rise t n L W (updL L p d (jn t n (L p d) lev)) (fun j => if j = p then true else W j) := by
  refine ⟨fun q e => ?_, fun q hq => ?_⟩
  · by_cases k : q = p ∧ e = d
    · obtain ⟨rfl, rfl⟩ := k; rw [updL_at]; exact H.jl _ _ (hr _ _) hl
    · rw [updL_ne k]; exact H.refl _ (hr _ _)
  · by_cases k : q = p
    · simp [k] at hq
    · simp [k] at hq
      exact ⟨hq, fun e => updL_ne (fun h => k (by have := h.1; omega))⟩

/-- how many of the first k levels x is at or below -/
def rankTo (t : ByteArray) (n x : Int) : Nat → Nat
  | 0 => 0
  | k + 1 => rankTo t n x k + (if le t n x k then 1 else 0)

theorem rank_le {t : ByteArray} {n x y : Int} (k : Nat) (h : ∀ u : Nat, u < k → le t n y u = true → le t n x u = true) : rankTo t n y k ≤ rankTo t n x k ∧ (rankTo t n y k = rankTo t n x k → ∀ u : Nat, u < k → le t n x u = true → le t n y u = true) := by
  induction k with
  | zero => exact ⟨Nat.le_refl _, fun _ u hu => by omega⟩
  | succ k ih =>
    have ih := ih (fun u hu => h u (by omega))
    have hk := h k (by omega)
    simp only [rankTo]
    cases hy : le t n y k <;> cases hx : le t n x k
    · refine ⟨by simpa using ih.1, fun e u hu hu2 => ?_⟩
      by_cases k2 : u = k
      · rw [k2, hx] at hu2; exact absurd hu2 (by simp)
      · exact ih.2 (by simpa using e) u (by omega) hu2
    · refine ⟨by simp; omega, fun e => ?_⟩
      simp at e; omega
    · rw [hy, hx] at hk; exact absurd (hk rfl) (by simp)
    · refine ⟨by simpa using ih.1, fun e u hu hu2 => ?_⟩
      by_cases k2 : u = k
      · rw [k2]; exact hy
      · exact ih.2 (by simpa using e) u (by omega) hu2

def rank (t : ByteArray) (n x : Int) : Nat := rankTo t n x n.toNat

theorem rank_up {t : ByteArray} {n x y : Int} (H : LatOk t n) (hx : Lv n x) (hy : Lv n y) (h : le t n x y = true) (hne : y ≠ x) : rank t n y < rank t n x := by
  have h1 := rank_le (t := t) (n := n) (x := x) (y := y) n.toNat (fun u hu hu2 => H.trans _ _ _ hx hy ⟨by omega, by omega⟩ h hu2)
  unfold rank
  rcases Nat.lt_or_ge (rankTo t n y n.toNat) (rankTo t n x n.toNat) with k | k
  · exact k
  · exfalso
    have h2 := h1.2 (by omega) x.toNat (by have := hx.2; have := hx.1; omega)
    rw [Int.toNat_of_nonneg hx.1] at h2
    exact hne (H.anti _ _ hy hx (h2 (H.refl _ hx)) h)

/-- a sum -/
def sumTo (f : Nat → Nat) : Nat → Nat
  | 0 => 0
  | k + 1 => sumTo f k + f k

theorem sumTo_congr {f g : Nat → Nat} {k : Nat} (h : ∀ i, i < k → f i = g i) : sumTo f k = sumTo g k := by
  induction k with
  | zero => rfl
  | succ k ih => simp only [sumTo, ih (fun i hi => h i (by omega)), h k (by omega)]

theorem sumTo_less {f g : Nat → Nat} {k j : Nat} (hj : j < k) (h : ∀ i, i ≠ j → f i = g i) (hlt : f j < g j) : sumTo f k < sumTo g k := by
  induction k with
  | zero => omega
  | succ k ih =>
    simp only [sumTo]
    by_cases e : j = k
    · subst e
      rw [sumTo_congr (f := f) (g := g) (fun i hi => h i (by omega))]
      omega
    · have := ih (by omega)
      rw [h k (fun k2 => e k2.symm)]
      omega

/-- how many wait -/
def cntT (W : Nat → Bool) : Nat → Nat := sumTo (fun j => if W j then 1 else 0)

theorem cntT_bd (W : Nat → Bool) (k : Nat) : cntT W k ≤ k := by
  unfold cntT
  induction k with
  | zero => exact Nat.le_refl _
  | succ k ih => simp only [sumTo]; split <;> omega

theorem cntT_del {W : Nat → Bool} {p k : Nat} (hp : p < k) (h : W p = true) : cntT (fun j => if j = p then false else W j) k < cntT W k := by
  refine sumTo_less hp (fun i hi => by simp [hi]) ?_
  simp [h]

/-- how far the labels can still rise, and how many wait -/
def mu (t : ByteArray) (n : Int) (L : Int → Int → Int) (W : Nat → Bool) : Nat := 202 * sumTo (fun k => rank t n (L ((k / 9 : Nat) : Int) (((k % 9 : Nat) : Int) - 1))) 1809 + cntT W 201

theorem mu_raise {t : ByteArray} {n : Int} {L : Int → Int → Int} {W : Nat → Bool} {p : Nat} {d lev : Int} (H : LatOk t n) (hr : ∀ p d, Lv n (L p d)) (hl : Lv n lev) (hp : p < 201) (hd0 : -1 ≤ d) (hd : d < 8) (hne : jn t n (L p d) lev ≠ L p d) : mu t n (updL L p d (jn t n (L p d) lev)) (fun j => if j = p then true else W j) < mu t n L W := by
  have hup := rank_up H (hr p d) (H.jin _ _ (hr p d) hl) (H.jl _ _ (hr p d) hl) hne
  have hs := sumTo_less (f := fun k => rank t n (updL L p d (jn t n (L p d) lev) ((k / 9 : Nat) : Int) (((k % 9 : Nat) : Int) - 1))) (g := fun k => rank t n (L ((k / 9 : Nat) : Int) (((k % 9 : Nat) : Int) - 1))) (k := 1809) (j := 9 * p + (d + 1).toNat) (by omega) (fun i hi => by
    rw [updL_ne (fun k => hi (by have h1 := k.1; have h2 := k.2; omega))]) (by
    rw [show (9 * p + (d + 1).toNat) / 9 = p from by omega, show (((9 * p + (d + 1).toNat) % 9 : Nat) : Int) - 1 = d from by omega, updL_at]
    exact hup)
  have h1 := cntT_bd (fun j => if j = p then true else W j) 201
  unfold mu
  omega

theorem mu_del {t : ByteArray} {n : Int} {L : Int → Int → Int} {W : Nat → Bool} {p : Nat} (hp : p < 201) (h : W p = true) : mu t n L (fun j => if j = p then false else W j) < mu t n L W := by
  have := cntT_del hp h
  unfold mu
  omega

/-- what the labels are when all is handed on -/
theorem labels_full {c v t : ByteArray} {n : Int} {h : Nat → Int} {L : Int → Int → Int} (H : LatOk t n) (K : LabOk c v t n h L) (hH : HeightsOk c h)
    (hv : ∀ i, 0 ≤ i → i < half c → bv c (2 * i) = 1 → Lv n (bv v (bv c (2 * i + 1)))) (ha : ∀ i, 0 ≤ i → i < half c → bv c (2 * i) = 10 → Lv n (bv c (2 * i + 1)))
    (all : ∀ i : Int, 0 ≤ i → i < half c → Live c i → Handed c v t n h L i) {a p d : Int} (hla : Lv n a) (hf : Flow c v h a p d) : (d = -1 ∧ ¬ p < half c) ∨ le t n a (L p d) = true := by
  have plv : ∀ i, 0 ≤ i → i < half c → Lv n (pushLev c v t n h L i) := fun i h0 h1 => push_lv H K.rng (hv i h0 h1) (ha i h0 h1)
  refine hf (fun p d => (d = -1 ∧ ¬ p < half c) ∨ le t n a (L p d) = true) ⟨fun i j d hl he h0 h1 hp => .inr ?_, fun i j hl he hg hs => .inr ?_, fun i p hl h0 h1 h9 hp hR hp0 hp1 => ?_⟩
  · rcases hp with hp | hp
    · omega
    · exact H.trans _ _ _ hla (K.rng _ _) (K.rng _ _) hp (((all i he.1 he.2.1 hl).to j he.2.2).stay d h0 h1)
  · refine H.trans _ _ _ hla (plv i he.1 he.2.1) (K.rng _ _) ?_ (((all i he.1 he.2.1 hl).to j he.2.2).push hg)
    have lt := he.2.1
    have e : ((i.toNat : Nat) : Int) = i := Int.toNat_of_nonneg he.1
    have hpops := hH.pops i.toNat (by rw [e]; exact lt) (by rw [e]; exact hl)
    rw [e] at hpops
    have base : ∀ x, le t n a (L i (-1)) = true → Lv n x → le t n a (jn t n (L i (-1)) x) = true := fun x h1 h2 => H.trans _ _ _ hla (K.rng _ _) (H.jin _ _ (K.rng _ _) h2) h1 (H.jl _ _ (K.rng _ _) h2)
    unfold pushLev
    rcases hs with hs | ⟨h1, h2⟩ | ⟨h1, h2⟩ | ⟨h1, h2⟩
    · have hs : le t n a (L i (-1)) = true := by
        rcases hs with hs | hs
        · omega
        · exact hs
      split
      · rename_i e; exact base _ hs (hv i he.1 lt e)
      · split
        · rename_i e; exact base _ hs (ha i he.1 lt e)
        · split
          · exact H.trans _ _ _ hla (H.jin _ _ (K.rng _ _) (K.rng _ _)) (H.jin _ _ (H.jin _ _ (K.rng _ _) (K.rng _ _)) (K.rng _ _)) (base _ hs (K.rng _ _)) (H.jl _ _ (H.jin _ _ (K.rng _ _) (K.rng _ _)) (K.rng _ _))
          · exact hs
    · rw [if_pos h1, h2]; exact H.jr _ _ (K.rng _ _) hla
    · rw [if_neg (by omega), if_pos h1, h2]; exact H.jr _ _ (K.rng _ _) hla
    · rw [if_neg (by omega), if_neg (by omega), if_pos h1]
      have ht : takesAt c i = 2 := by
        unfold takesAt takesF
        rw [if_neg (by omega), if_neg (by omega)]
      have j1 := H.jin _ _ (K.rng i (-1)) (K.rng i (h i.toNat - 1))
      rcases h2 with h2 | h2
      · rcases h2 with h2 | h2
        · omega
        · exact H.trans _ _ _ hla j1 (H.jin _ _ j1 (K.rng _ _)) (H.trans _ _ _ hla (K.rng _ _) j1 h2 (H.jr _ _ (K.rng _ _) (K.rng _ _))) (H.jl _ _ j1 (K.rng _ _))
      · rcases h2 with h2 | h2
        · omega
        · exact H.trans _ _ _ hla (K.rng _ _) (H.jin _ _ j1 (K.rng _ _)) h2 (H.jr _ _ j1 (K.rng _ _))
  · by_cases hpK : p < half c
    · refine .inr ?_
      have jz := H.jin _ _ (K.rng i (-1)) (K.rng i (h i.toNat - 1))
      refine H.trans _ _ _ hla jz (K.rng _ _) ?_ ((all i h0 h1 hl).hide h9 p hp0 hpK hR)
      have e : ((i.toNat : Nat) : Int) = i := Int.toNat_of_nonneg h0
      have hpops := hH.pops i.toNat (by rw [e]; exact h1) (by rw [e]; exact hl)
      rw [e] at hpops
      have ht : takesAt c i = 1 := by unfold takesAt takesF; rw [if_pos (by omega)]
      rcases hp with hp | hp
      · rcases hp with hp | hp
        · omega
        · exact H.trans _ _ _ hla (K.rng _ _) jz hp (H.jl _ _ (K.rng _ _) (K.rng _ _))
      · rcases hp with hp | hp
        · omega
        · exact H.trans _ _ _ hla (K.rng _ _) jz hp (H.jr _ _ (K.rng _ _) (K.rng _ _))
    · exact .inl ⟨rfl, hpK⟩

theorem may_stay {c v t : ByteArray} {n : Int} {h : Nat → Int} {L : Int → Int → Int} (K : LabOk c v t n h L) {i j d : Int} (hl : Live c i) (he : Edge c i j) (h0 : 0 ≤ d) (h1 : d < h i.toNat - takesAt c i) : MayFlow c v t n h j d (L i d) :=
  ⟨K.rng _ _, fun u hu ha => K.sound i d u hu (fun a hla hf => ha a hla ((flow_cl c v h a).stay i j d hl he h0 h1 hf))⟩

theorem may_push {c v t : ByteArray} {n : Int} {h : Nat → Int} {L : Int → Int → Int} (H : LatOk t n) (K : LabOk c v t n h L) {i j : Int} (hl : Live c i) (he : Edge c i j) (hg : givesAt c i = 1)
    (hv : bv c (2 * i) = 1 → Lv n (bv v (bv c (2 * i + 1)))) (ha : bv c (2 * i) = 10 → Lv n (bv c (2 * i + 1))) : MayFlow c v t n h j (h i.toNat - takesAt c i) (pushLev c v t n h L i) := by
  refine ⟨push_lv H K.rng hv ha, fun u hu hall => ?_⟩
  have src : ∀ a, Lv n a → SrcOf c v h a (Flow c v h a) i → le t n a u = true := fun a hla hs => hall a hla ((flow_cl c v h a).push i j hl he hg hs)
  have b0 : le t n (L i (-1)) u = true := K.sound i (-1) u hu (fun a hla hf => src a hla (.inl hf))
  unfold pushLev
  split
  · rename_i e
    exact H.jm _ _ _ (K.rng _ _) (hv e) hu b0 (src _ (hv e) (.inr (.inl ⟨e, rfl⟩)))
  · split
    · rename_i e
      exact H.jm _ _ _ (K.rng _ _) (ha e) hu b0 (src _ (ha e) (.inr (.inr (.inl ⟨e, rfl⟩))))
    · split
      · rename_i e
        have b1 : le t n (L i (h i.toNat - 1)) u = true := K.sound i _ u hu (fun a hla hf => src a hla (.inr (.inr (.inr ⟨e, .inl hf⟩))))
        have b2 : le t n (L i (h i.toNat - 2)) u = true := K.sound i _ u hu (fun a hla hf => src a hla (.inr (.inr (.inr ⟨e, .inr hf⟩))))
        exact H.jm _ _ _ (H.jin _ _ (K.rng _ _) (K.rng _ _)) (K.rng _ _) hu (H.jm _ _ _ (K.rng _ _) (K.rng _ _) hu b0 b1) b2
      · exact b0

theorem may_zero {c v t : ByteArray} {n : Int} {h : Nat → Int} {L : Int → Int → Int} (H : LatOk t n) (K : LabOk c v t n h L) {i p : Int} (hl : Live c i) (h0 : 0 ≤ i) (h1 : i < half c) (h9 : bv c (2 * i) = 9) (hR : Reg c i p) (hp0 : 0 ≤ p) (hp1 : p ≤ half c) : MayFlow c v t n h p (-1) (zeroLev t n h L i) := by
  refine ⟨H.jin _ _ (K.rng _ _) (K.rng _ _), fun u hu hall => ?_⟩
  have src : ∀ a, Lv n a → (Flow c v h a i (-1) ∨ Flow c v h a i (h i.toNat - 1)) → le t n a u = true := fun a hla hs => hall a hla ((flow_cl c v h a).hide i p hl h0 h1 h9 hs hR hp0 hp1)
  exact H.jm _ _ _ (K.rng _ _) (K.rng _ _) hu (K.sound i _ u hu (fun a hla hf => src a hla (.inl hf))) (K.sound i _ u hu (fun a hla hf => src a hla (.inr hf)))

/-- what the program asks at instruction i, by the labels L -/
def leakL (c v t : ByteArray) (n : Int) (h : Nat → Int) (L : Int → Int → Int) (i : Int) : Bool :=
  if bv c (2 * i) = 2 then !(le t n (zeroLev t n h L i) (bv v (bv c (2 * i + 1))))
  else if bv c (2 * i) = 11 then !(le t n (zeroLev t n h L i) (bv c (2 * i + 1)))
  else if bv c (2 * i) = 10 then !(le t n (L i (-1)) (bv c (2 * i + 1)))
  else false

theorem leak_iff {c v t : ByteArray} {n : Int} {h : Nat → Int} {L : Int → Int → Int} (H : LatOk t n) (K : LabOk c v t n h L) (hH : HeightsOk c h)
    (hs : ∀ i, 0 ≤ i → i < half c → bv c (2 * i) = 2 → Lv n (bv v (bv c (2 * i + 1)))) (ha : ∀ i, 0 ≤ i → i < half c → (bv c (2 * i) = 10 ∨ bv c (2 * i) = 11) → Lv n (bv c (2 * i + 1)))
    (full : ∀ a p d, Lv n a → Flow c v h a p d → (d = -1 ∧ ¬ p < half c) ∨ le t n a (L p d) = true) {i : Int} (h0 : 0 ≤ i) (h1 : i < half c) (hl : Live c i) : leakL c v t n h L i = true ↔ Breaks c v t n h i := by
  have e : ((i.toNat : Nat) : Int) = i := Int.toNat_of_nonneg h0
  have hpops := hH.pops i.toNat (by rw [e]; exact h1) (by rw [e]; exact hl)
  rw [e] at hpops
  have f1 : ∀ a, Lv n a → Flow c v h a i (-1) → le t n a (L i (-1)) = true := fun a hla hf => by
    rcases full a i (-1) hla hf with k | k
    · omega
    · exact k
  have key : ∀ u, Lv n u → (le t n (L i (-1)) u = true ↔ ∀ a, Lv n a → Flow c v h a i (-1) → le t n a u = true) := fun u hu =>
    ⟨fun k a hla hf => H.trans _ _ _ hla (K.rng _ _) hu (f1 a hla hf) k, K.sound i (-1) u hu⟩
  have key2 : ∀ u, Lv n u → 1 ≤ h i.toNat → (le t n (zeroLev t n h L i) u = true ↔ ∀ a, Lv n a → (Flow c v h a i (-1) ∨ Flow c v h a i (h i.toNat - 1)) → le t n a u = true) := fun u hu hge => by
    have jz := H.jin _ _ (K.rng i (-1)) (K.rng i (h i.toNat - 1))
    constructor
    · intro k a hla hf
      rcases hf with hf | hf
      · exact H.trans _ _ _ hla jz hu (H.trans _ _ _ hla (K.rng _ _) jz (f1 a hla hf) (H.jl _ _ (K.rng _ _) (K.rng _ _))) k
      · rcases full a i _ hla hf with k2 | k2
        · omega
        · exact H.trans _ _ _ hla jz hu (H.trans _ _ _ hla (K.rng _ _) jz k2 (H.jr _ _ (K.rng _ _) (K.rng _ _))) k
    · intro k
      exact H.jm _ _ _ (K.rng _ _) (K.rng _ _) hu (K.sound i _ u hu (fun a hla hf => k a hla (.inl hf))) (K.sound i _ u hu (fun a hla hf => k a hla (.inr hf)))
  have two : ∀ u, Lv n u → sinkTo c v i = u → sinkVal c i = true → 1 ≤ h i.toNat → ((!(le t n (zeroLev t n h L i) u)) = true ↔ Breaks c v t n h i) := fun u hu hto hval hge => by
    constructor
    · intro k
      by_cases hb : ∃ a, Lv n a ∧ le t n a u = false ∧ (Flow c v h a i (-1) ∨ Flow c v h a i (h i.toNat - 1))
      · obtain ⟨a, hla, hle, hf⟩ := hb
        refine ⟨⟨h0, h1⟩, hl, by rw [hto]; exact hu.1, a, hla, by rw [hto]; exact hle, ?_⟩
        rcases hf with hf | hf
        · exact .inl hf
        · exact .inr ⟨hval, hf⟩
      · exfalso
        have := (key2 u hu hge).2 (fun a hla hf => by
          cases hle : le t n a u
          · exact absurd ⟨a, hla, hle, hf⟩ hb
          · rfl)
        rw [this] at k
        exact absurd k (by simp)
    · rintro ⟨_, _, _, a, hla, hle, hf⟩
      rw [hto] at hle
      cases hz : le t n (zeroLev t n h L i) u
      · rfl
      · have := (key2 u hu hge).1 hz a hla (by rcases hf with hf | ⟨_, hf⟩; exact .inl hf; exact .inr hf)
        rw [this] at hle
        exact absurd hle (by simp)
  unfold leakL
  by_cases o2 : bv c (2 * i) = 2
  · rw [if_pos o2]
    refine two _ (hs i h0 h1 o2) (by unfold sinkTo; rw [if_pos o2]) (by unfold sinkVal; exact decide_eq_true (.inl o2)) ?_
    have : takesAt c i = 1 := by unfold takesAt takesF; rw [if_pos (by omega)]
    omega
  · rw [if_neg o2]
    by_cases o11 : bv c (2 * i) = 11
    · rw [if_pos o11]
      refine two _ (ha i h0 h1 (.inr o11)) (by unfold sinkTo; rw [if_neg o2, if_pos (.inr o11)]) (by unfold sinkVal; exact decide_eq_true (.inr o11)) ?_
      have : takesAt c i = 1 := by unfold takesAt takesF; rw [if_pos (by omega)]
      omega
    · rw [if_neg o11]
      by_cases o10 : bv c (2 * i) = 10
      · rw [if_pos o10]
        have hto : sinkTo c v i = bv c (2 * i + 1) := by unfold sinkTo; rw [if_neg o2, if_pos (.inl o10)]
        have hval : sinkVal c i = false := by unfold sinkVal; exact decide_eq_false (by omega)
        have hu := ha i h0 h1 (.inl o10)
        constructor
        · intro k
          by_cases hb : ∃ a, Lv n a ∧ le t n a (bv c (2 * i + 1)) = false ∧ Flow c v h a i (-1)
          · obtain ⟨a, hla, hle, hf⟩ := hb
            exact ⟨⟨h0, h1⟩, hl, by rw [hto]; exact hu.1, a, hla, by rw [hto]; exact hle, .inl hf⟩
          · exfalso
            have := (key _ hu).2 (fun a hla hf => by
              cases hle : le t n a (bv c (2 * i + 1))
              · exact absurd ⟨a, hla, hle, hf⟩ hb
              · rfl)
            rw [this] at k
            exact absurd k (by simp)
        · rintro ⟨_, _, _, a, hla, hle, hf⟩
          rw [hto] at hle
          rw [hval] at hf
          cases hz : le t n (L i (-1)) (bv c (2 * i + 1))
          · rfl
          · have := (key _ hu).1 hz a hla (by rcases hf with hf | ⟨k, _⟩; exact hf; exact absurd k (by simp))
            rw [this] at hle
            exact absurd hle (by simp)
      · rw [if_neg o10]
        constructor
        · intro k; exact absurd k (by simp)
        · rintro ⟨_, _, hs0, _⟩
          have : sinkTo c v i = -1 := by unfold sinkTo; rw [if_neg o2, if_neg (by omega)]
          omega
end Go.Proofs.Ytcnbifdlkalimaa
