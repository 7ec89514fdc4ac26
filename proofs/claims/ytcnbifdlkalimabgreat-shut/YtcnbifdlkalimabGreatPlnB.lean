import Derived.Test.YtcnbifdlkalimabGreatPlain2
import Derived.Test.YtcnbifdlkalimabGreatPlain7

/-
  The plain mathematics of tables, third part: what joins and meets of a lattice are; no condition but those that stand in each lemma.
-/
namespace Go.Proofs.YtcnbifdlkalimabGreat
open Go.RowKit

theorem order_facts {s : ByteArray} {n : Int} (h : rOrder s n = true) :
    (∀ a : Int, 0 ≤ a → a < n → le s n a a = true) ∧ (∀ a b : Int, 0 ≤ a → a < n → 0 ≤ b → b < n → le s n a b = true → le s n b a = true → a = b) := by
  have hp : pOrder s n = true := by rw [order_same]; exact h
  constructor
  · intro a ha ha'
    have := refl_of hp a.toNat (by omega)
    rw [Int.toNat_of_nonneg ha] at this
    exact this
  · intro a b ha ha' hb hb' h1 h2
    unfold rOrder at h
    rw [allTo_true] at h
    have h3 := h a.toNat (by omega)
    rw [allTo_true] at h3
    have h4 := h3 b.toNat (by omega)
    rw [Int.toNat_of_nonneg ha, Int.toNat_of_nonneg hb] at h4
    unfold rOrdAt at h4
    rw [h1, h2, Bool.and_eq_true] at h4
    have h5 := h4.1
    by_cases e : a = b
    · exact e
    · have e1 : (a == b) = false := by simpa using e
      have e2 : (a != b) = true := by simpa using e
      rw [e1, e2] at h5
      exact absurd h5 (by decide)

theorem isJoin_iff {s : ByteArray} {n a b j : Int} : rIsJoin s n a b j = true ↔ (le s n a j = true ∧ le s n b j = true) ∧ ∀ c : Int, 0 ≤ c → c < n → le s n a c = true → le s n b c = true → le s n j c = true := by
  unfold rIsJoin pAbove
  simp only [Bool.and_eq_true, allTo_true, Bool.or_eq_true, Bool.not_eq_true']
  constructor
  · rintro ⟨h1, h2⟩
    refine ⟨h1, fun c hc hc' ha hb => ?_⟩
    have := h2 c.toNat (by omega)
    rw [Int.toNat_of_nonneg hc, ha, hb] at this
    simpa using this
  · rintro ⟨h1, h2⟩
    refine ⟨h1, fun c hc => ?_⟩
    cases ha : le s n a c with
    | false => simp
    | true =>
      cases hb : le s n b c with
      | false => simp
      | true => simp [h2 c (by omega) (by omega) ha hb]

theorem isMeet_iff {s : ByteArray} {n a b j : Int} : rIsMeet s n a b j = true ↔ (le s n j a = true ∧ le s n j b = true) ∧ ∀ c : Int, 0 ≤ c → c < n → le s n c a = true → le s n c b = true → le s n c j = true := by
  unfold rIsMeet pBelow
  simp only [Bool.and_eq_true, allTo_true, Bool.or_eq_true, Bool.not_eq_true']
  constructor
  · rintro ⟨h1, h2⟩
    refine ⟨h1, fun c hc hc' ha hb => ?_⟩
    have := h2 c.toNat (by omega)
    rw [Int.toNat_of_nonneg hc, ha, hb] at this
    simpa using this
  · rintro ⟨h1, h2⟩
    refine ⟨h1, fun c hc => ?_⟩
    cases ha : le s n c a with
    | false => simp
    | true =>
      cases hb : le s n c b with
      | false => simp
      | true => simp [h2 c (by omega) (by omega) ha hb]

theorem askJ_is {s : ByteArray} (h : levE s = 0) {x y : Int} (hx : 0 ≤ x ∧ x < tabN s) (hy : 0 ≤ y ∧ y < tabN s) : (0 ≤ askJ s x y ∧ askJ s x y < tabN s) ∧ rIsJoin s (tabN s) x y (askJ s x y) = true ∧ askE s x y = 0 := by
  have h1 := ask_in h ⟨hx.1, hx.2, hy.1, hy.2⟩
  have h2 := firstTo_lt h1.2.1
  exact ⟨⟨h2.1, by omega⟩, h2.2.2, h1.1⟩

theorem askM_is {s : ByteArray} (h : levE s = 0) {x y : Int} (hx : 0 ≤ x ∧ x < tabN s) (hy : 0 ≤ y ∧ y < tabN s) : (0 ≤ askM s x y ∧ askM s x y < tabN s) ∧ rIsMeet s (tabN s) x y (askM s x y) = true ∧ askE s x y = 0 := by
  have h1 := ask_in h ⟨hx.1, hx.2, hy.1, hy.2⟩
  have h2 := firstTo_lt h1.2.2
  exact ⟨⟨h2.1, by omega⟩, h2.2.2, h1.1⟩

/-- all that the statement Lattice asks of a table that is let through -/
theorem lat_facts {s : ByteArray} (h : levE s = 0) (x y z : Int) (hx : 0 ≤ x ∧ x < tabN s) (hy : 0 ≤ y ∧ y < tabN s) (hz : 0 ≤ z ∧ z < tabN s) :
    ∃ j m : Int, askJ s x y = j ∧ askM s x y = m ∧ askJ s y x = j ∧ (0 ≤ j ∧ j < tabN s) ∧ (0 ≤ m ∧ m < tabN s) ∧
      (le s (tabN s) x j = true ∧ le s (tabN s) y j = true ∧ le s (tabN s) m x = true ∧ le s (tabN s) m y = true) ∧
      (le s (tabN s) x z = true → le s (tabN s) y z = true → le s (tabN s) j z = true) ∧ (le s (tabN s) z x = true → le s (tabN s) z y = true → le s (tabN s) z m = true) ∧
      askM s x j = x ∧ askJ s x m = x ∧ askE s x y = 0 ∧ askE s y x = 0 ∧ askE s x j = 0 ∧ askE s x m = 0 := by
  obtain ⟨refl, anti⟩ := order_facts (levE_0 h).2.1
  obtain ⟨j1, j2, e1⟩ := askJ_is h hx hy
  obtain ⟨i1, i2, e2⟩ := askJ_is h hy hx
  obtain ⟨m1, m2, -⟩ := askM_is h hx hy
  have jj := isJoin_iff.1 j2
  have ii := isJoin_iff.1 i2
  have mm := isMeet_iff.1 m2
  obtain ⟨s1, s2, e3⟩ := askM_is h hx j1
  obtain ⟨t1, t2, e4⟩ := askJ_is h hx m1
  have ss := isMeet_iff.1 s2
  have tt := isJoin_iff.1 t2
  refine ⟨askJ s x y, askM s x y, rfl, rfl, ?_, j1, m1, ⟨jj.1.1, jj.1.2, mm.1.1, mm.1.2⟩, jj.2 z hz.1 hz.2, mm.2 z hz.1 hz.2, ?_, ?_, e1, e2, e3, e4⟩
  · exact anti _ _ i1.1 i1.2 j1.1 j1.2 (ii.2 _ j1.1 j1.2 jj.1.2 jj.1.1) (jj.2 _ i1.1 i1.2 ii.1.2 ii.1.1)
  · exact anti _ _ s1.1 s1.2 hx.1 hx.2 ss.1.1 (ss.2 x hx.1 hx.2 (refl x hx.1 hx.2) jj.1.1)
  · exact anti _ _ t1.1 t1.2 hx.1 hx.2 (tt.2 x hx.1 hx.2 (refl x hx.1 hx.2) mm.1.1) tt.1.1
end Go.Proofs.YtcnbifdlkalimabGreat

/-
  The plain mathematics of labels: which levels flow to which label, what the lowest labels are, and the answer of Check as the document's words give it; no condition but those that stand in each lemma.
-/
namespace Go.Proofs.YtcnbifdlkalimabGreat
open Go.RowKit

/-- the join of two levels -/
def jn (s : ByteArray) (n x y : Int) : Int := (rJoin s n x y).getD 0

/-- level a is one of n -/
def Lv (n a : Int) : Prop := 0 ≤ a ∧ a < n

/-- what a lattice gives -/
structure LatOk (s : ByteArray) (n : Int) : Prop where
  refl : ∀ a, Lv n a → le s n a a = true
  anti : ∀ a b, Lv n a → Lv n b → le s n a b = true → le s n b a = true → a = b
  trans : ∀ a b d, Lv n a → Lv n b → Lv n d → le s n a b = true → le s n b d = true → le s n a d = true
  jin : ∀ a b, Lv n a → Lv n b → Lv n (jn s n a b)
  jl : ∀ a b, Lv n a → Lv n b → le s n a (jn s n a b) = true
  jr : ∀ a b, Lv n a → Lv n b → le s n b (jn s n a b) = true
  jm : ∀ a b u, Lv n a → Lv n b → Lv n u → le s n a u = true → le s n b u = true → le s n (jn s n a b) u = true
  bot : ∃ b, Lv n b ∧ ∀ a, Lv n a → le s n b a = true

theorem trans_fact {s : ByteArray} {n : Int} (h : rOrder s n = true) : ∀ a b d, Lv n a → Lv n b → Lv n d → le s n a b = true → le s n b d = true → le s n a d = true := by
  intro a b d ha hb hd h1 h2
  have k1 := allTo_true.1 h a.toNat (by have := ha.1; have := ha.2; omega)
  rw [Int.toNat_of_nonneg ha.1] at k1
  have k2 := allTo_true.1 k1 b.toNat (by have := hb.1; have := hb.2; omega)
  rw [Int.toNat_of_nonneg hb.1] at k2
  unfold rOrdAt at k2
  rw [Bool.and_eq_true] at k2
  have k3 := allTo_true.1 k2.2 d.toNat (by have := hd.1; have := hd.2; omega)
  rw [Int.toNat_of_nonneg hd.1, h1, h2] at k3
  simpa using k3

theorem lat_ok {s : ByteArray} (h : levE s = 0) : LatOk s (tabN s) := by
  obtain ⟨h0, ho, hl⟩ := levE_0 h
  obtain ⟨refl, anti⟩ := order_facts ho
  have hJ : ∀ a b, Lv (tabN s) a → Lv (tabN s) b → Lv (tabN s) (jn s (tabN s) a b) ∧ rIsJoin s (tabN s) a b (jn s (tabN s) a b) = true := fun a b ha hb => by
    have h1 := ask_in h ⟨ha.1, ha.2, hb.1, hb.2⟩
    have h2 := askJ_is h ⟨ha.1, ha.2⟩ ⟨hb.1, hb.2⟩
    have e : jn s (tabN s) a b = askJ s a b := by unfold jn; rw [h1.2.1]; rfl
    rw [e]
    exact ⟨h2.1, h2.2.1⟩
  refine ⟨fun a ha => refl a ha.1 ha.2, fun a b ha hb => anti a b ha.1 ha.2 hb.1 hb.2, trans_fact ho, fun a b ha hb => (hJ a b ha hb).1, fun a b ha hb => (isJoin_iff.1 (hJ a b ha hb).2).1.1, fun a b ha hb => (isJoin_iff.1 (hJ a b ha hb).2).1.2, fun a b u ha hb hu => (isJoin_iff.1 (hJ a b ha hb).2).2 u hu.1 hu.2, ?_⟩
  have hn : 1 ≤ tabN s := (tabN_tab h0).1.1
  have : ∀ k : Nat, (k : Int) ≤ tabN s → ∃ b, Lv (tabN s) b ∧ ∀ a : Int, 0 ≤ a → a < k → le s (tabN s) b a = true := by
    intro k
    induction k with
    | zero => exact fun _ => ⟨0, ⟨by omega, by omega⟩, fun a h1 h2 => by omega⟩
    | succ k ih =>
      intro hk
      obtain ⟨b, hb, hall⟩ := ih (by omega)
      have hkk : Lv (tabN s) (k : Int) := ⟨by omega, by omega⟩
      have hm := askM_is h ⟨hb.1, hb.2⟩ ⟨hkk.1, hkk.2⟩
      have mm := isMeet_iff.1 hm.2.1
      refine ⟨askM s b k, hm.1, fun a h1 h2 => ?_⟩
      by_cases e : a = k
      · rw [e]; exact mm.1.2
      · exact trans_fact ho _ b a hm.1 hb ⟨h1, by omega⟩ mm.1.1 (hall a h1 (by omega))
  obtain ⟨b, hb, hall⟩ := this (tabN s).toNat (by omega)
  exact ⟨b, hb, fun a ha => hall a ha.1 (by have := ha.2; omega)⟩

/-- where a label is: place p, and how deep on the stack; -1: the place's own -/
def SrcOf (c v : ByteArray) (h : Nat → Int) (a : Int) (P : Int → Int → Prop) (i : Int) : Prop :=
  P i (-1) ∨ (bv c (2 * i) = 1 ∧ bv v (bv c (2 * i + 1)) = a) ∨ (bv c (2 * i) = 10 ∧ bv c (2 * i + 1) = a) ∨ ((3 ≤ bv c (2 * i) ∧ bv c (2 * i) ≤ 7) ∧ (P i (h i.toNat - 1) ∨ P i (h i.toNat - 2)))

/-- the labels P are closed under what the document asks, for level a -/
structure FCl (c v : ByteArray) (h : Nat → Int) (a : Int) (P : Int → Int → Prop) : Prop where
  stay : ∀ i j d, Live c i → Edge c i j → 0 ≤ d → d < h i.toNat - takesAt c i → P i d → P j d
  push : ∀ i j, Live c i → Edge c i j → givesAt c i = 1 → SrcOf c v h a P i → P j (h i.toNat - takesAt c i)
  hide : ∀ i p, Live c i → 0 ≤ i → i < half c → bv c (2 * i) = 9 → (P i (-1) ∨ P i (h i.toNat - 1)) → Reg c i p → 0 ≤ p → p ≤ half c → P p (-1)

/-- level a flows to the label of depth d at place p -/
def Flow (c v : ByteArray) (h : Nat → Int) (a p d : Int) : Prop := ∀ P : Int → Int → Prop, FCl c v h a P → P p d

theorem SrcOf.mono {c v : ByteArray} {h : Nat → Int} {a i : Int} {P Q : Int → Int → Prop} (hPQ : ∀ d, P i d → Q i d) (k : SrcOf c v h a P i) : SrcOf c v h a Q i := by
  rcases k with k | k | k | ⟨k, k2⟩
  · exact .inl (hPQ _ k)
  · exact .inr (.inl k)
  · exact .inr (.inr (.inl k))
  · exact .inr (.inr (.inr ⟨k, k2.imp (hPQ _) (hPQ _)⟩))

theorem flow_cl (c v : ByteArray) (h : Nat → Int) (a : Int) : FCl c v h a (Flow c v h a) :=
  ⟨fun i j d hl he h0 h1 hf P hP => hP.stay i j d hl he h0 h1 (hf P hP), fun i j hl he hg hs P hP => hP.push i j hl he hg (hs.mono (fun _ hf => hf P hP)),
   fun i p hl h0 h1 h9 hf hr hp0 hp1 P hP => hP.hide i p hl h0 h1 h9 (hf.imp (fun k => k P hP) (fun k => k P hP)) hr hp0 hp1⟩

theorem FCl.congr {c v : ByteArray} {h k : Nat → Int} {a : Int} {P : Int → Int → Prop} (e : ∀ i : Int, Live c i → 0 ≤ i → i < half c → h i.toNat = k i.toNat) (H : FCl c v h a P) : FCl c v k a P := by
  refine ⟨fun i j d hl he h0 h1 hp => H.stay i j d hl he h0 (by rw [e i hl he.1 he.2.1]; exact h1) hp, fun i j hl he hg hs => ?_, fun i p hl h0 h1 h9 hp hr => H.hide i p hl h0 h1 h9 (by rw [e i hl h0 h1]; exact hp) hr⟩
  have := H.push i j hl he hg (by unfold SrcOf at hs ⊢; rw [e i hl he.1 he.2.1]; exact hs)
  rwa [e i hl he.1 he.2.1] at this

theorem Flow.congr {c v : ByteArray} {h k : Nat → Int} {a p d : Int} (e : ∀ i : Int, Live c i → 0 ≤ i → i < half c → h i.toNat = k i.toNat) (H : Flow c v h a p d) : Flow c v k a p d :=
  fun P hP => H P (hP.congr (fun i hl h0 h1 => (e i hl h0 h1).symm))

/-- what is asked at an instruction: the level at or below which what flows there must be, and whether the value that it pops counts -/
def sinkTo (c v : ByteArray) (i : Int) : Int := if bv c (2 * i) = 2 then bv v (bv c (2 * i + 1)) else if bv c (2 * i) = 10 ∨ bv c (2 * i) = 11 then bv c (2 * i + 1) else -1
def sinkVal (c : ByteArray) (i : Int) : Bool := decide (bv c (2 * i) = 2 ∨ bv c (2 * i) = 11)

/-- instruction i breaks a rule -/
def Breaks (c v t : ByteArray) (n : Int) (h : Nat → Int) (i : Int) : Prop :=
  (0 ≤ i ∧ i < half c) ∧ Live c i ∧ 0 ≤ sinkTo c v i ∧ ∃ a, Lv n a ∧ le t n a (sinkTo c v i) = false ∧ (Flow c v h a i (-1) ∨ (sinkVal c i = true ∧ Flow c v h a i (h i.toNat - 1)))

/-- a live place from which no path leads to the end -/
def Trap (c : ByteArray) (i : Int) : Prop := (0 ≤ i ∧ i ≤ half c) ∧ Live c i ∧ ¬ Reach c (One i) (-1) (half c)

/-- the answer p, e on code -/
def CodeIs (c v t : ByteArray) (n p e : Int) : Prop :=
  (e = 7 ∧ Trap c p ∧ ∀ q, q < p → ¬ Trap c q) ∨
  ((∀ q, ¬ Trap c q) ∧ ((e = 8 ∧ p = 0 ∧ ¬ ∃ h, HeightsOk c h) ∨
    (∃ h, HeightsOk c h ∧ ((e = 9 ∧ Breaks c v t n h p ∧ ∀ q, q < p → ¬ Breaks c v t n h q) ∨ (e = 0 ∧ p = 0 ∧ ∀ q, ¬ Breaks c v t n h q)))))

/-- the answer p, e on a file -/
def CheckIs (s : ByteArray) (p e : Int) : Prop :=
  (scanE s ≠ 0 ∧ p = 0 ∧ e = scanE s) ∨ (scanE s = 0 ∧ CodeIs (fCode s) (fVars s) (fTab s) (bv s 1) p e)

theorem heights_same {c : ByteArray} {h k : Nat → Int} (hr : Ranged c) (H : HeightsOk c h) (K : HeightsOk c k) : ∀ i : Int, Live c i → 0 ≤ i → i < half c → h i.toNat = k i.toNat := by
  intro i hl h0 _
  have := hl (fun x => 0 ≤ x ∧ Live c x ∧ h x.toNat = k x.toNat) (fun x hx _ => ?_) (fun x y hx he hw => ?_)
  · exact this.2.2
  · have hx : x = 0 := hx
    subst hx
    exact ⟨by omega, Reach.start rfl (by omega), by rw [show (0 : Int).toNat = 0 from rfl, H.zero, K.zero]⟩
  · have e : ((x.toNat : Nat) : Int) = x := Int.toNat_of_nonneg hx.1
    have hl2 : Live c ((x.toNat : Nat) : Int) := by rw [e]; exact hx.2.1
    have hlt : ((x.toNat : Nat) : Int) < half c := by rw [e]; exact he.2.1
    have hy : y ∈ nxt c ((x.toNat : Nat) : Int) := by rw [e]; exact he.2.2
    refine ⟨(hr x y he).1, hx.2.1.step he hw, ?_⟩
    rw [H.step x.toNat hlt hl2 y hy, K.step x.toNat hlt hl2 y hy, hx.2.2]

theorem Breaks.congr {c v t : ByteArray} {n : Int} {h k : Nat → Int} {i : Int} (e : ∀ i : Int, Live c i → 0 ≤ i → i < half c → h i.toNat = k i.toNat) (H : Breaks c v t n h i) : Breaks c v t n k i := by
  obtain ⟨hi, hl, hs, a, ha, hle, hf⟩ := H
  refine ⟨hi, hl, hs, a, ha, hle, ?_⟩
  rcases hf with hf | ⟨hv, hf⟩
  · exact .inl (hf.congr e)
  · exact .inr ⟨hv, by have := hf.congr e; rwa [e i hl hi.1 hi.2] at this⟩

theorem least_one {Q : Int → Prop} {p q : Int} (hp : Q p) (hp2 : ∀ x, x < p → ¬ Q x) (hq : Q q) (hq2 : ∀ x, x < q → ¬ Q x) : p = q := by
  rcases Int.lt_trichotomy p q with h | h | h
  · exact absurd hp (hq2 p h)
  · exact h
  · exact absurd hq (hp2 q h)

theorem code_one {c v t : ByteArray} {n p e q f : Int} (hr : Ranged c) (h1 : CodeIs c v t n p e) (h2 : CodeIs c v t n q f) : p = q ∧ e = f := by
  rcases h1 with ⟨e1, t1, l1⟩ | ⟨n1, h1⟩
  · rcases h2 with ⟨e2, t2, l2⟩ | ⟨n2, _⟩
    · exact ⟨least_one t1 l1 t2 l2, by omega⟩
    · exact absurd t1 (n2 p)
  · rcases h2 with ⟨_, t2, _⟩ | ⟨n2, h2⟩
    · exact absurd t2 (n1 q)
    · rcases h1 with ⟨e1, p1, no⟩ | ⟨h, H, h1⟩
      · rcases h2 with ⟨e2, p2, _⟩ | ⟨k, K, _⟩
        · exact ⟨by omega, by omega⟩
        · exact absurd ⟨k, K⟩ no
      · rcases h2 with ⟨_, _, no⟩ | ⟨k, K, h2⟩
        · exact absurd ⟨h, H⟩ no
        · have e := heights_same hr H K
          have e' := heights_same hr K H
          rcases h1 with ⟨e1, b1, l1⟩ | ⟨e1, p1, b1⟩ <;> rcases h2 with ⟨e2, b2, l2⟩ | ⟨e2, p2, b2⟩
          · exact ⟨least_one (Q := Breaks c v t n h) b1 l1 (b2.congr e') (fun x hx hb => l2 x hx (hb.congr e)), by omega⟩
          · exact absurd (b1.congr e) (b2 p)
          · exact absurd (b2.congr e') (b1 q)
          · exact ⟨by omega, by omega⟩

theorem check_one {s : ByteArray} {p e q f : Int} (hr : scanE s = 0 → Ranged (fCode s)) (h1 : CheckIs s p e) (h2 : CheckIs s q f) : p = q ∧ e = f := by
  rcases h1 with ⟨h1, p1, e1⟩ | ⟨h1, c1⟩ <;> rcases h2 with ⟨h2, p2, e2⟩ | ⟨h2, c2⟩
  · exact ⟨by omega, by omega⟩
  · exact absurd h2 h1
  · exact absurd h1 h2
  · exact code_one (hr h1) c1 c2

/-- sound code has its places in range -/
theorem ranged_of {c v : ByteArray} {n : Int} (h : codeOk c v n = true) : Ranged c := by
  intro i j he
  have h0 := he.1
  have h1 := he.2.1
  have hi := allTo_true.1 h i.toNat (by omega)
  rw [Int.toNat_of_nonneg h0] at hi
  have hb := bv_bd c (2 * i + 1)
  have hok := of_decide_eq_true hi
  have hm := he.2.2
  unfold nxt at hm
  split at hm
  · simp only [List.mem_singleton] at hm
    omega
  · split at hm
    · simp only [List.mem_cons, or_false, List.not_mem_nil] at hm
      omega
    · simp only [List.mem_singleton] at hm
      omega

theorem ops_of {c v : ByteArray} {n : Int} (h : codeOk c v n = true) {i : Int} (h0 : 0 ≤ i) (h1 : i < half c) : okIns v.size (half c) n (bv c (2 * i)) (bv c (2 * i + 1)) = true := by
  have hi := allTo_true.1 h i.toNat (by omega)
  rw [Int.toNat_of_nonneg h0] at hi
  exact hi
end Go.Proofs.YtcnbifdlkalimabGreat
