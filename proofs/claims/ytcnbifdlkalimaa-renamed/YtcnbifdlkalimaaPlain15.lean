/-
  The plain mathematics of the answer of Check, decided, second part: heights, regions, labels, rules; no condition but those that stand in each lemma.
-/
import Derived.Test.YtcnbifdlkalimaaPlain14
namespace Go.Proofs.Ytcnbifdlkalimaa
open Go.RowKit
set_option linter.unusedVariables false

/-- heights as a list -/
def hOf (hs : List Int) (i : Nat) : Int := hs.getD i 0

def htB (c : ByteArray) (hs : List Int) : Bool :=
  decide (hOf hs 0 = 0) && ((!(mk (liveL c) (pl c)) || decide (hOf hs (pl c) = 0)) && (all (pl c + 1) fun i => !(mk (liveL c) i) || (decide (0 ≤ hOf hs i) && (decide (hOf hs i ≤ 8) &&
    (decide (i = pl c) || (decide (takesAt c i ≤ hOf hs i) && (nxt c i).all fun j => decide (hOf hs j.toNat = hOf hs i - takesAt c i + givesAt c i)))))))

theorem ht_yes {c : ByteArray} {hs : List Int} (hr : Ranged c) (ok : shutL c (isI 0) (-1) = true) (h : htB c hs = true) : HeightsOk c (hOf hs) := by
  unfold htB at h
  rw [Bool.and_eq_true, Bool.and_eq_true, decide_eq_true_iff, all_iff] at h
  obtain ⟨h0, h1, h2⟩ := h
  have hpl := pl_eq c
  have at_ : ∀ i : Nat, (i : Int) ≤ half c → Live c i → 0 ≤ hOf hs i ∧ hOf hs i ≤ 8 ∧ (i = pl c ∨ (takesAt c i ≤ hOf hs i ∧ ∀ j, j ∈ nxt c i → hOf hs j.toNat = hOf hs i - takesAt c i + givesAt c i)) := fun i hi hl => by
    have k := h2 i (by omega)
    rw [(live_iff hr ok i hi).2 hl] at k
    simp only [Bool.not_true, Bool.false_or, Bool.and_eq_true, Bool.or_eq_true, decide_eq_true_iff, List.all_eq_true] at k
    exact k
  refine ⟨h0, fun i hi hl => ⟨(at_ i hi hl).1, (at_ i hi hl).2.1⟩, fun hl => ?_, fun i hi hl => ?_, fun i hi hl j hj => ?_⟩
  · rw [Bool.or_eq_true, Bool.not_eq_true', decide_eq_true_iff] at h1
    rcases h1 with k | k
    · rw [(live_iff hr ok (pl c) (by omega)).2 (by rw [hpl]; exact hl)] at k
      exact absurd k (by simp)
    · exact k
  · rcases (at_ i (by omega) hl).2.2 with k | k
    · omega
    · exact k.1
  · rcases (at_ i (by omega) hl).2.2 with k | k
    · omega
    · exact k.2 j hj

/-- j is the junction of the choice at i -/
def junB (c : ByteArray) (i j : Nat) : Bool :=
  decide (j < pl c + 1) && (decide (j ≠ i) && (shutL c (isI i) j && (!(mk (reachL c (isI i) j) (pl c)) &&
    (all (pl c + 1) fun b => decide (b = i) || (decide (b = j) || (mk (reachL c (isI i) b) (pl c) || !(mk (reachL c (isI i) j) b)))))))

theorem jun_yes {c : ByteArray} {i j : Nat} (hr : Ranged c) (hi : (i : Int) ≤ half c) (h : junB c i j = true) : IsJ c i j := by
  unfold junB at h
  simp only [Bool.and_eq_true, decide_eq_true_iff, Bool.not_eq_true', all_iff, Bool.or_eq_true] at h
  obtain ⟨h1, h2, h3, h4, h5⟩ := h
  have hpl := pl_eq c
  refine ⟨by omega, by omega, by omega, fun hR => ?_, fun b b0 b1 bi bj hob hR => ?_⟩
  · have := (reach_iff hr h3 (pl c) (by omega)).2 (by rw [hpl]; exact (marked_one hi _ _).2 hR)
    rw [this] at h4
    exact absurd h4 (by simp)
  · have e : ((b.toNat : Nat) : Int) = b := Int.toNat_of_nonneg b0
    rcases h5 b.toNat (by omega) with k | k | k | k
    · omega
    · omega
    · have := reach_some k
      rw [hpl, e] at this
      exact hob ((marked_one hi _ _).1 this)
    · have := (reach_iff hr h3 b.toNat (by rw [e]; exact b1)).2 (by rw [e]; exact (marked_one hi _ _).2 hR)
      rw [this] at k
      exact absurd k (by simp)

/-- the region of the choice at i, by its junction -/
def regL (c : ByteArray) (js : List Nat) (i : Nat) : List Bool := reachL c (isN c i) ((js.getD i 0 : Nat) : Int)

def jsB (c : ByteArray) (js : List Nat) : Bool := all (pl c) fun i => !(mk (liveL c) i) || (!(decide (bv c (2 * i) = 9)) || (junB c i (js.getD i 0) && shutL c (isN c i) ((js.getD i 0 : Nat) : Int)))

theorem reg_yes {c : ByteArray} {js : List Nat} (hr : Ranged c) (ok : shutL c (isI 0) (-1) = true) (free : freeB c = true) (h : jsB c js = true) {i : Nat} (hi : (i : Int) < half c) (hl : Live c i) (h9 : bv c (2 * i) = 9) (p : Nat) (hp : (p : Int) ≤ half c) : mk (regL c js i) p = true ↔ Reg c i p := by
  have hpl := pl_eq c
  have k := all_iff.1 h i (by omega)
  rw [(live_iff hr ok i (by omega)).2 hl, decide_eq_true h9] at k
  simp only [Bool.not_true, Bool.false_or, Bool.and_eq_true] at k
  have hJ := jun_yes hr (by omega) k.1
  have hend : Reach c (One i) (-1) (half c) := by
    by_cases hR : Reach c (One i) (-1) (half c)
    · exact hR
    · exact absurd ⟨⟨by omega, by omega⟩, hl, hR⟩ (free_yes hr free i)
  unfold regL
  rw [reach_iff hr k.2 p hp, next_marked hr hi]
  constructor
  · intro hR; exact ⟨_, hJ, hR⟩
  · rintro ⟨j, hj, hR⟩
    rw [hJ.unique hend hj]; exact hR

/-- label d of place p in a list of marks -/
def lab (l : List Bool) (p : Nat) (d : Int) : Bool := decide (-1 ≤ d) && (decide (d ≤ 8) && mk l (10 * p + (d + 1).toNat))

def srcB (c v : ByteArray) (hs : List Int) (a : Int) (l : List Bool) (i : Nat) : Bool :=
  lab l i (-1) || (decide (bv c (2 * i) = 1 ∧ bv v (bv c (2 * i + 1)) = a) || (decide (bv c (2 * i) = 10 ∧ bv c (2 * i + 1) = a) || (decide (3 ≤ bv c (2 * i) ∧ bv c (2 * i) ≤ 7) && (lab l i (hOf hs i - 1) || lab l i (hOf hs i - 2)))))

def newB (c v : ByteArray) (hs : List Int) (js : List Nat) (a : Int) (l : List Bool) (p : Nat) (d : Int) : Bool :=
  (List.range (pl c)).any fun i => mk (liveL c) i &&
    (if d = -1 then decide (bv c (2 * i) = 9) && ((lab l i (-1) || lab l i (hOf hs i - 1)) && mk (regL c js i) p)
     else decide ((p : Int) ∈ nxt c i) && ((decide (d < hOf hs i - takesAt c i) && lab l i d) || (decide (givesAt c i = 1) && (decide (d = hOf hs i - takesAt c i) && srcB c v hs a l i))))

def fStep (c v : ByteArray) (hs : List Int) (js : List Nat) (a : Int) (l : List Bool) : List Bool :=
  (List.range (10 * (pl c + 1))).map fun k => mk l k || newB c v hs js a l (k / 10) (((k % 10 : Nat) : Int) - 1)
def fIter (c v : ByteArray) (hs : List Int) (js : List Nat) (a : Int) : Nat → List Bool → List Bool
  | 0, l => l
  | k + 1, l => fIter c v hs js a k (fStep c v hs js a l)

theorem lab_map {f : Nat → Bool} {N p : Nat} {d : Int} (hp : p < N) (h0 : -1 ≤ d) (h1 : d ≤ 8) : lab ((List.range (10 * N)).map f) p d = f (10 * p + (d + 1).toNat) := by
  unfold lab
  rw [mk_map, decide_eq_true h0, decide_eq_true h1, decide_eq_true (show 10 * p + (d + 1).toNat < 10 * N by omega)]
  simp

theorem lab_in {l : List Bool} {p : Nat} {d : Int} (h : lab l p d = true) : -1 ≤ d ∧ d ≤ 8 ∧ mk l (10 * p + (d + 1).toNat) = true := by
  unfold lab at h
  rw [Bool.and_eq_true, Bool.and_eq_true, decide_eq_true_iff, decide_eq_true_iff] at h
  exact h

theorem src_mono {c v : ByteArray} {hs : List Int} {a : Int} {l : List Bool} {i : Nat} {P : Int → Int → Prop} (hP : ∀ d, lab l i d = true → P i d) (h : srcB c v hs a l i = true) : SrcOf c v (hOf hs) a P i := by
  unfold srcB at h
  simp only [Bool.or_eq_true, Bool.and_eq_true, decide_eq_true_iff] at h
  rcases h with h | h | h | ⟨h, h2⟩
  · exact .inl (hP _ h)
  · exact .inr (.inl h)
  · exact .inr (.inr (.inl h))
  · refine .inr (.inr (.inr ⟨h, ?_⟩))
    rw [Int.toNat_natCast]
    exact h2.imp (hP _) (hP _)

/-- what is known of the code while labels are reckoned -/
structure DecF (c : ByteArray) (hs : List Int) (js : List Nat) : Prop where
  rng : Ranged c
  ok : shutL c (isI 0) (-1) = true
  free : freeB c = true
  ht : HeightsOk c (hOf hs)
  js : jsB c js = true

theorem new_sound {c v : ByteArray} {hs : List Int} {js : List Nat} {a : Int} {l : List Bool} (F : DecF c hs js) (h : ∀ p d, lab l p d = true → Flow c v (hOf hs) a p d) {p : Nat} {d : Int} (hp : p < pl c + 1) (h0 : -1 ≤ d) (hn : newB c v hs js a l p d = true) : Flow c v (hOf hs) a p d := by
  unfold newB at hn
  rw [List.any_eq_true] at hn
  obtain ⟨i, hi, hn⟩ := hn
  have hpl := pl_eq c
  have hi2 : i < pl c := List.mem_range.1 hi
  have hiK : (i : Int) < half c := by omega
  rw [Bool.and_eq_true] at hn
  have hl := (live_iff F.rng F.ok i (by omega)).1 hn.1
  have hn2 := hn.2
  split at hn2
  · rename_i hd
    subst hd
    simp only [Bool.and_eq_true, Bool.or_eq_true, decide_eq_true_iff] at hn2
    refine (flow_cl c v (hOf hs) a).hide i p hl (by omega) hiK hn2.1 ?_ ((reg_yes F.rng F.ok F.free F.js hiK hl hn2.1 p (by omega)).1 hn2.2.2) (by omega) (by omega)
    rw [Int.toNat_natCast]
    exact hn2.2.1.imp (h _ _) (h _ _)
  · rename_i hd
    simp only [Bool.and_eq_true, Bool.or_eq_true, decide_eq_true_iff] at hn2
    have he : Edge c i p := ⟨by omega, hiK, hn2.1⟩
    rcases hn2.2 with k | k
    · exact (flow_cl c v (hOf hs) a).stay i p d hl he (by omega) (by rw [Int.toNat_natCast]; exact k.1) (h _ _ k.2)
    · have := (flow_cl c v (hOf hs) a).push i p hl he k.1 (src_mono (fun d hd => h i d hd) k.2.2)
      rw [Int.toNat_natCast] at this
      rw [k.2.1]
      exact this

theorem fIter_sound {c v : ByteArray} {hs : List Int} {js : List Nat} {a : Int} (F : DecF c hs js) (k : Nat) : ∀ l : List Bool, (∀ p : Nat, ∀ d, lab l p d = true → p < pl c + 1 ∧ Flow c v (hOf hs) a p d) → ∀ p : Nat, ∀ d, lab (fIter c v hs js a k l) p d = true → p < pl c + 1 ∧ Flow c v (hOf hs) a p d := by
  induction k with
  | zero => exact fun l h => h
  | succ k ih =>
    intro l h
    refine ih _ (fun p d hd => ?_)
    obtain ⟨d0, d1, d2⟩ := lab_in hd
    unfold fStep at d2
    rw [mk_map, Bool.and_eq_true, decide_eq_true_iff, Bool.or_eq_true, show (10 * p + (d + 1).toNat) / 10 = p from by omega, show (((10 * p + (d + 1).toNat) % 10 : Nat) : Int) - 1 = d from by omega] at d2
    have hp : p < pl c + 1 := by omega
    refine ⟨hp, ?_⟩
    rcases d2.2 with k | k
    · exact (h p d (by unfold lab; rw [decide_eq_true d0, decide_eq_true d1, k]; rfl)).2
    · exact new_sound F (fun p d hd => (h p d hd).2) hp d0 k

def flowL (c v : ByteArray) (hs : List Int) (js : List Nat) (a : Int) : List Bool := fIter c v hs js a 12 ((List.range (10 * (pl c + 1))).map fun _ => false)
def flowShut (c v : ByteArray) (hs : List Int) (js : List Nat) (a : Int) : Bool := fStep c v hs js a (flowL c v hs js a) == flowL c v hs js a

theorem flow_some {c v : ByteArray} {hs : List Int} {js : List Nat} {a : Int} (F : DecF c hs js) {p : Nat} {d : Int} (h : lab (flowL c v hs js a) p d = true) : Flow c v (hOf hs) a p d := by
  refine (fIter_sound F _ _ (fun p d hd => ?_) p d h).2
  have := (lab_in hd).2.2
  rw [mk_map] at this
  simp at this

theorem flow_all {c v : ByteArray} {hs : List Int} {js : List Nat} {a : Int} (F : DecF c hs js) (ok : flowShut c v hs js a = true) {p : Nat} {d : Int} (h : Flow c v (hOf hs) a p d) : lab (flowL c v hs js a) p d = true := by
  have e : fStep c v hs js a (flowL c v hs js a) = flowL c v hs js a := by simpa [flowShut] using ok
  have hpl := pl_eq c
  obtain ⟨l, hl⟩ : ∃ l, flowL c v hs js a = l := ⟨_, rfl⟩
  rw [hl] at e ⊢
  have put : ∀ p : Nat, ∀ d : Int, p < pl c + 1 → -1 ≤ d → d ≤ 8 → newB c v hs js a l p d = true → lab l p d = true := fun p d hp d0 d1 hn => by
    rw [← e]
    unfold fStep
    rw [lab_map hp d0 d1, Bool.or_eq_true, show (10 * p + (d + 1).toNat) / 10 = p from by omega, show (((10 * p + (d + 1).toNat) % 10 : Nat) : Int) - 1 = d from by omega]
    exact .inr hn
  have := h (fun p d => 0 ≤ p ∧ lab l p.toNat d = true) ⟨fun i j d hlv he h0 h1 hp => ?_, fun i j hlv he hg hsr => ?_, fun i p hlv h0 h1 h9 hp hR hp0 hp1 => ?_⟩
  · have h2 := this.2
    rwa [Int.toNat_natCast] at h2
  · have hj := F.rng i j he
    have he0 := he.1
    have he1 := he.2.1
    have ei : ((i.toNat : Nat) : Int) = i := Int.toNat_of_nonneg he0
    have ej : ((j.toNat : Nat) : Int) = j := Int.toNat_of_nonneg hj.1
    have hlv2 := (live_iff F.rng F.ok i.toNat (by omega)).2 (by rw [ei]; exact hlv)
    refine ⟨hj.1, put j.toNat d (by omega) (by omega) (lab_in hp.2).2.1 ?_⟩
    unfold newB
    rw [List.any_eq_true]
    refine ⟨i.toNat, List.mem_range.2 (by omega), ?_⟩
    rw [Bool.and_eq_true, if_neg (by omega), Bool.and_eq_true, Bool.or_eq_true, ei, ej]
    refine ⟨hlv2, decide_eq_true he.2.2, .inl ?_⟩
    rw [Bool.and_eq_true]
    exact ⟨decide_eq_true h1, hp.2⟩
  · have hj := F.rng i j he
    have he0 := he.1
    have he1 := he.2.1
    have ei : ((i.toNat : Nat) : Int) = i := Int.toNat_of_nonneg he0
    have ej : ((j.toNat : Nat) : Int) = j := Int.toNat_of_nonneg hj.1
    have hlv' : Live c ((i.toNat : Nat) : Int) := by rw [ei]; exact hlv
    have hlv2 := (live_iff F.rng F.ok i.toNat (by omega)).2 hlv'
    have hpops := F.ht.pops i.toNat (by omega) hlv'
    have hrg := F.ht.rng i.toNat (by omega) hlv'
    have htk := (delta_bd c i).1
    rw [ei] at hpops
    refine ⟨hj.1, put j.toNat _ (by omega) (by omega) (by omega) ?_⟩
    unfold newB
    rw [List.any_eq_true]
    refine ⟨i.toNat, List.mem_range.2 (by omega), ?_⟩
    rw [Bool.and_eq_true, if_neg (by omega), Bool.and_eq_true, Bool.or_eq_true, ei, ej]
    refine ⟨hlv2, decide_eq_true he.2.2, .inr ?_⟩
    rw [Bool.and_eq_true, Bool.and_eq_true]
    refine ⟨decide_eq_true hg, decide_eq_true rfl, ?_⟩
    unfold srcB
    rw [ei]
    simp only [Bool.or_eq_true, Bool.and_eq_true, decide_eq_true_iff]
    rcases hsr with k | k | k | ⟨k, k2⟩
    · exact .inl k.2
    · exact .inr (.inl k)
    · exact .inr (.inr (.inl k))
    · exact .inr (.inr (.inr ⟨k, k2.imp (fun x => x.2) (fun x => x.2)⟩))
  · have ei : ((i.toNat : Nat) : Int) = i := Int.toNat_of_nonneg h0
    have ep : ((p.toNat : Nat) : Int) = p := Int.toNat_of_nonneg hp0
    have hlv' : Live c ((i.toNat : Nat) : Int) := by rw [ei]; exact hlv
    have hlv2 := (live_iff F.rng F.ok i.toNat (by omega)).2 hlv'
    refine ⟨hp0, put p.toNat (-1) (by omega) (by omega) (by omega) ?_⟩
    unfold newB
    rw [List.any_eq_true]
    refine ⟨i.toNat, List.mem_range.2 (by omega), ?_⟩
    rw [Bool.and_eq_true, if_pos rfl, Bool.and_eq_true, Bool.and_eq_true, Bool.or_eq_true, ei]
    refine ⟨hlv2, decide_eq_true h9, hp.imp (fun x => x.2) (fun x => x.2), ?_⟩
    exact (reg_yes F.rng F.ok F.free F.js (by omega) hlv' (by rw [ei]; exact h9) p.toNat (by omega)).2 (by rw [ei, ep]; exact hR)

/-- does instruction i break a rule? -/
def brkB (c v t : ByteArray) (n : Int) (hs : List Int) (js : List Nat) (i : Nat) : Bool :=
  mk (liveL c) i && (decide (0 ≤ sinkTo c v i) && (List.range n.toNat).any fun a => !(le t n a (sinkTo c v i)) && (lab (flowL c v hs js a) i (-1) || (sinkVal c i && lab (flowL c v hs js a) i (hOf hs i - 1))))

theorem brk_iff {c v t : ByteArray} {n : Int} {hs : List Int} {js : List Nat} (F : DecF c hs js) (ok : all n.toNat (fun a => flowShut c v hs js a) = true) {i : Nat} (hi : i < pl c) : brkB c v t n hs js i = true ↔ Breaks c v t n (hOf hs) i := by
  have hpl := pl_eq c
  unfold brkB
  rw [Bool.and_eq_true, Bool.and_eq_true, decide_eq_true_iff, List.any_eq_true, live_iff F.rng F.ok i (by omega)]
  constructor
  · rintro ⟨h1, h2, a, ha, h3⟩
    have ha2 : a < n.toNat := List.mem_range.1 ha
    rw [Bool.and_eq_true, Bool.not_eq_true', Bool.or_eq_true, Bool.and_eq_true] at h3
    refine ⟨⟨by omega, by omega⟩, h1, h2, a, ⟨by omega, by omega⟩, h3.1, ?_⟩
    rcases h3.2 with k | k
    · exact .inl (flow_some F k)
    · exact .inr ⟨k.1, by rw [Int.toNat_natCast]; exact flow_some F k.2⟩
  · rintro ⟨h0, h1, h2, a, ha, h3, h4⟩
    have ha0 := ha.1
    have ha1 := ha.2
    have ea : ((a.toNat : Nat) : Int) = a := Int.toNat_of_nonneg ha0
    have oka := all_iff.1 ok a.toNat (by omega)
    refine ⟨h1, h2, a.toNat, List.mem_range.2 (by omega), ?_⟩
    rw [Bool.and_eq_true, Bool.not_eq_true', Bool.or_eq_true, Bool.and_eq_true, ea]
    rw [ea] at oka
    refine ⟨h3, ?_⟩
    rcases h4 with k | k
    · exact .inl (flow_all F oka k)
    · exact .inr ⟨k.1, flow_all F oka (by have := k.2; rwa [Int.toNat_natCast] at this)⟩

/-- the whole answer where there are heights: e is 9 at place p, or 0 -/
def goodB (c v t : ByteArray) (n : Int) (hs : List Int) (js : List Nat) : Bool :=
  shutL c (isI 0) (-1) && (freeB c && (htB c hs && (jsB c js && all n.toNat (fun a => flowShut c v hs js a))))

theorem good_f {c v t : ByteArray} {n : Int} {hs : List Int} {js : List Nat} (hr : Ranged c) (h : goodB c v t n hs js = true) : DecF c hs js ∧ all n.toNat (fun a => flowShut c v hs js a) = true := by
  unfold goodB at h
  simp only [Bool.and_eq_true] at h
  obtain ⟨h1, h2, h3, h4, h5⟩ := h
  exact ⟨⟨hr, h1, h2, ht_yes hr h1 h3, h4⟩, h5⟩

theorem flow_answer {c v t : ByteArray} {n : Int} {hs : List Int} {js : List Nat} {p : Nat} (hr : Ranged c) (h : goodB c v t n hs js = true) (hp : (decide (p < pl c) && (brkB c v t n hs js p && all p fun q => !(brkB c v t n hs js q))) = true) : CodeIs c v t n p 9 := by
  obtain ⟨F, ok⟩ := good_f hr h
  rw [Bool.and_eq_true, Bool.and_eq_true, decide_eq_true_iff, all_iff] at hp
  have hpl := pl_eq c
  refine .inr ⟨free_yes hr F.free, .inr ⟨hOf hs, F.ht, .inl ⟨rfl, (brk_iff F ok hp.1).1 hp.2.1, fun q hq hb => ?_⟩⟩⟩
  have e : ((q.toNat : Nat) : Int) = q := Int.toNat_of_nonneg hb.1.1
  have h1 := hp.2.2 q.toNat (by omega)
  rw [(brk_iff F ok (by omega)).2 (by rw [e]; exact hb)] at h1
  exact absurd h1 (by simp)

theorem ok_answer {c v t : ByteArray} {n : Int} {hs : List Int} {js : List Nat} (hr : Ranged c) (h : goodB c v t n hs js = true) (hp : (all (pl c) fun q => !(brkB c v t n hs js q)) = true) : CodeIs c v t n 0 0 := by
  obtain ⟨F, ok⟩ := good_f hr h
  rw [all_iff] at hp
  have hpl := pl_eq c
  refine .inr ⟨free_yes hr F.free, .inr ⟨hOf hs, F.ht, .inr ⟨rfl, rfl, fun q hb => ?_⟩⟩⟩
  have e : ((q.toNat : Nat) : Int) = q := Int.toNat_of_nonneg hb.1.1
  have hlt := hb.1.2
  have h1 := hp q.toNat (by omega)
  rw [(brk_iff F ok (by omega)).2 (by rw [e]; exact hb)] at h1
  exact absurd h1 (by simp)
end Go.Proofs.Ytcnbifdlkalimaa
