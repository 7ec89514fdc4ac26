import Derived.Test.YtcnbifdlkalimaaPlain10
import Derived.Test.YtcnbifdlkalimaaBts

/-
  The plain mathematics of runs: what a program has in hand, one step of it, and what a step keeps of all that lies at or below a level; no condition but those that stand in each lemma.
-/
namespace Go.Proofs.Ytcnbifdlkalimaa
open Go.RowKit

/-- what a program has in hand: the place, how high the stack is, the stack, the variables, how much of each tape is read, the logs -/
structure Hnd where
  pl : Int
  sp : Int
  st : Int → Int
  va : Int → Int
  po : Int → Nat
  lo : Int → List Int

def up {α : Type} (f : Int → α) (k : Int) (x : α) : Int → α := fun i => if i = k then x else f i
theorem up_at {α : Type} (f : Int → α) (k : Int) (x : α) : up f k x k = x := if_pos rfl
theorem up_ne {α : Type} {f : Int → α} {k i : Int} {x : α} (h : i ≠ k) : up f k x i = f i := if_neg h

/-- an operation on two values -/
def reckon (op a b : Int) : Int := if op = 3 then (a + b) % 256 else if op = 4 then (a + 256 - b) % 256 else if op = 5 then a * b % 256 else if op = 6 then (if a < b then 1 else 0) else (if a = b then 1 else 0)

/-- one instruction -/
def stepM (c : ByteArray) (T : Int → ByteArray) (m : Hnd) : Hnd :=
  if bv c (2 * m.pl) = 0 then { m with pl := m.pl + 1, sp := m.sp + 1, st := up m.st m.sp (bv c (2 * m.pl + 1)) }
  else if bv c (2 * m.pl) = 1 then { m with pl := m.pl + 1, sp := m.sp + 1, st := up m.st m.sp (m.va (bv c (2 * m.pl + 1))) }
  else if bv c (2 * m.pl) = 2 then { m with pl := m.pl + 1, sp := m.sp - 1, va := up m.va (bv c (2 * m.pl + 1)) (m.st (m.sp - 1)) }
  else if bv c (2 * m.pl) = 8 then { m with pl := bv c (2 * m.pl + 1) }
  else if bv c (2 * m.pl) = 9 then { m with pl := if m.st (m.sp - 1) = 0 then bv c (2 * m.pl + 1) else m.pl + 1, sp := m.sp - 1 }
  else if bv c (2 * m.pl) = 10 then { m with pl := m.pl + 1, sp := m.sp + 1, st := up m.st m.sp (bv (T (bv c (2 * m.pl + 1))) (m.po (bv c (2 * m.pl + 1)))), po := up m.po (bv c (2 * m.pl + 1)) (m.po (bv c (2 * m.pl + 1)) + 1) }
  else if bv c (2 * m.pl) = 11 then { m with pl := m.pl + 1, sp := m.sp - 1, lo := up m.lo (bv c (2 * m.pl + 1)) (m.lo (bv c (2 * m.pl + 1)) ++ [m.st (m.sp - 1)]) }
  else { m with pl := m.pl + 1, sp := m.sp - 1, st := up m.st (m.sp - 2) (reckon (bv c (2 * m.pl)) (m.st (m.sp - 2)) (m.st (m.sp - 1))) }

theorem step_0 {c : ByteArray} {T : Int → ByteArray} {m : Hnd} (h : bv c (2 * m.pl) = 0) : stepM c T m = { m with pl := m.pl + 1, sp := m.sp + 1, st := up m.st m.sp (bv c (2 * m.pl + 1)) } := by
  unfold stepM; rw [if_pos h]
theorem step_1 {c : ByteArray} {T : Int → ByteArray} {m : Hnd} (h : bv c (2 * m.pl) = 1) : stepM c T m = { m with pl := m.pl + 1, sp := m.sp + 1, st := up m.st m.sp (m.va (bv c (2 * m.pl + 1))) } := by
  unfold stepM; rw [if_neg (by omega), if_pos h]
theorem step_2 {c : ByteArray} {T : Int → ByteArray} {m : Hnd} (h : bv c (2 * m.pl) = 2) : stepM c T m = { m with pl := m.pl + 1, sp := m.sp - 1, va := up m.va (bv c (2 * m.pl + 1)) (m.st (m.sp - 1)) } := by
  unfold stepM; rw [if_neg (by omega), if_neg (by omega), if_pos h]
theorem step_8 {c : ByteArray} {T : Int → ByteArray} {m : Hnd} (h : bv c (2 * m.pl) = 8) : stepM c T m = { m with pl := bv c (2 * m.pl + 1) } := by
  unfold stepM; rw [if_neg (by omega), if_neg (by omega), if_neg (by omega), if_pos h]
theorem step_9 {c : ByteArray} {T : Int → ByteArray} {m : Hnd} (h : bv c (2 * m.pl) = 9) : stepM c T m = { m with pl := if m.st (m.sp - 1) = 0 then bv c (2 * m.pl + 1) else m.pl + 1, sp := m.sp - 1 } := by
  unfold stepM; rw [if_neg (by omega), if_neg (by omega), if_neg (by omega), if_neg (by omega), if_pos h]
theorem step_10 {c : ByteArray} {T : Int → ByteArray} {m : Hnd} (h : bv c (2 * m.pl) = 10) : stepM c T m = { m with pl := m.pl + 1, sp := m.sp + 1, st := up m.st m.sp (bv (T (bv c (2 * m.pl + 1))) (m.po (bv c (2 * m.pl + 1)))), po := up m.po (bv c (2 * m.pl + 1)) (m.po (bv c (2 * m.pl + 1)) + 1) } := by
  unfold stepM; rw [if_neg (by omega), if_neg (by omega), if_neg (by omega), if_neg (by omega), if_neg (by omega), if_pos h]
theorem step_11 {c : ByteArray} {T : Int → ByteArray} {m : Hnd} (h : bv c (2 * m.pl) = 11) : stepM c T m = { m with pl := m.pl + 1, sp := m.sp - 1, lo := up m.lo (bv c (2 * m.pl + 1)) (m.lo (bv c (2 * m.pl + 1)) ++ [m.st (m.sp - 1)]) } := by
  unfold stepM; rw [if_neg (by omega), if_neg (by omega), if_neg (by omega), if_neg (by omega), if_neg (by omega), if_neg (by omega), if_pos h]
theorem step_two {c : ByteArray} {T : Int → ByteArray} {m : Hnd} (h : 3 ≤ bv c (2 * m.pl) ∧ bv c (2 * m.pl) ≤ 7) : stepM c T m = { m with pl := m.pl + 1, sp := m.sp - 1, st := up m.st (m.sp - 2) (reckon (bv c (2 * m.pl)) (m.st (m.sp - 2)) (m.st (m.sp - 1))) } := by
  unfold stepM; rw [if_neg (by omega), if_neg (by omega), if_neg (by omega), if_neg (by omega), if_neg (by omega), if_neg (by omega), if_neg (by omega)]

/-- the code of a file that is let through -/
structure Through (c v t : ByteArray) (n : Int) (h : Nat → Int) : Prop where
  ops : ∀ i : Int, 0 ≤ i → i < half c → bv c (2 * i) ≤ 11
  rng : Ranged c
  ht : HeightsOk c h
  vr : ∀ i : Int, 0 ≤ i → i < half c → bv c (2 * i) = 1 ∨ bv c (2 * i) = 2 → bv c (2 * i + 1) < v.size ∧ Lv n (bv v (bv c (2 * i + 1)))
  lv : ∀ i : Int, 0 ≤ i → i < half c → bv c (2 * i) = 10 ∨ bv c (2 * i) = 11 → Lv n (bv c (2 * i + 1))
  tr : ∀ a b d : Int, Lv n a → Lv n b → Lv n d → le t n a b = true → le t n b d = true → le t n a d = true
  nb : ∀ q, ¬ Breaks c v t n h q
  nt : ∀ q, ¬ Trap c q

/-- all that flows to the label of depth d at place p is at or below o -/
def Lo (c v t : ByteArray) (n : Int) (h : Nat → Int) (o p d : Int) : Prop := ∀ a, Lv n a → Flow c v h a p d → le t n a o = true

/-- the hand stands at a live place, as high as it is -/
structure Sound (c : ByteArray) (h : Nat → Int) (m : Hnd) : Prop where
  live : Live c m.pl
  r0 : 0 ≤ m.pl
  r1 : m.pl ≤ half c
  sp : m.sp = h m.pl.toNat

theorem lo_stay {c v t : ByteArray} {n : Int} {h : Nat → Int} {o p q d : Int} (hl : Live c p) (he : Edge c p q) (h0 : 0 ≤ d) (h1 : d < h p.toNat - takesAt c p) (k : Lo c v t n h o q d) : Lo c v t n h o p d :=
  fun a ha hf => k a ha ((flow_cl c v h a).stay p q d hl he h0 h1 hf)

theorem lo_push {c v t : ByteArray} {n : Int} {h : Nat → Int} {o p q : Int} (hl : Live c p) (he : Edge c p q) (hg : givesAt c p = 1) (k : Lo c v t n h o q (h p.toNat - takesAt c p)) {a : Int} (ha : Lv n a) (hs : SrcOf c v h a (Flow c v h a) p) : le t n a o = true :=
  k a ha ((flow_cl c v h a).push p q hl he hg hs)

/-- what is told or kept at or below o has a label at or below o, and so has its place -/
theorem lo_sink {c v t : ByteArray} {n : Int} {h : Nat → Int} {o p : Int} (P : Through c v t n h) (h0 : 0 ≤ p) (h1 : p < half c) (hl : Live c p) (ho : Lv n o) (hs : Lv n (sinkTo c v p)) (hle : le t n (sinkTo c v p) o = true) : Lo c v t n h o p (-1) ∧ (sinkVal c p = true → Lo c v t n h o p (h p.toNat - 1)) := by
  have key : ∀ a, Lv n a → (Flow c v h a p (-1) ∨ (sinkVal c p = true ∧ Flow c v h a p (h p.toNat - 1))) → le t n a o = true := fun a ha hf => by
    cases k : le t n a (sinkTo c v p)
    · exact absurd ⟨⟨h0, h1⟩, hl, hs.1, a, ha, k, hf⟩ (P.nb p)
    · exact P.tr a _ o ha hs ho k hle
  exact ⟨fun a ha hf => key a ha (.inl hf), fun hv a ha hf => key a ha (.inr ⟨hv, hf⟩)⟩

/-- the place behind -/
theorem step_next {c : ByteArray} {T : Int → ByteArray} {m : Hnd} (h11 : bv c (2 * m.pl) ≤ 11) : (stepM c T m).pl ∈ nxt c m.pl := by
  have h0 := (bv_bd c (2 * m.pl)).1
  have other : bv c (2 * m.pl) ≠ 8 → m.pl + 1 ∈ nxt c m.pl := fun e => by
    unfold nxt
    rw [if_neg e]
    split <;> simp
  have hcs : bv c (2 * m.pl) = 0 ∨ bv c (2 * m.pl) = 1 ∨ bv c (2 * m.pl) = 2 ∨ (3 ≤ bv c (2 * m.pl) ∧ bv c (2 * m.pl) ≤ 7) ∨ bv c (2 * m.pl) = 8 ∨ bv c (2 * m.pl) = 9 ∨ bv c (2 * m.pl) = 10 ∨ bv c (2 * m.pl) = 11 := by omega
  rcases hcs with k | k | k | k | k | k | k | k
  · rw [step_0 k]; exact other (by omega)
  · rw [step_1 k]; exact other (by omega)
  · rw [step_2 k]; exact other (by omega)
  · rw [step_two k]; exact other (by omega)
  · rw [step_8 k]; unfold nxt; rw [if_pos k]; simp
  · rw [step_9 k]
    show (if m.st (m.sp - 1) = 0 then bv c (2 * m.pl + 1) else m.pl + 1) ∈ nxt c m.pl
    split
    · unfold nxt
      rw [if_neg (by omega)]
      by_cases e : bv c (2 * m.pl + 1) = m.pl + 1
      · rw [if_neg (fun x => x.2 e), e]; simp
      · rw [if_pos ⟨k, e⟩]; simp
    · exact other (by omega)
  · rw [step_10 k]; exact other (by omega)
  · rw [step_11 k]; exact other (by omega)

theorem step_sp {c : ByteArray} {T : Int → ByteArray} {m : Hnd} (h11 : bv c (2 * m.pl) ≤ 11) : (stepM c T m).sp = m.sp - takesAt c m.pl + givesAt c m.pl := by
  have h0 := (bv_bd c (2 * m.pl)).1
  unfold takesAt givesAt takesF givesF
  have hcs : bv c (2 * m.pl) = 0 ∨ bv c (2 * m.pl) = 1 ∨ bv c (2 * m.pl) = 2 ∨ (3 ≤ bv c (2 * m.pl) ∧ bv c (2 * m.pl) ≤ 7) ∨ bv c (2 * m.pl) = 8 ∨ bv c (2 * m.pl) = 9 ∨ bv c (2 * m.pl) = 10 ∨ bv c (2 * m.pl) = 11 := by omega
  rcases hcs with k | k | k | k | k | k | k | k
  · rw [step_0 k, k]; show m.sp + 1 = _; simp
  · rw [step_1 k, k]; show m.sp + 1 = _; simp
  · rw [step_2 k, k]; show m.sp - 1 = _; simp
  · rw [step_two k, if_neg (by omega), if_neg (by omega), if_neg (by omega)]; show m.sp - 1 = _; omega
  · rw [step_8 k, k]; show m.sp = _; simp
  · rw [step_9 k, k]; show m.sp - 1 = _; simp
  · rw [step_10 k, k]; show m.sp + 1 = _; simp
  · rw [step_11 k, k]; show m.sp - 1 = _; simp

/-- what lies below what an instruction pops stays -/
theorem step_st {c : ByteArray} {T : Int → ByteArray} {m : Hnd} {d : Int} (h11 : bv c (2 * m.pl) ≤ 11) (hd : d < m.sp - takesAt c m.pl) : (stepM c T m).st d = m.st d := by
  have h0 := (bv_bd c (2 * m.pl)).1
  unfold takesAt takesF at hd
  have hcs : bv c (2 * m.pl) = 0 ∨ bv c (2 * m.pl) = 1 ∨ bv c (2 * m.pl) = 2 ∨ (3 ≤ bv c (2 * m.pl) ∧ bv c (2 * m.pl) ≤ 7) ∨ bv c (2 * m.pl) = 8 ∨ bv c (2 * m.pl) = 9 ∨ bv c (2 * m.pl) = 10 ∨ bv c (2 * m.pl) = 11 := by omega
  rcases hcs with k | k | k | k | k | k | k | k
  · rw [step_0 k]; rw [k] at hd; simp at hd; exact up_ne (by omega)
  · rw [step_1 k]; rw [k] at hd; simp at hd; exact up_ne (by omega)
  · rw [step_2 k]
  · rw [step_two k]; rw [if_neg (by omega), if_neg (by omega)] at hd; exact up_ne (by omega)
  · rw [step_8 k]
  · rw [step_9 k]
  · rw [step_10 k]; rw [k] at hd; simp at hd; exact up_ne (by omega)
  · rw [step_11 k]

theorem step_sound {c v t : ByteArray} {T : Int → ByteArray} {n : Int} {h : Nat → Int} {m : Hnd} (P : Through c v t n h) (S : Sound c h m) (hlt : m.pl < half c) : Sound c h (stepM c T m) ∧ Edge c m.pl (stepM c T m).pl := by
  have h11 := P.ops m.pl S.r0 hlt
  have hn := step_next (T := T) h11
  have he : Edge c m.pl (stepM c T m).pl := ⟨S.r0, hlt, hn⟩
  have hr := P.rng _ _ he
  have e : ((m.pl.toNat : Nat) : Int) = m.pl := Int.toNat_of_nonneg S.r0
  refine ⟨⟨Reach.step S.live he (by omega), hr.1, hr.2, ?_⟩, he⟩
  rw [step_sp h11, S.sp]
  have := P.ht.step m.pl.toNat (by rw [e]; exact hlt) (by rw [e]; exact S.live) (stepM c T m).pl (by rw [e]; exact hn)
  rw [this, e]

/-- what two hands have alike at or below o -/
structure Alike (c v t : ByteArray) (n : Int) (h : Nat → Int) (o : Int) (m k : Hnd) : Prop where
  va : ∀ x : Int, 0 ≤ x → x < v.size → le t n (bv v x) o = true → m.va x = k.va x
  po : ∀ l, Lv n l → le t n l o = true → m.po l = k.po l
  lo : ∀ l, Lv n l → le t n l o = true → m.lo l = k.lo l

/-- at a place whose label is not at or below o nothing at or below o is changed, and what lies on the stack behind it with a label at or below o lay there before -/
theorem step_high {c v t : ByteArray} {T : Int → ByteArray} {n : Int} {h : Nat → Int} {o : Int} {m : Hnd} (P : Through c v t n h) (ho : Lv n o) (S : Sound c h m) (hlt : m.pl < half c) (hi : ¬ Lo c v t n h o m.pl (-1)) :
    Alike c v t n h o (stepM c T m) m ∧ ∀ d, 0 ≤ d → d < (stepM c T m).sp → Lo c v t n h o (stepM c T m).pl d → d < m.sp - takesAt c m.pl ∧ Lo c v t n h o m.pl d ∧ (stepM c T m).st d = m.st d := by
  have h11 := P.ops m.pl S.r0 hlt
  have h0 := (bv_bd c (2 * m.pl)).1
  obtain ⟨S2, he⟩ := step_sound (T := T) P S hlt
  have hsp := step_sp (T := T) h11
  have hS := S.sp
  constructor
  · have sink : Lv n (sinkTo c v m.pl) → le t n (sinkTo c v m.pl) o = true → False := fun a b => hi (lo_sink P S.r0 hlt S.live ho a b).1
    have hcs : bv c (2 * m.pl) = 0 ∨ bv c (2 * m.pl) = 1 ∨ bv c (2 * m.pl) = 2 ∨ (3 ≤ bv c (2 * m.pl) ∧ bv c (2 * m.pl) ≤ 7) ∨ bv c (2 * m.pl) = 8 ∨ bv c (2 * m.pl) = 9 ∨ bv c (2 * m.pl) = 10 ∨ bv c (2 * m.pl) = 11 := by omega
    rcases hcs with k | k | k | k | k | k | k | k
    · rw [step_0 k]; exact ⟨fun _ _ _ _ => rfl, fun _ _ _ => rfl, fun _ _ _ => rfl⟩
    · rw [step_1 k]; exact ⟨fun _ _ _ _ => rfl, fun _ _ _ => rfl, fun _ _ _ => rfl⟩
    · have hto : sinkTo c v m.pl = bv v (bv c (2 * m.pl + 1)) := by unfold sinkTo; rw [if_pos k]
      rw [step_2 k]
      refine ⟨fun x hx0 hx1 hx => up_ne (fun e => ?_), fun _ _ _ => rfl, fun _ _ _ => rfl⟩
      subst e
      exact sink (by rw [hto]; exact (P.vr m.pl S.r0 hlt (.inr k)).2) (by rw [hto]; exact hx)
    · rw [step_two k]; exact ⟨fun _ _ _ _ => rfl, fun _ _ _ => rfl, fun _ _ _ => rfl⟩
    · rw [step_8 k]; exact ⟨fun _ _ _ _ => rfl, fun _ _ _ => rfl, fun _ _ _ => rfl⟩
    · rw [step_9 k]; exact ⟨fun _ _ _ _ => rfl, fun _ _ _ => rfl, fun _ _ _ => rfl⟩
    · have hto : sinkTo c v m.pl = bv c (2 * m.pl + 1) := by unfold sinkTo; rw [if_neg (by omega), if_pos (.inl k)]
      rw [step_10 k]
      refine ⟨fun _ _ _ _ => rfl, fun l hl hx => up_ne (fun e => ?_), fun _ _ _ => rfl⟩
      subst e
      exact sink (by rw [hto]; exact hl) (by rw [hto]; exact hx)
    · have hto : sinkTo c v m.pl = bv c (2 * m.pl + 1) := by unfold sinkTo; rw [if_neg (by omega), if_pos (.inr k)]
      rw [step_11 k]
      refine ⟨fun _ _ _ _ => rfl, fun _ _ _ => rfl, fun l hl hx => up_ne (fun e => ?_)⟩
      subst e
      exact sink (by rw [hto]; exact hl) (by rw [hto]; exact hx)
  · intro d hd0 hd1 hL
    have hgt := delta_bd c m.pl
    have hlt2 : d < m.sp - takesAt c m.pl := by
      by_cases e : d < m.sp - takesAt c m.pl
      · exact e
      · exfalso
        have hg : givesAt c m.pl = 1 := by omega
        have hd : d = h m.pl.toNat - takesAt c m.pl := by omega
        rw [hd] at hL
        exact hi (fun a ha hf => lo_push S.live he hg hL ha (.inl hf))
    exact ⟨hlt2, lo_stay S.live he hd0 (by omega) hL, step_st h11 hlt2⟩
end Go.Proofs.Ytcnbifdlkalimaa

/-
  The plain mathematics of secrecy: two runs of code that is let through, on tapes that are the same at or below a level, tell the same at or below it; no condition but those that stand in each lemma.
-/
namespace Go.Proofs.Ytcnbifdlkalimaa
open Go.RowKit

/-- two hands at the same place that are alike at or below o -/
structure Same (c v t : ByteArray) (n : Int) (h : Nat → Int) (o : Int) (m k : Hnd) : Prop where
  pl : m.pl = k.pl
  al : Alike c v t n h o m k
  st : ∀ d, 0 ≤ d → d < m.sp → Lo c v t n h o m.pl d → m.st d = k.st d

theorem Alike.symm {c v t : ByteArray} {n : Int} {h : Nat → Int} {o : Int} {m k : Hnd} (H : Alike c v t n h o m k) : Alike c v t n h o k m :=
  ⟨fun x a b d => (H.va x a b d).symm, fun l a b => (H.po l a b).symm, fun l a b => (H.lo l a b).symm⟩
theorem Alike.trans {c v t : ByteArray} {n : Int} {h : Nat → Int} {o : Int} {m k j : Hnd} (H : Alike c v t n h o m k) (K : Alike c v t n h o k j) : Alike c v t n h o m j :=
  ⟨fun x a b d => (H.va x a b d).trans (K.va x a b d), fun l a b => (H.po l a b).trans (K.po l a b), fun l a b => (H.lo l a b).trans (K.lo l a b)⟩

/-- both do the same instruction, and go on at the same place -/
theorem step_same {c v t : ByteArray} {T U : Int → ByteArray} {n : Int} {h : Nat → Int} {o : Int} {m k : Hnd} (P : Through c v t n h) (ho : Lv n o) (hT : ∀ l, Lv n l → le t n l o = true → T l = U l) (S : Sound c h m) (R : Sound c h k) (H : Same c v t n h o m k) (hlt : m.pl < half c)
    (hz : bv c (2 * m.pl) = 9 → Lo c v t n h o m.pl (h m.pl.toNat - 1)) : Same c v t n h o (stepM c T m) (stepM c U k) := by
  have h11 := P.ops m.pl S.r0 hlt
  have h0 := (bv_bd c (2 * m.pl)).1
  obtain ⟨S2, he⟩ := step_sound (T := T) P S hlt
  have hsp := step_sp (T := T) h11
  have hS := S.sp
  have hK : k.sp = m.sp := by rw [R.sp, S.sp, H.pl]
  have hpl := H.pl
  have e : ((m.pl.toNat : Nat) : Int) = m.pl := Int.toNat_of_nonneg S.r0
  have hpop := P.ht.pops m.pl.toNat (by rw [e]; exact hlt) (by rw [e]; exact S.live)
  rw [e] at hpop
  have stay : ∀ d, 0 ≤ d → d < m.sp - takesAt c m.pl → Lo c v t n h o (stepM c T m).pl d → (stepM c T m).st d = (stepM c U k).st d := fun d d0 d1 hL => by
    rw [step_st h11 d1, step_st (by rw [← hpl]; exact h11) (by rw [← hpl, hK]; exact d1)]
    have htk := (delta_bd c m.pl).1
    exact H.st d d0 (by omega) (lo_stay S.live he d0 (by omega) hL)
  have fin : (stepM c T m).pl = (stepM c U k).pl → Alike c v t n h o (stepM c T m) (stepM c U k) → (givesAt c m.pl = 1 → Lo c v t n h o (stepM c T m).pl (h m.pl.toNat - takesAt c m.pl) → (stepM c T m).st (h m.pl.toNat - takesAt c m.pl) = (stepM c U k).st (h m.pl.toNat - takesAt c m.pl)) → Same c v t n h o (stepM c T m) (stepM c U k) := fun a b f =>
    ⟨a, b, fun d d0 d1 hL => by
      by_cases k1 : d < m.sp - takesAt c m.pl
      · exact stay d d0 k1 hL
      · have hgt := delta_bd c m.pl
        have hd : d = h m.pl.toNat - takesAt c m.pl := by omega
        rw [hd] at hL ⊢
        exact f (by omega) hL⟩
  have sink : Lv n (sinkTo c v m.pl) → le t n (sinkTo c v m.pl) o = true → sinkVal c m.pl = true → 0 < m.sp → m.st (m.sp - 1) = k.st (m.sp - 1) := fun a b d g => H.st _ (by omega) (by omega) (by rw [hS]; exact (lo_sink P S.r0 hlt S.live ho a b).2 d)
  have push : givesAt c m.pl = 1 → Lo c v t n h o (stepM c T m).pl (h m.pl.toNat - takesAt c m.pl) → ∀ a, Lv n a → SrcOf c v h a (Flow c v h a) m.pl → le t n a o = true := fun hg hL a ha hs => lo_push S.live he hg hL ha hs
  have al := H.al
  have hcs : bv c (2 * m.pl) = 0 ∨ bv c (2 * m.pl) = 1 ∨ bv c (2 * m.pl) = 2 ∨ (3 ≤ bv c (2 * m.pl) ∧ bv c (2 * m.pl) ≤ 7) ∨ bv c (2 * m.pl) = 8 ∨ bv c (2 * m.pl) = 9 ∨ bv c (2 * m.pl) = 10 ∨ bv c (2 * m.pl) = 11 := by omega
  rcases hcs with z | z | z | z | z | z | z | z
  · have htk : takesAt c m.pl = 0 := by unfold takesAt takesF; rw [z]; rfl
    have z2 : bv c (2 * k.pl) = 0 := by rw [← hpl]; exact z
    refine fin ?_ ?_ (fun _ _ => ?_)
    · rw [step_0 z, step_0 z2]; show m.pl + 1 = k.pl + 1; rw [hpl]
    · rw [step_0 z, step_0 z2]; exact ⟨al.va, al.po, al.lo⟩
    · rw [step_0 z, step_0 z2]
      show up m.st m.sp _ _ = up k.st k.sp _ _
      rw [show h m.pl.toNat - takesAt c m.pl = m.sp from by omega, up_at, hK, up_at, hpl]
  · have htk : takesAt c m.pl = 0 := by unfold takesAt takesF; rw [z]; rfl
    have z2 : bv c (2 * k.pl) = 1 := by rw [← hpl]; exact z
    have hv := P.vr m.pl S.r0 hlt (.inl z)
    refine fin ?_ ?_ (fun hg hL => ?_)
    · rw [step_1 z, step_1 z2]; show m.pl + 1 = k.pl + 1; rw [hpl]
    · rw [step_1 z, step_1 z2]; exact ⟨al.va, al.po, al.lo⟩
    · have hx := push hg hL _ hv.2 (.inr (.inl ⟨z, rfl⟩))
      rw [step_1 z, step_1 z2]
      show up m.st m.sp _ _ = up k.st k.sp _ _
      rw [show h m.pl.toNat - takesAt c m.pl = m.sp from by omega, up_at, hK, up_at, ← hpl]
      exact al.va _ (bv_bd _ _).1 hv.1 hx
  · have htk : takesAt c m.pl = 1 := by unfold takesAt takesF; rw [z]; rfl
    have hgv : givesAt c m.pl = 0 := by unfold givesAt givesF; rw [z]; rfl
    have z2 : bv c (2 * k.pl) = 2 := by rw [← hpl]; exact z
    have hv := P.vr m.pl S.r0 hlt (.inr z)
    have hto : sinkTo c v m.pl = bv v (bv c (2 * m.pl + 1)) := by unfold sinkTo; rw [if_pos z]
    refine fin ?_ ?_ (fun hg _ => by omega)
    · rw [step_2 z, step_2 z2]; show m.pl + 1 = k.pl + 1; rw [hpl]
    · rw [step_2 z, step_2 z2]
      refine ⟨fun x hx0 hx1 hx => ?_, al.po, al.lo⟩
      show up m.va _ _ _ = up k.va _ _ _
      rw [← hpl, hK]
      by_cases ex : x = bv c (2 * m.pl + 1)
      · subst ex
        rw [up_at, up_at]
        exact sink (by rw [hto]; exact hv.2) (by rw [hto]; exact hx) (decide_eq_true (.inl z)) (by omega)
      · rw [up_ne ex, up_ne ex]; exact al.va x hx0 hx1 hx
  · have htk : takesAt c m.pl = 2 := by unfold takesAt takesF; rw [if_neg (by omega), if_neg (by omega)]
    have z2 : 3 ≤ bv c (2 * k.pl) ∧ bv c (2 * k.pl) ≤ 7 := by rw [← hpl]; exact z
    refine fin ?_ ?_ (fun hg hL => ?_)
    · rw [step_two z, step_two z2]; show m.pl + 1 = k.pl + 1; rw [hpl]
    · rw [step_two z, step_two z2]; exact ⟨al.va, al.po, al.lo⟩
    · have e1 : m.st (m.sp - 1) = k.st (m.sp - 1) := H.st _ (by omega) (by omega) (fun a ha hf => push hg hL a ha (.inr (.inr (.inr ⟨z, .inl (by rw [← hS]; exact hf)⟩))))
      have e2 : m.st (m.sp - 2) = k.st (m.sp - 2) := H.st _ (by omega) (by omega) (fun a ha hf => push hg hL a ha (.inr (.inr (.inr ⟨z, .inr (by rw [← hS]; exact hf)⟩))))
      rw [step_two z, step_two z2]
      show up m.st (m.sp - 2) _ _ = up k.st (k.sp - 2) _ _
      rw [show h m.pl.toNat - takesAt c m.pl = m.sp - 2 from by omega, up_at, hK, up_at, ← hpl, e1, e2]
  · have hgv : givesAt c m.pl = 0 := by unfold givesAt givesF; rw [z]; rfl
    have z2 : bv c (2 * k.pl) = 8 := by rw [← hpl]; exact z
    refine fin ?_ ?_ (fun hg _ => by omega)
    · rw [step_8 z, step_8 z2]; show bv c (2 * m.pl + 1) = bv c (2 * k.pl + 1); rw [hpl]
    · rw [step_8 z, step_8 z2]; exact ⟨al.va, al.po, al.lo⟩
  · have htk : takesAt c m.pl = 1 := by unfold takesAt takesF; rw [z]; rfl
    have hgv : givesAt c m.pl = 0 := by unfold givesAt givesF; rw [z]; rfl
    have z2 : bv c (2 * k.pl) = 9 := by rw [← hpl]; exact z
    have e1 : m.st (m.sp - 1) = k.st (m.sp - 1) := H.st _ (by omega) (by omega) (by rw [hS]; exact hz z)
    refine fin ?_ ?_ (fun hg _ => by omega)
    · rw [step_9 z, step_9 z2]
      show (if m.st (m.sp - 1) = 0 then bv c (2 * m.pl + 1) else m.pl + 1) = (if k.st (k.sp - 1) = 0 then bv c (2 * k.pl + 1) else k.pl + 1)
      rw [hK, e1, hpl]
    · rw [step_9 z, step_9 z2]; exact ⟨al.va, al.po, al.lo⟩
  · have htk : takesAt c m.pl = 0 := by unfold takesAt takesF; rw [z]; rfl
    have z2 : bv c (2 * k.pl) = 10 := by rw [← hpl]; exact z
    have hlv := P.lv m.pl S.r0 hlt (.inl z)
    refine fin ?_ ?_ (fun hg hL => ?_)
    · rw [step_10 z, step_10 z2]; show m.pl + 1 = k.pl + 1; rw [hpl]
    · rw [step_10 z, step_10 z2]
      refine ⟨al.va, fun l hl hx => ?_, al.lo⟩
      show up m.po _ _ _ = up k.po _ _ _
      rw [← hpl]
      by_cases ex : l = bv c (2 * m.pl + 1)
      · subst ex; rw [up_at, up_at, al.po _ hl hx]
      · rw [up_ne ex, up_ne ex]; exact al.po l hl hx
    · have hx := push hg hL _ hlv (.inr (.inr (.inl ⟨z, rfl⟩)))
      rw [step_10 z, step_10 z2]
      show up m.st m.sp _ _ = up k.st k.sp _ _
      rw [show h m.pl.toNat - takesAt c m.pl = m.sp from by omega, up_at, hK, up_at, ← hpl, al.po _ hlv hx, hT _ hlv hx]
  · have htk : takesAt c m.pl = 1 := by unfold takesAt takesF; rw [z]; rfl
    have hgv : givesAt c m.pl = 0 := by unfold givesAt givesF; rw [z]; rfl
    have z2 : bv c (2 * k.pl) = 11 := by rw [← hpl]; exact z
    have hlv := P.lv m.pl S.r0 hlt (.inr z)
    have hto : sinkTo c v m.pl = bv c (2 * m.pl + 1) := by unfold sinkTo; rw [if_neg (by omega), if_pos (.inr z)]
    refine fin ?_ ?_ (fun hg _ => by omega)
    · rw [step_11 z, step_11 z2]; show m.pl + 1 = k.pl + 1; rw [hpl]
    · rw [step_11 z, step_11 z2]
      refine ⟨al.va, al.po, fun l hl hx => ?_⟩
      show up m.lo _ _ _ = up k.lo _ _ _
      rw [← hpl, hK]
      by_cases ex : l = bv c (2 * m.pl + 1)
      · subst ex
        rw [up_at, up_at, al.lo _ hl hx, sink (by rw [hto]; exact hl) (by rw [hto]; exact hx) (decide_eq_true (.inr z)) (by omega)]
      · rw [up_ne ex, up_ne ex]; exact al.lo l hl hx
end Go.Proofs.Ytcnbifdlkalimaa

/-
  The plain mathematics of secrecy, second part: two runs with any fuel: what they tell at or below a level is the same as far as both have come; no condition but those that stand in each lemma.
-/
namespace Go.Proofs.Ytcnbifdlkalimaa
open Go.RowKit

/-- as many instructions as the fuel says, or until the end -/
def runM (c : ByteArray) (T : Int → ByteArray) : Nat → Hnd → Hnd
  | 0, m => m
  | k + 1, m => if m.pl = half c then m else runM c T k (stepM c T m)

theorem runM_end {c : ByteArray} {T : Int → ByteArray} {m : Hnd} (h : m.pl = half c) : ∀ k, runM c T k m = m
  | 0 => rfl
  | k + 1 => by unfold runM; rw [if_pos h]

theorem runM_go {c : ByteArray} {T : Int → ByteArray} {m : Hnd} (h : m.pl ≠ half c) (k : Nat) : runM c T (k + 1) m = runM c T k (stepM c T m) := by
  show (if m.pl = half c then m else runM c T k (stepM c T m)) = _
  rw [if_neg h]

theorem step_logs (c : ByteArray) (T : Int → ByteArray) (m : Hnd) (l : Int) : ∃ e, (stepM c T m).lo l = m.lo l ++ e := by
  unfold stepM
  split
  · exact ⟨[], by simp⟩
  split
  · exact ⟨[], by simp⟩
  split
  · exact ⟨[], by simp⟩
  split
  · exact ⟨[], by simp⟩
  split
  · exact ⟨[], by simp⟩
  split
  · exact ⟨[], by simp⟩
  split
  · by_cases e : l = bv c (2 * m.pl + 1)
    · subst e; exact ⟨_, up_at _ _ _⟩
    · exact ⟨[], by rw [List.append_nil]; exact up_ne e⟩
  · exact ⟨[], by simp⟩

/-- logs go on from what they were -/
theorem runM_logs (c : ByteArray) (T : Int → ByteArray) (l : Int) : ∀ (k : Nat) (m : Hnd), ∃ e, (runM c T k m).lo l = m.lo l ++ e
  | 0, m => ⟨[], by simp [runM]⟩
  | k + 1, m => by
    by_cases h : m.pl = half c
    · rw [runM_end h]; exact ⟨[], by simp⟩
    · rw [runM_go h]
      obtain ⟨e, he⟩ := step_logs c T m l
      obtain ⟨f, hf⟩ := runM_logs c T l k (stepM c T m)
      exact ⟨e ++ f, by rw [hf, he, List.append_assoc]⟩

/-- there is a junction -/
theorem junction_exists {c : ByteArray} {i : Int} (hr : Ranged c) (h0 : 0 ≤ i) (h1 : i < half c) (hend : ∀ x, Reach c (One i) (-1) x → Reach c (One x) (-1) (half c)) : ∃ j, IsJ c i j := by
  have hh := (half_bd c).1
  have : ∃ L : List Int, ∀ x, x ∈ L ↔ (0 ≤ x ∧ x ≤ half c ∧ x ≠ i ∧ OnAll c i x) := by
    have key : ∀ k : Nat, ∃ L : List Int, ∀ x, x ∈ L ↔ (0 ≤ x ∧ x < k ∧ x ≠ i ∧ OnAll c i x) := by
      intro k
      induction k with
      | zero => exact ⟨[], fun x => by simp; omega⟩
      | succ k ih =>
        obtain ⟨L, hL⟩ := ih
        by_cases e : (k : Int) ≠ i ∧ OnAll c i k
        · refine ⟨(k : Int) :: L, fun x => ?_⟩
          rw [List.mem_cons, hL x]
          constructor
          · rintro (rfl | ⟨a, b, d, f⟩)
            · exact ⟨by omega, by omega, e.1, e.2⟩
            · exact ⟨a, by omega, d, f⟩
          · rintro ⟨a, b, d, f⟩
            by_cases hx : x = k
            · exact .inl hx
            · exact .inr ⟨a, by omega, d, f⟩
        · refine ⟨L, fun x => ?_⟩
          rw [hL x]
          constructor
          · rintro ⟨a, b, d, f⟩; exact ⟨a, by omega, d, f⟩
          · rintro ⟨a, b, d, f⟩
            by_cases hx : x = k
            · subst hx; exact absurd ⟨d, f⟩ e
            · exact ⟨a, by omega, d, f⟩
    obtain ⟨L, hL⟩ := key ((half c).toNat + 1)
    refine ⟨L, fun x => ?_⟩
    rw [hL x]
    constructor
    · rintro ⟨a, b, d, f⟩; exact ⟨a, by omega, d, f⟩
    · rintro ⟨a, b, d, f⟩; exact ⟨a, by omega, d, f⟩
  obtain ⟨L, hL⟩ := this
  have hne : L ≠ [] := by
    have h2 := (hL (half c)).2 ⟨hh, Int.le_refl _, by omega, fun h => h.ne rfl⟩
    intro e
    rw [e] at h2
    exact absurd h2 (by simp)
  obtain ⟨a, ha, hmin⟩ := first_exists hr h0 hend L hne (fun x hx => ⟨((hL x).1 hx).2.2.1, ((hL x).1 hx).2.2.2⟩)
  obtain ⟨a0, a1, a2, a3⟩ := (hL a).1 ha
  exact ⟨a, a0, a1, a2, a3, fun b b0 b1 b2 b3 b4 => hmin b ((hL b).2 ⟨b0, b1, b2, b4⟩) b3⟩

/-- within what a choice at i hides, or at its junction j: what the hand had at i, at or below o, it has still -/
structure InR (c v t : ByteArray) (n : Int) (h : Nat → Int) (o i j : Int) (m0 m : Hnd) : Prop where
  S : Sound c h m
  rg : m.pl = j ∨ Reach c (fun x => x ∈ nxt c i) j m.pl
  al : Alike c v t n h o m m0
  st : ∀ d, 0 ≤ d → d < m.sp → Lo c v t n h o m.pl d → d < m0.sp ∧ Lo c v t n h o i d ∧ m.st d = m0.st d

theorem InR.notEnd {c v t : ByteArray} {n : Int} {h : Nat → Int} {o i j : Int} {m0 m : Hnd} (H : InR c v t n h o i j m0 m) (hJ : IsJ c i j) (h0 : 0 ≤ i) (h1 : i < half c) (hne : m.pl ≠ j) : m.pl ≠ half c := by
  intro e
  rcases H.rg with k | k
  · exact hne k
  · rw [e] at k
    exact hJ.on (k (fun x => Reach c (One i) j x) (fun x hx hw => (Reach.start (S := One i) rfl (fun q => hJ.ne q.symm)).step ⟨h0, h1, hx⟩ hw) (fun _ _ hx he hw => hx.step he hw))

theorem InR.step {c v t : ByteArray} {T : Int → ByteArray} {n : Int} {h : Nat → Int} {o i j : Int} {m0 m : Hnd} (P : Through c v t n h) (ho : Lv n o) (hJ : IsJ c i j) (h0 : 0 ≤ i) (h1 : i < half c) (hl : Live c i) (h9 : bv c (2 * i) = 9) {a : Int} (ha : Lv n a) (hf : Flow c v h a i (h i.toNat - 1)) (hno : le t n a o = false)
    (H : InR c v t n h o i j m0 m) (hne : m.pl ≠ j) : InR c v t n h o i j m0 (stepM c T m) := by
  have hend := H.notEnd hJ h0 h1 hne
  have r1 := H.S.r1
  have hlt : m.pl < half c := by omega
  have hre : Reach c (fun x => x ∈ nxt c i) j m.pl := H.rg.resolve_left hne
  have hhi : ¬ Lo c v t n h o m.pl (-1) := fun k => by
    have := k a ha ((flow_cl c v h a).hide i m.pl hl h0 h1 h9 (.inr hf) ⟨j, hJ, hre⟩ H.S.r0 H.S.r1)
    rw [hno] at this
    exact absurd this (by simp)
  obtain ⟨S2, he⟩ := step_sound (T := T) P H.S hlt
  obtain ⟨A, B⟩ := step_high (T := T) P ho H.S hlt hhi
  refine ⟨S2, ?_, A.trans H.al, fun d d0 d1 hL => ?_⟩
  · by_cases e : (stepM c T m).pl = j
    · exact .inl e
    · exact .inr (hre.step he e)
  · obtain ⟨b1, b2, b3⟩ := B d d0 d1 hL
    have htk := (delta_bd c m.pl).1
    obtain ⟨g1, g2, g3⟩ := H.st d d0 (by omega) b2
    exact ⟨g1, g2, b3.trans g3⟩

theorem InR.run {c v t : ByteArray} {T : Int → ByteArray} {n : Int} {h : Nat → Int} {o i j : Int} {m0 : Hnd} (P : Through c v t n h) (ho : Lv n o) (hJ : IsJ c i j) (h0 : 0 ≤ i) (h1 : i < half c) (hl : Live c i) (h9 : bv c (2 * i) = 9) {a : Int} (ha : Lv n a) (hf : Flow c v h a i (h i.toNat - 1)) (hno : le t n a o = false) :
    ∀ (k : Nat) (m : Hnd), InR c v t n h o i j m0 m → (∃ r x, r ≤ k ∧ InR c v t n h o i j m0 x ∧ x.pl = j ∧ runM c T k m = runM c T (k - r) x) ∨ (InR c v t n h o i j m0 (runM c T k m) ∧ (runM c T k m).pl ≠ half c)
  | 0, m, H => by
    by_cases e : m.pl = j
    · exact .inl ⟨0, m, Nat.le_refl _, H, e, rfl⟩
    · exact .inr ⟨H, H.notEnd hJ h0 h1 e⟩
  | k + 1, m, H => by
    by_cases e : m.pl = j
    · exact .inl ⟨0, m, by omega, H, e, rfl⟩
    · rw [runM_go (H.notEnd hJ h0 h1 e)]
      rcases InR.run P ho hJ h0 h1 hl h9 ha hf hno k (stepM c T m) (H.step P ho hJ h0 h1 hl h9 ha hf hno e) with ⟨r, x, a1, a2, a3, a4⟩ | h2
      · exact .inl ⟨r + 1, x, by omega, a2, a3, by rw [a4, show k + 1 - (r + 1) = k - r from by omega]⟩
      · exact .inr h2

/-- what two runs tell at or below o -/
structure Blind (c v t : ByteArray) (n : Int) (h : Nat → Int) (o : Int) (x y : Hnd) : Prop where
  logs : ∀ l, Lv n l → le t n l o = true → (∃ e, x.lo l = y.lo l ++ e) ∨ (∃ e, y.lo l = x.lo l ++ e)
  both : x.pl = half c → y.pl = half c → Alike c v t n h o x y

theorem blind_run {c v t : ByteArray} {T U : Int → ByteArray} {n : Int} {h : Nat → Int} {o : Int} (P : Through c v t n h) (ho : Lv n o) (hT : ∀ l, Lv n l → le t n l o = true → T l = U l) :
    ∀ (N k1 k2 : Nat), k1 + k2 ≤ N → ∀ m1 m2 : Hnd, Sound c h m1 → Sound c h m2 → Same c v t n h o m1 m2 → Blind c v t n h o (runM c T k1 m1) (runM c U k2 m2) := by
  intro N
  induction N with
  | zero =>
    intro k1 k2 hk m1 m2 S R H
    obtain ⟨rfl, rfl⟩ : k1 = 0 ∧ k2 = 0 := ⟨by omega, by omega⟩
    exact ⟨fun l a b => .inl ⟨[], by simpa [runM] using H.al.lo l a b⟩, fun _ _ => H.al⟩
  | succ N ih =>
    intro k1 k2 hk m1 m2 S R H
    by_cases hE : m1.pl = half c
    · rw [runM_end hE, runM_end (by rw [← H.pl]; exact hE)]
      exact ⟨fun l a b => .inl ⟨[], by rw [List.append_nil]; exact H.al.lo l a b⟩, fun _ _ => H.al⟩
    · have hE2 : m2.pl ≠ half c := by rw [← H.pl]; exact hE
      have r1 := S.r1
      have hlt : m1.pl < half c := by omega
      match k1, k2 with
      | 0, k2 =>
        refine ⟨fun l a b => .inr ?_, fun e => absurd e hE⟩
        obtain ⟨e, he⟩ := runM_logs c U l k2 m2
        exact ⟨e, by rw [he]; show _ = m1.lo l ++ e; rw [H.al.lo l a b]⟩
      | k1 + 1, 0 =>
        refine ⟨fun l a b => .inl ?_, fun _ e => absurd e hE2⟩
        obtain ⟨e, he⟩ := runM_logs c T l (k1 + 1) m1
        exact ⟨e, by rw [he]; show _ = m2.lo l ++ e; rw [H.al.lo l a b]⟩
      | k1 + 1, k2 + 1 =>
        rw [runM_go hE, runM_go hE2]
        have hlt2 : m2.pl < half c := by rw [← H.pl]; exact hlt
        obtain ⟨S2, he⟩ := step_sound (T := T) P S hlt
        obtain ⟨R2, he2⟩ := step_sound (T := U) P R hlt2
        by_cases hz : bv c (2 * m1.pl) = 9 → Lo c v t n h o m1.pl (h m1.pl.toNat - 1)
        · exact ih k1 k2 (by omega) _ _ S2 R2 (step_same P ho hT S R H hlt hz)
        · have h9 : bv c (2 * m1.pl) = 9 := Classical.byContradiction fun k => hz (fun e => absurd e k)
          have hnl : ¬ Lo c v t n h o m1.pl (h m1.pl.toNat - 1) := fun k => hz (fun _ => k)
          obtain ⟨a, ha, hf, hno⟩ : ∃ a, Lv n a ∧ Flow c v h a m1.pl (h m1.pl.toNat - 1) ∧ le t n a o = false := Classical.byContradiction fun k => hnl (fun a ha hf => by
            cases e : le t n a o
            · exact absurd ⟨a, ha, hf, e⟩ k
            · rfl)
          have hends : ∀ x, Reach c (One m1.pl) (-1) x → Reach c (One x) (-1) (half c) := fun x hx => by
            have hl2 : Live c x := Reach.trans S.live hx
            have hx2 : 0 ≤ x ∧ x ≤ half c := hx (fun x => 0 ≤ x ∧ x ≤ half c) (fun y hy _ => by have hy : y = m1.pl := hy; have := S.r0; omega) (fun y z _ hz _ => P.rng y z hz)
            exact Classical.byContradiction fun k => P.nt x ⟨hx2, hl2, k⟩
          obtain ⟨j, hJ⟩ := junction_exists P.rng S.r0 hlt hends
          have htk : takesAt c m1.pl = 1 := by unfold takesAt takesF; rw [h9]; rfl
          have h92 : bv c (2 * m2.pl) = 9 := by rw [← H.pl]; exact h9
          have I1 : InR c v t n h o m1.pl j m1 (stepM c T m1) := by
            have hsp := step_sp (T := T) (P.ops m1.pl S.r0 hlt)
            have hgv : givesAt c m1.pl = 0 := by unfold givesAt givesF; rw [h9]; rfl
            have hS := S.sp
            refine ⟨S2, ?_, ?_, fun d d0 d1 hL => ⟨by omega, lo_stay S.live he d0 (by omega) hL, step_st (P.ops m1.pl S.r0 hlt) (by omega)⟩⟩
            · by_cases e : (stepM c T m1).pl = j
              · exact .inl e
              · exact .inr (Reach.start he.2.2 e)
            · rw [step_9 h9]; exact ⟨fun _ _ _ _ => rfl, fun _ _ _ => rfl, fun _ _ _ => rfl⟩
          have I2 : InR c v t n h o m1.pl j m2 (stepM c U m2) := by
            have hsp := step_sp (T := U) (P.ops m2.pl R.r0 hlt2)
            have hgv : givesAt c m2.pl = 0 := by unfold givesAt givesF; rw [h92]; rfl
            have htk2 : takesAt c m2.pl = 1 := by rw [← H.pl]; exact htk
            have hS := R.sp
            refine ⟨R2, ?_, ?_, fun d d0 d1 hL => ⟨by omega, by rw [H.pl]; exact lo_stay R.live he2 d0 (by omega) hL, step_st (P.ops m2.pl R.r0 hlt2) (by omega)⟩⟩
            · by_cases e : (stepM c U m2).pl = j
              · exact .inl e
              · exact .inr (Reach.start (by rw [H.pl]; exact he2.2.2) e)
            · rw [step_9 h92]; exact ⟨fun _ _ _ _ => rfl, fun _ _ _ => rfl, fun _ _ _ => rfl⟩
          rcases InR.run (T := T) P ho hJ S.r0 hlt S.live h9 ha hf hno k1 _ I1 with ⟨r, x, a1, a2, a3, a4⟩ | ⟨a1, a2⟩
          · rcases InR.run (T := U) P ho hJ S.r0 hlt S.live h9 ha hf hno k2 _ I2 with ⟨s, y, b1, b2, b3, b4⟩ | ⟨b1, b2⟩
            · rw [a4, b4]
              refine ih _ _ (by omega) x y a2.S b2.S ⟨by rw [a3, b3], (a2.al.trans H.al).trans b2.al.symm, fun d d0 d1 hL => ?_⟩
              obtain ⟨g1, g2, g3⟩ := a2.st d d0 d1 hL
              obtain ⟨f1, f2, f3⟩ := b2.st d d0 (by rw [b2.S.sp, b3]; rw [a2.S.sp, a3] at d1; exact d1) (by rw [b3]; rw [a3] at hL; exact hL)
              rw [g3, f3]
              exact H.st d d0 g1 g2
            · refine ⟨fun l p q => .inl ?_, fun _ e => absurd e b2⟩
              obtain ⟨e, hx⟩ := runM_logs c T l k1 (stepM c T m1)
              obtain ⟨f, hy⟩ := step_logs c T m1 l
              exact ⟨f ++ e, by rw [b1.al.lo l p q, hx, hy, H.al.lo l p q, List.append_assoc]⟩
          · refine ⟨fun l p q => .inr ?_, fun e => absurd e a2⟩
            obtain ⟨e, hx⟩ := runM_logs c U l k2 (stepM c U m2)
            obtain ⟨f, hy⟩ := step_logs c U m2 l
            exact ⟨f ++ e, by rw [a1.al.lo l p q, hx, hy, H.al.lo l p q, List.append_assoc]⟩
end Go.Proofs.Ytcnbifdlkalimaa

/-
  The plain mathematics of runs with more fuel and of tapes that read alike; no condition but those that stand in each lemma.
-/
namespace Go.Proofs.Ytcnbifdlkalimaa
open Go.RowKit

/-- how many instructions are done -/
def numM (c : ByteArray) (T : Int → ByteArray) : Nat → Hnd → Nat
  | 0, _ => 0
  | k + 1, m => if m.pl = half c then 0 else numM c T k (stepM c T m) + 1

theorem stepsM_end {c : ByteArray} {T : Int → ByteArray} {m : Hnd} (h : m.pl = half c) : ∀ k, numM c T k m = 0
  | 0 => rfl
  | k + 1 => by unfold numM; rw [if_pos h]

theorem stepsM_go {c : ByteArray} {T : Int → ByteArray} {m : Hnd} (h : m.pl ≠ half c) (k : Nat) : numM c T (k + 1) m = numM c T k (stepM c T m) + 1 := by
  show (if m.pl = half c then 0 else numM c T k (stepM c T m) + 1) = _
  rw [if_neg h]

theorem runM_add (c : ByteArray) (T : Int → ByteArray) : ∀ (a b : Nat) (m : Hnd), runM c T (a + b) m = runM c T b (runM c T a m)
  | 0, b, m => by rw [Nat.zero_add]; rfl
  | a + 1, b, m => by
    by_cases h : m.pl = half c
    · rw [runM_end h, runM_end h, runM_end h]
    · rw [show a + 1 + b = (a + b) + 1 from by omega, runM_go h, runM_go h]; exact runM_add c T a b _

theorem stepsM_le (c : ByteArray) (T : Int → ByteArray) : ∀ (k : Nat) (m : Hnd), numM c T k m ≤ k
  | 0, m => Nat.le_refl _
  | k + 1, m => by
    by_cases h : m.pl = half c
    · rw [stepsM_end h]; omega
    · rw [stepsM_go h]; have := stepsM_le c T k (stepM c T m); omega

/-- not at the end: all the fuel is used -/
theorem stepsM_all (c : ByteArray) (T : Int → ByteArray) : ∀ (k : Nat) (m : Hnd), (runM c T k m).pl ≠ half c → numM c T k m = k
  | 0, m, _ => rfl
  | k + 1, m, h => by
    by_cases e : m.pl = half c
    · rw [runM_end e] at h; exact absurd e h
    · rw [runM_go e] at h; rw [stepsM_go e, stepsM_all c T k _ h]

/-- so much fuel is enough -/
theorem runM_steps (c : ByteArray) (T : Int → ByteArray) : ∀ (k : Nat) (m : Hnd), runM c T (numM c T k m) m = runM c T k m
  | 0, m => rfl
  | k + 1, m => by
    by_cases e : m.pl = half c
    · rw [stepsM_end e, runM_end e, runM_end e]
    · rw [stepsM_go e, runM_go e, runM_go e]; exact runM_steps c T k _

/-- and less is not -/
theorem runM_short (c : ByteArray) (T : Int → ByteArray) : ∀ (k : Nat) (m : Hnd) (j : Nat), j < numM c T k m → (runM c T j m).pl ≠ half c
  | 0, m, j, hj => absurd hj (by unfold numM; omega)
  | k + 1, m, j, hj => by
    by_cases e : m.pl = half c
    · rw [stepsM_end e] at hj; omega
    · rw [stepsM_go e] at hj
      match j with
      | 0 => exact e
      | j + 1 => rw [runM_go e]; exact runM_short c T k _ j (by omega)

/-- with more fuel as many are done, if the end was met -/
theorem stepsM_more (c : ByteArray) (T : Int → ByteArray) : ∀ (a b : Nat) (m : Hnd), (runM c T a m).pl = half c → numM c T (a + b) m = numM c T a m
  | 0, b, m, h => by
    have h' : m.pl = half c := h
    rw [stepsM_end h', stepsM_end h']
  | a + 1, b, m, h => by
    by_cases e : m.pl = half c
    · rw [stepsM_end e, stepsM_end e]
    · rw [runM_go e] at h
      rw [show a + 1 + b = (a + b) + 1 from by omega, stepsM_go e, stepsM_go e, stepsM_more c T a b _ h]

/-- tapes that read alike at the levels that there are -/
theorem stepM_tapes {c : ByteArray} {T U : Int → ByteArray} {m : Hnd} (h : bv c (2 * m.pl) = 10 → ∀ k : Nat, bv (T (bv c (2 * m.pl + 1))) k = bv (U (bv c (2 * m.pl + 1))) k) : stepM c T m = stepM c U m := by
  by_cases e : bv c (2 * m.pl) = 10
  · rw [step_10 e, step_10 e, h e]
  · unfold stepM
    split
    · rfl
    split
    · rfl
    split
    · rfl
    split
    · rfl
    split
    · rfl
    first
    | (rw [if_neg e]; split <;> rfl)
    | (split <;> first | rfl | (split <;> rfl))

theorem runM_tapes {c v t : ByteArray} {T U : Int → ByteArray} {n : Int} {h : Nat → Int} (P : Through c v t n h) (hT : ∀ l, Lv n l → ∀ k : Nat, bv (T l) k = bv (U l) k) : ∀ (k : Nat) (m : Hnd), Sound c h m → runM c T k m = runM c U k m ∧ numM c T k m = numM c U k m
  | 0, m, _ => ⟨rfl, rfl⟩
  | k + 1, m, S => by
    by_cases e : m.pl = half c
    · rw [runM_end e, runM_end e, stepsM_end e, stepsM_end e]; exact ⟨rfl, rfl⟩
    · have r1 := S.r1
      have hlt : m.pl < half c := by omega
      have hs : stepM c T m = stepM c U m := stepM_tapes (fun k => hT _ (P.lv m.pl S.r0 hlt (.inl k)))
      rw [runM_go e, runM_go e, stepsM_go e, stepsM_go e, hs]
      have := runM_tapes P hT k (stepM c U m) (step_sound P S hlt).1
      exact ⟨this.1, by rw [this.2]⟩

/-- how a run begins -/
def start : Hnd := ⟨0, 0, fun _ => 0, fun _ => 0, fun _ => 0, fun _ => []⟩

theorem start_sound {c v t : ByteArray} {n : Int} {h : Nat → Int} (P : Through c v t n h) : Sound c h start :=
  ⟨Reach.start rfl (by show (0 : Int) ≠ -1; omega), Int.le_refl _, (half_bd c).1, P.ht.zero.symm⟩

theorem start_same (c v t : ByteArray) (n : Int) (h : Nat → Int) (o : Int) : Same c v t n h o start start :=
  ⟨rfl, ⟨fun _ _ _ _ => rfl, fun _ _ _ => rfl, fun _ _ _ => rfl⟩, fun _ _ _ _ => rfl⟩

/-- all that is on the stack, in a variable or in a log is a value -/
structure Vals (m : Hnd) : Prop where
  st : ∀ d, 0 ≤ m.st d ∧ m.st d ≤ 255
  va : ∀ x, 0 ≤ m.va x ∧ m.va x ≤ 255
  lo : ∀ l x, x ∈ m.lo l → 0 ≤ x ∧ x ≤ 255

theorem start_vals : Vals start := ⟨fun _ => by show (0 : Int) ≤ 0 ∧ (0 : Int) ≤ 255; omega, fun _ => by show (0 : Int) ≤ 0 ∧ (0 : Int) ≤ 255; omega, fun l x hx => absurd hx (by show ¬ x ∈ ([] : List Int); simp)⟩

theorem up_all {p : Int → Prop} {f : Int → Int} {k x : Int} (h : ∀ d, p (f d)) (hx : p x) : ∀ d, p (up f k x d) := fun d => by
  by_cases e : d = k
  · subst e; rw [up_at]; exact hx
  · rw [up_ne e]; exact h d

theorem reckon_val (op a b : Int) : 0 ≤ reckon op a b ∧ reckon op a b ≤ 255 := by
  unfold reckon
  split
  · omega
  split
  · omega
  split
  · have := Int.emod_nonneg (a * b) (show (256 : Int) ≠ 0 by omega)
    have := Int.emod_lt_of_pos (a * b) (show (0 : Int) < 256 by omega)
    omega
  split
  · split <;> omega
  · split <;> omega

theorem step_vals {c : ByteArray} {T : Int → ByteArray} {m : Hnd} (V : Vals m) : Vals (stepM c T m) := by
  have hb : ∀ (s : ByteArray) (k : Int), 0 ≤ bv s k ∧ bv s k ≤ 255 := fun s k => by have := bv_bd s k; omega
  unfold stepM
  split
  · exact ⟨up_all (p := fun x => 0 ≤ x ∧ x ≤ 255) V.st (hb _ _), V.va, V.lo⟩
  split
  · exact ⟨up_all (p := fun x => 0 ≤ x ∧ x ≤ 255) V.st (V.va _), V.va, V.lo⟩
  split
  · exact ⟨V.st, up_all (p := fun x => 0 ≤ x ∧ x ≤ 255) V.va (V.st _), V.lo⟩
  split
  · exact ⟨V.st, V.va, V.lo⟩
  split
  · exact ⟨V.st, V.va, V.lo⟩
  split
  · exact ⟨up_all (p := fun x => 0 ≤ x ∧ x ≤ 255) V.st (hb _ _), V.va, V.lo⟩
  split
  · refine ⟨V.st, V.va, fun l x hx => ?_⟩
    by_cases e : l = bv c (2 * m.pl + 1)
    · subst e
      have hx : x ∈ up m.lo (bv c (2 * m.pl + 1)) (m.lo (bv c (2 * m.pl + 1)) ++ [m.st (m.sp - 1)]) (bv c (2 * m.pl + 1)) := hx
      rw [up_at, List.mem_append, List.mem_singleton] at hx
      rcases hx with hx | hx
      · exact V.lo _ x hx
      · rw [hx]; exact V.st _
    · have hx : x ∈ up m.lo (bv c (2 * m.pl + 1)) (m.lo (bv c (2 * m.pl + 1)) ++ [m.st (m.sp - 1)]) l := hx
      rw [up_ne e] at hx; exact V.lo l x hx
  · exact ⟨up_all (p := fun x => 0 ≤ x ∧ x ≤ 255) V.st (reckon_val _ _ _), V.va, V.lo⟩
end Go.Proofs.Ytcnbifdlkalimaa

/-
  The plain mathematics of files whose variables are numbered otherwise: the same answer; no condition but those that stand in each lemma.
-/
namespace Go.Proofs.Ytcnbifdlkalimaa
open Go.RowKit

/-- the same code, but for how the variables are numbered -/
structure Ren (c d v u : ByteArray) : Prop where
  hf : half d = half c
  op : ∀ i : Int, 0 ≤ i → i < half c → bv d (2 * i) = bv c (2 * i)
  ar : ∀ i : Int, 0 ≤ i → i < half c → ¬ (bv c (2 * i) = 1 ∨ bv c (2 * i) = 2) → bv d (2 * i + 1) = bv c (2 * i + 1)
  va : ∀ i : Int, 0 ≤ i → i < half c → bv c (2 * i) = 1 ∨ bv c (2 * i) = 2 → bv u (bv d (2 * i + 1)) = bv v (bv c (2 * i + 1))

theorem Ren.nxt {c d v u : ByteArray} (H : Ren c d v u) {i : Int} (h0 : 0 ≤ i) (h1 : i < half c) : nxt d i = nxt c i := by
  unfold Go.Proofs.Ytcnbifdlkalimaa.nxt
  rw [H.op i h0 h1]
  by_cases e : bv c (2 * i) = 1 ∨ bv c (2 * i) = 2
  · rw [if_neg (by omega), if_neg (fun k => by have := k.1; omega), if_neg (by omega), if_neg (fun k => by have := k.1; omega)]
  · rw [H.ar i h0 h1 e]

theorem Ren.edge {c d v u : ByteArray} (H : Ren c d v u) : Edge d = Edge c := by
  funext i j
  unfold Edge
  rw [H.hf]
  apply propext
  constructor
  · rintro ⟨a, b, e⟩; exact ⟨a, b, by rwa [H.nxt a b] at e⟩
  · rintro ⟨a, b, e⟩; exact ⟨a, b, by rwa [H.nxt a b]⟩

theorem Ren.reach {c d v u : ByteArray} (H : Ren c d v u) : Reach d = Reach c := by
  funext S w j
  unfold Reach
  rw [H.edge]

theorem Ren.live {c d v u : ByteArray} (H : Ren c d v u) : Live d = Live c := by
  funext i
  unfold Live
  rw [H.reach]

theorem Ren.isJ {c d v u : ByteArray} (H : Ren c d v u) (i j : Int) : IsJ d i j ↔ IsJ c i j := by
  constructor
  · intro k
    refine ⟨k.lo, by rw [← H.hf]; exact k.hi, k.ne, fun h => k.on (by rw [H.reach, H.hf]; exact h), fun b b0 b1 b2 b3 b4 b5 => k.first b b0 (by rw [H.hf]; exact b1) b2 b3 (fun h => b4 (by rw [H.reach, H.hf] at h; exact h)) (by rw [H.reach]; exact b5)⟩
  · intro k
    refine ⟨k.lo, by rw [H.hf]; exact k.hi, k.ne, fun h => k.on (by rw [H.reach, H.hf] at h; exact h), fun b b0 b1 b2 b3 b4 b5 => k.first b b0 (by rw [← H.hf]; exact b1) b2 b3 (fun h => b4 (by rw [H.reach, H.hf]; exact h)) (by rw [H.reach] at b5; exact b5)⟩

theorem Ren.reg {c d v u : ByteArray} (H : Ren c d v u) {i : Int} (h0 : 0 ≤ i) (h1 : i < half c) (p : Int) : Reg d i p ↔ Reg c i p := by
  unfold Reg
  rw [H.nxt h0 h1, H.reach]
  constructor
  · rintro ⟨j, a, b⟩; exact ⟨j, (H.isJ i j).1 a, b⟩
  · rintro ⟨j, a, b⟩; exact ⟨j, (H.isJ i j).2 a, b⟩

theorem Ren.takes {c d v u : ByteArray} (H : Ren c d v u) {i : Int} (h0 : 0 ≤ i) (h1 : i < half c) : takesAt d i = takesAt c i := by unfold takesAt; rw [H.op i h0 h1]
theorem Ren.gives {c d v u : ByteArray} (H : Ren c d v u) {i : Int} (h0 : 0 ≤ i) (h1 : i < half c) : givesAt d i = givesAt c i := by unfold givesAt; rw [H.op i h0 h1]

theorem Ren.heights {c d v u : ByteArray} (H : Ren c d v u) {h : Nat → Int} (K : HeightsOk c h) : HeightsOk d h := by
  refine ⟨K.zero, fun i hi hl => K.rng i (by rw [← H.hf]; exact hi) (by rw [← H.live]; exact hl), fun hl => by rw [H.hf]; exact K.fin (by rw [H.live, H.hf] at hl; exact hl), fun i hi hl => ?_, fun i hi hl j hj => ?_⟩
  · rw [H.hf] at hi
    rw [H.takes (by omega) hi]
    exact K.pops i hi (by rw [← H.live]; exact hl)
  · rw [H.hf] at hi
    rw [H.takes (by omega) hi, H.gives (by omega) hi]
    exact K.step i hi (by rw [← H.live]; exact hl) j (by rw [← H.nxt (by omega) hi]; exact hj)

theorem Ren.fcl {c d v u : ByteArray} (H : Ren c d v u) {h : Nat → Int} {a : Int} {P : Int → Int → Prop} (K : FCl c v h a P) : FCl d u h a P := by
  refine ⟨fun i j e hl he h0 h1 hp => ?_, fun i j hl he hg hs => ?_, fun i p hl h0 h1 h9 hp hR p0 p1 => ?_⟩
  · rw [H.live] at hl
    rw [H.edge] at he
    rw [H.takes he.1 he.2.1] at h1
    exact K.stay i j e hl he h0 h1 hp
  · rw [H.live] at hl
    rw [H.edge] at he
    rw [H.gives he.1 he.2.1] at hg
    rw [H.takes he.1 he.2.1]
    refine K.push i j hl he hg ?_
    unfold SrcOf at hs ⊢
    rw [H.op i he.1 he.2.1] at hs
    rcases hs with k | ⟨k, k2⟩ | ⟨k, k2⟩ | k
    · exact .inl k
    · exact .inr (.inl ⟨k, by rw [← H.va i he.1 he.2.1 (.inl k)]; exact k2⟩)
    · exact .inr (.inr (.inl ⟨k, by rw [← H.ar i he.1 he.2.1 (by omega)]; exact k2⟩))
    · exact .inr (.inr (.inr k))
  · rw [H.live] at hl
    rw [H.hf] at h1 p1
    rw [H.op i h0 h1] at h9
    exact K.hide i p hl h0 h1 h9 hp ((H.reg h0 h1 p).1 hR) p0 p1

theorem Ren.symm {c d v u : ByteArray} (H : Ren c d v u) : Ren d c u v :=
  ⟨H.hf.symm, fun i h0 h1 => (H.op i h0 (by rw [← H.hf]; exact h1)).symm, fun i h0 h1 k => (H.ar i h0 (by rw [← H.hf]; exact h1) (by rw [← H.op i h0 (by rw [← H.hf]; exact h1)]; exact k)).symm, fun i h0 h1 k => (H.va i h0 (by rw [← H.hf]; exact h1) (by rw [← H.op i h0 (by rw [← H.hf]; exact h1)]; exact k)).symm⟩

theorem Ren.flow {c d v u : ByteArray} (H : Ren c d v u) {h : Nat → Int} {a p e : Int} (K : Flow c v h a p e) : Flow d u h a p e := fun P hP => K P (H.symm.fcl hP)

theorem Ren.sinkTo {c d v u : ByteArray} (H : Ren c d v u) {i : Int} (h0 : 0 ≤ i) (h1 : i < half c) : sinkTo d u i = sinkTo c v i := by
  unfold Go.Proofs.Ytcnbifdlkalimaa.sinkTo
  rw [H.op i h0 h1]
  by_cases e : bv c (2 * i) = 2
  · rw [if_pos e, if_pos e, H.va i h0 h1 (.inr e)]
  · rw [if_neg e, if_neg e]
    by_cases e2 : bv c (2 * i) = 10 ∨ bv c (2 * i) = 11
    · rw [if_pos e2, if_pos e2, H.ar i h0 h1 (by omega)]
    · rw [if_neg e2, if_neg e2]

theorem Ren.breaks {c d v u t : ByteArray} {n : Int} (H : Ren c d v u) {h : Nat → Int} {i : Int} (K : Breaks c v t n h i) : Breaks d u t n h i := by
  obtain ⟨⟨h0, h1⟩, hl, hs, a, ha, hle, hf⟩ := K
  refine ⟨⟨h0, by rw [H.hf]; exact h1⟩, by rw [H.live]; exact hl, by rw [H.sinkTo h0 h1]; exact hs, a, ha, by rw [H.sinkTo h0 h1]; exact hle, ?_⟩
  rcases hf with hf | ⟨hv, hf⟩
  · exact .inl (H.flow hf)
  · exact .inr ⟨by unfold sinkVal at hv ⊢; rw [H.op i h0 h1]; exact hv, H.flow hf⟩

theorem Ren.trap {c d v u : ByteArray} (H : Ren c d v u) {i : Int} (K : Trap c i) : Trap d i :=
  ⟨⟨K.1.1, by rw [H.hf]; exact K.1.2⟩, by rw [H.live]; exact K.2.1, by rw [H.reach, H.hf]; exact K.2.2⟩

/-- the same answer -/
theorem Ren.code {c d v u t : ByteArray} {n p e : Int} (H : Ren c d v u) (K : CodeIs c v t n p e) : CodeIs d u t n p e := by
  rcases K with ⟨a, b, k⟩ | ⟨nt, K⟩
  · exact .inl ⟨a, H.trap b, fun q hq ht => k q hq (H.symm.trap ht)⟩
  · refine .inr ⟨fun q ht => nt q (H.symm.trap ht), ?_⟩
    rcases K with ⟨a, b, k⟩ | ⟨h, hh, K⟩
    · exact .inl ⟨a, b, fun ⟨h, hh⟩ => k ⟨h, H.symm.heights hh⟩⟩
    · refine .inr ⟨h, H.heights hh, ?_⟩
      rcases K with ⟨a, b, k⟩ | ⟨a, b, k⟩
      · exact .inl ⟨a, H.breaks b, fun q hq hb => k q hq (H.symm.breaks hb)⟩
      · exact .inr ⟨a, b, fun q hb => k q (H.symm.breaks hb)⟩
end Go.Proofs.Ytcnbifdlkalimaa

/-
  The plain mathematics of runs of files whose variables are numbered otherwise: they run alike; no condition but those that stand in each lemma.
-/
namespace Go.Proofs.Ytcnbifdlkalimaa
open Go.RowKit

/-- how the variables are numbered otherwise: variable x is f x -/
structure RenF (c d v u : ByteArray) (f : Int → Int) : Prop where
  r : Ren c d v u
  to : ∀ i : Int, 0 ≤ i → i < half c → bv c (2 * i) = 1 ∨ bv c (2 * i) = 2 → bv d (2 * i + 1) = f (bv c (2 * i + 1))
  rg : ∀ i : Int, 0 ≤ i → i < half c → bv c (2 * i) = 1 ∨ bv c (2 * i) = 2 → bv c (2 * i + 1) < v.size
  inj : ∀ x y : Int, 0 ≤ x → x < v.size → 0 ≤ y → y < v.size → f x = f y → x = y

/-- two hands that differ in how the variables are numbered -/
structure Twin (v : ByteArray) (f : Int → Int) (m k : Hnd) : Prop where
  pl : m.pl = k.pl
  sp : m.sp = k.sp
  st : m.st = k.st
  po : m.po = k.po
  lo : m.lo = k.lo
  va : ∀ x : Int, 0 ≤ x → x < v.size → k.va (f x) = m.va x

theorem step_twin {c d v u : ByteArray} {f : Int → Int} {T : Int → ByteArray} {m k : Hnd} (R : RenF c d v u f) (h0 : 0 ≤ m.pl) (h1 : m.pl < half c) (h11 : bv c (2 * m.pl) ≤ 11) (H : Twin v f m k) : Twin v f (stepM c T m) (stepM d T k) := by
  have g0 := (bv_bd c (2 * m.pl)).1
  have hop : bv d (2 * k.pl) = bv c (2 * m.pl) := by rw [← H.pl]; exact R.r.op m.pl h0 h1
  have har : ¬ (bv c (2 * m.pl) = 1 ∨ bv c (2 * m.pl) = 2) → bv d (2 * k.pl + 1) = bv c (2 * m.pl + 1) := fun e => by rw [← H.pl]; exact R.r.ar m.pl h0 h1 e
  have hto : bv c (2 * m.pl) = 1 ∨ bv c (2 * m.pl) = 2 → bv d (2 * k.pl + 1) = f (bv c (2 * m.pl + 1)) := fun e => by rw [← H.pl]; exact R.to m.pl h0 h1 e
  have hb := (bv_bd c (2 * m.pl + 1)).1
  have hcs : bv c (2 * m.pl) = 0 ∨ bv c (2 * m.pl) = 1 ∨ bv c (2 * m.pl) = 2 ∨ (3 ≤ bv c (2 * m.pl) ∧ bv c (2 * m.pl) ≤ 7) ∨ bv c (2 * m.pl) = 8 ∨ bv c (2 * m.pl) = 9 ∨ bv c (2 * m.pl) = 10 ∨ bv c (2 * m.pl) = 11 := by omega
  rcases hcs with z | z | z | z | z | z | z | z
  · rw [step_0 z, step_0 (by rw [hop]; exact z), har (by omega)]
    exact ⟨by show m.pl + 1 = k.pl + 1; rw [H.pl], by show m.sp + 1 = k.sp + 1; rw [H.sp], by show up m.st m.sp _ = up k.st k.sp _; rw [H.st, H.sp], H.po, H.lo, H.va⟩
  · have hr := R.rg m.pl h0 h1 (.inl z)
    rw [step_1 z, step_1 (by rw [hop]; exact z), hto (.inl z), H.va _ hb hr]
    exact ⟨by show m.pl + 1 = k.pl + 1; rw [H.pl], by show m.sp + 1 = k.sp + 1; rw [H.sp], by show up m.st m.sp _ = up k.st k.sp _; rw [H.st, H.sp], H.po, H.lo, H.va⟩
  · have hr := R.rg m.pl h0 h1 (.inr z)
    rw [step_2 z, step_2 (by rw [hop]; exact z), hto (.inr z)]
    refine ⟨by show m.pl + 1 = k.pl + 1; rw [H.pl], by show m.sp - 1 = k.sp - 1; rw [H.sp], H.st, H.po, H.lo, fun x x0 x1 => ?_⟩
    show up k.va _ _ (f x) = up m.va _ _ x
    by_cases e : x = bv c (2 * m.pl + 1)
    · subst e; rw [up_at, up_at, H.st, H.sp]
    · rw [up_ne e, up_ne (fun q => e (R.inj _ _ x0 x1 hb hr q))]; exact H.va x x0 x1
  · rw [step_two z, step_two (by rw [hop]; exact z), hop]
    exact ⟨by show m.pl + 1 = k.pl + 1; rw [H.pl], by show m.sp - 1 = k.sp - 1; rw [H.sp], by show up m.st (m.sp - 2) _ = up k.st (k.sp - 2) _; rw [H.st, H.sp], H.po, H.lo, H.va⟩
  · rw [step_8 z, step_8 (by rw [hop]; exact z), har (by omega)]
    exact ⟨rfl, H.sp, H.st, H.po, H.lo, H.va⟩
  · rw [step_9 z, step_9 (by rw [hop]; exact z), har (by omega)]
    exact ⟨by show (if m.st (m.sp - 1) = 0 then _ else m.pl + 1) = (if k.st (k.sp - 1) = 0 then _ else k.pl + 1); rw [H.st, H.sp, H.pl], by show m.sp - 1 = k.sp - 1; rw [H.sp], H.st, H.po, H.lo, H.va⟩
  · rw [step_10 z, step_10 (by rw [hop]; exact z), har (by omega)]
    exact ⟨by show m.pl + 1 = k.pl + 1; rw [H.pl], by show m.sp + 1 = k.sp + 1; rw [H.sp], by show up m.st m.sp _ = up k.st k.sp _; rw [H.st, H.sp, H.po], by show up m.po _ _ = up k.po _ _; rw [H.po], H.lo, H.va⟩
  · rw [step_11 z, step_11 (by rw [hop]; exact z), har (by omega)]
    exact ⟨by show m.pl + 1 = k.pl + 1; rw [H.pl], by show m.sp - 1 = k.sp - 1; rw [H.sp], H.st, H.po, by show up m.lo _ _ = up k.lo _ _; rw [H.lo, H.st, H.sp], H.va⟩

theorem run_twin {c d v u t : ByteArray} {n : Int} {h : Nat → Int} {f : Int → Int} {T : Int → ByteArray} (P : Through c v t n h) (R : RenF c d v u f) : ∀ (j : Nat) (m k : Hnd), Sound c h m → Twin v f m k → Twin v f (runM c T j m) (runM d T j k) ∧ numM c T j m = numM d T j k
  | 0, m, k, _, H => ⟨H, rfl⟩
  | j + 1, m, k, S, H => by
    by_cases e : m.pl = half c
    · have e2 : k.pl = half d := by rw [← H.pl, R.r.hf]; exact e
      rw [runM_end e, runM_end e2, stepsM_end e, stepsM_end e2]
      exact ⟨H, rfl⟩
    · have e2 : k.pl ≠ half d := by rw [← H.pl, R.r.hf]; exact e
      have r1 := S.r1
      have hlt : m.pl < half c := by omega
      rw [runM_go e, runM_go e2, stepsM_go e, stepsM_go e2]
      have := run_twin (T := T) P R j _ _ (step_sound (T := T) P S hlt).1 (step_twin (T := T) R S.r0 hlt (P.ops m.pl S.r0 hlt) H)
      exact ⟨this.1, by rw [this.2]⟩
end Go.Proofs.Ytcnbifdlkalimaa

/-
  The plain mathematics of what a run tells: logs of levels that there are not stay empty, what is told is made of values; no condition but those that stand in each lemma.
-/
namespace Go.Proofs.Ytcnbifdlkalimaa
open Go.RowKit

theorem step_none {c v t : ByteArray} {T : Int → ByteArray} {n : Int} {h : Nat → Int} {m : Hnd} {l : Int} (P : Through c v t n h) (S : Sound c h m) (hlt : m.pl < half c) (hl : ¬ Lv n l) : (stepM c T m).lo l = m.lo l := by
  by_cases e : bv c (2 * m.pl) = 11
  · rw [step_11 e]
    exact up_ne (fun k => hl (by rw [k]; exact P.lv m.pl S.r0 hlt (.inr e)))
  · have h11 := P.ops m.pl S.r0 hlt
    have h0 := (bv_bd c (2 * m.pl)).1
    have hcs : bv c (2 * m.pl) = 0 ∨ bv c (2 * m.pl) = 1 ∨ bv c (2 * m.pl) = 2 ∨ (3 ≤ bv c (2 * m.pl) ∧ bv c (2 * m.pl) ≤ 7) ∨ bv c (2 * m.pl) = 8 ∨ bv c (2 * m.pl) = 9 ∨ bv c (2 * m.pl) = 10 := by omega
    rcases hcs with z | z | z | z | z | z | z
    · rw [step_0 z]
    · rw [step_1 z]
    · rw [step_2 z]
    · rw [step_two z]
    · rw [step_8 z]
    · rw [step_9 z]
    · rw [step_10 z]

/-- all that is kept along a run -/
theorem run_keeps {c v t : ByteArray} {T : Int → ByteArray} {n : Int} {h : Nat → Int} (P : Through c v t n h) : ∀ (k : Nat) (m : Hnd), Sound c h m → Vals m → Sound c h (runM c T k m) ∧ Vals (runM c T k m) ∧ ∀ l, ¬ Lv n l → (runM c T k m).lo l = m.lo l
  | 0, m, S, V => ⟨S, V, fun _ _ => rfl⟩
  | k + 1, m, S, V => by
    by_cases e : m.pl = half c
    · rw [runM_end e]; exact ⟨S, V, fun _ _ => rfl⟩
    · have r1 := S.r1
      have hlt : m.pl < half c := by omega
      rw [runM_go e]
      obtain ⟨a, b, d⟩ := run_keeps (T := T) P k _ (step_sound (T := T) P S hlt).1 (step_vals (c := c) (T := T) V)
      exact ⟨a, b, fun l hl => (d l hl).trans (step_none P S hlt hl)⟩

/-- what Run tells: the end or not, how many steps, the logs, the variables -/
structure RunIs (c v : ByteArray) (T : Int → ByteArray) (fuel : Nat) (en steps : Int) (logs : Int → List Int) (vars : Int → Int) : Prop where
  en : en = if (runM c T fuel start).pl = half c then 1 else 2
  steps : steps = numM c T fuel start
  logs : ∀ l, logs l = (runM c T fuel start).lo l
  vars : ∀ x : Int, 0 ≤ x → x < v.size → vars x = (runM c T fuel start).va x

/-- it is determined -/
theorem RunIs.one {c v : ByteArray} {T : Int → ByteArray} {fuel : Nat} {en en' steps steps' : Int} {logs logs' : Int → List Int} {vars vars' : Int → Int} (H : RunIs c v T fuel en steps logs vars) (K : RunIs c v T fuel en' steps' logs' vars') : en = en' ∧ steps = steps' ∧ (∀ l, logs l = logs' l) ∧ ∀ x : Int, 0 ≤ x → x < v.size → vars x = vars' x :=
  ⟨H.en.trans K.en.symm, H.steps.trans K.steps.symm, fun l => (H.logs l).trans (K.logs l).symm, fun x a b => (H.vars x a b).trans (K.vars x a b).symm⟩

/-- the document's promise of secrecy, of what Run tells -/
theorem RunIs.secret {c v t : ByteArray} {n : Int} {h : Nat → Int} {o : Int} {T U : Int → ByteArray} {f g : Nat} {en en' steps steps' : Int} {logs logs' : Int → List Int} {vars vars' : Int → Int} (P : Through c v t n h) (ho : Lv n o) (hT : ∀ l, Lv n l → le t n l o = true → T l = U l)
    (H : RunIs c v T f en steps logs vars) (K : RunIs c v U g en' steps' logs' vars') :
    (∀ l, Lv n l → le t n l o = true → (∃ e, logs l = logs' l ++ e) ∨ (∃ e, logs' l = logs l ++ e)) ∧
    (en = 1 → en' = 1 → (∀ l, Lv n l → le t n l o = true → logs l = logs' l) ∧ ∀ x : Int, 0 ≤ x → x < v.size → le t n (bv v x) o = true → vars x = vars' x) := by
  have B := blind_run P ho hT (f + g) f g (Nat.le_refl _) start start (start_sound P) (start_sound P) (start_same c v t n h o)
  refine ⟨fun l a b => by rw [H.logs l, K.logs l]; exact B.logs l a b, fun e1 e2 => ?_⟩
  have a1 : (runM c T f start).pl = half c := Classical.byContradiction fun k => by have := H.en; rw [if_neg k] at this; omega
  have a2 : (runM c U g start).pl = half c := Classical.byContradiction fun k => by have := K.en; rw [if_neg k] at this; omega
  have A := B.both a1 a2
  exact ⟨fun l a b => by rw [H.logs l, K.logs l]; exact A.lo l a b, fun x x0 x1 hx => by rw [H.vars x x0 x1, K.vars x x0 x1]; exact A.va x x0 x1 hx⟩
end Go.Proofs.Ytcnbifdlkalimaa

/-
  The plain mathematics of what a run tells, as texts: values as bytes, a stack as a text, the rest of a tape; no condition but those that stand in each lemma.
-/
namespace Go.Proofs.Ytcnbifdlkalimaa
open Go.RowKit

/-- the first values of a function -/
def lst (f : Int → Int) (k : Nat) : List Int := (List.range k).map fun i => f (i : Nat)
theorem lst_len (f : Int → Int) (k : Nat) : (lst f k).length = k := by simp [lst]
theorem lst_succ (f : Int → Int) (k : Nat) : lst f (k + 1) = lst f k ++ [f k] := by
  unfold lst; rw [List.range_succ]; simp
theorem lst_congr {f g : Int → Int} {k : Nat} (h : ∀ i : Nat, i < k → f i = g i) : lst f k = lst g k := by
  unfold lst
  apply List.map_congr_left
  intro i hi
  exact h i (List.mem_range.1 hi)
theorem lst_get {f : Int → Int} {k i : Nat} (h : i < k) : (lst f k)[i]? = some (f i) := by
  unfold lst; simp [h]

/-- the stack as a text -/
def stk (st : Int → Int) (sp : Int) : ByteArray := bs (lst st sp.toNat)
theorem stk_size (st : Int → Int) (sp : Int) : (stk st sp).size = sp.toNat := by unfold stk; rw [bs_size, lst_len]
theorem stk_push {st : Int → Int} {sp : Int} (x : Int) (h : 0 ≤ sp) : stk (up st sp x) (sp + 1) = stk st sp ++ bs [x] := by
  unfold stk
  rw [show (sp + 1).toNat = sp.toNat + 1 from by omega, lst_succ, bs_append, show ((sp.toNat : Nat) : Int) = sp from by omega, up_at]
  congr 2
  exact lst_congr fun i hi => up_ne (by omega)
theorem stk_zero (st : Int → Int) : stk st 0 = { data := #[] } := rfl

theorem ext_left (a b : ByteArray) : (a ++ b).extract 0 a.size = a := by
  apply ByteArray.ext
  rw [ByteArray.data_extract, ByteArray.data_append]
  show (a.data ++ b.data).extract 0 a.data.size = a.data
  simp

theorem stk_pop {st : Int → Int} {sp : Int} (h : 1 ≤ sp) : (stk st sp).extract 0 (sp - 1).toNat = stk st (sp - 1) := by
  have e : stk st sp = stk st (sp - 1) ++ bs [st (sp - 1)] := by
    have := stk_push (st := st) (sp := sp - 1) (st (sp - 1)) (by omega)
    rw [show sp - 1 + 1 = sp from by omega] at this
    rw [← this]
    unfold stk
    congr 1
    exact lst_congr fun i hi => by
      by_cases k : (i : Int) = sp - 1
      · rw [k, up_at]
      · rw [up_ne k]
  rw [e]
  have := ext_left (stk st (sp - 1)) (bs [st (sp - 1)])
  rw [stk_size] at this
  exact this
theorem stk_top {st : Int → Int} {sp : Int} {k : Int} (h0 : 0 ≤ k) (h : k < sp) (hv : 0 ≤ st k ∧ st k ≤ 255) : bv (stk st sp) k = st k := by
  have e : ((k.toNat : Nat) : Int) = k := by omega
  have := bv_bs (L := lst st sp.toNat) (k := k.toNat) (x := st k) (by rw [lst_get (by omega), e]) hv.1 hv.2
  rw [e] at this
  exact this
theorem stk_congr {st st' : Int → Int} {sp : Int} (h : ∀ d, 0 ≤ d → d < sp → st d = st' d) : stk st sp = stk st' sp := by
  unfold stk
  congr 1
  exact lst_congr fun i hi => h i (by omega) (by omega)
theorem stk_two {st : Int → Int} {sp : Int} (x : Int) (h : 2 ≤ sp) : (stk st sp).extract 0 (sp - 2).toNat ++ bs [x] = stk (up st (sp - 2) x) (sp - 1) := by
  have a := stk_push (st := st) (sp := sp - 2) x (by omega)
  rw [show sp - 2 + 1 = sp - 1 from by omega] at a
  rw [a]
  congr 1
  have b := stk_pop (st := st) (sp := sp) (by omega)
  have c := stk_pop (st := st) (sp := sp - 1) (by omega)
  rw [← b] at c
  rw [show sp - 1 - 1 = sp - 2 from by omega] at c
  rw [← c, ByteArray.extract_extract]
  congr 1
  omega

/-- the rest of a tape -/
theorem tl_tl (s : ByteArray) (k : Nat) : tl (tl s k) 1 = tl s ((k + 1 : Nat) : Int) := by
  unfold tl
  rw [ByteArray.extract_extract]
  congr 1
  have : (s.extract (k : Int).toNat s.size).size = s.size - k := by rw [ByteArray.size_extract]; simp
  rw [this]
  omega
theorem bv_over {s : ByteArray} {k : Int} (h : (s.size : Int) ≤ k) : bv s k = 0 := by
  unfold bv byt
  have : s.data.toList.length = s.size := by simp
  rw [List.getD, List.getElem?_eq_none (by rw [this]; omega)]
  rfl
theorem bv_tl {s : ByteArray} {k : Nat} (h : k < s.size) : bv (tl s k) 0 = bv s k := by
  unfold bv tl
  have := byt_cut s k s.size 0 (Nat.le_refl _) (by omega)
  simp at this ⊢
  rw [this]
theorem tl_over {s : ByteArray} {k : Nat} (h : s.size ≤ k) : tl s k = { data := #[] } := by
  apply ByteArray.ext
  unfold tl
  rw [ByteArray.data_extract]
  have : s.data.size ≤ k := h
  simp
  omega
theorem tl_zero (s : ByteArray) : tl s 0 = s := by
  unfold tl
  simp
theorem tl_size_nat (s : ByteArray) (k : Nat) : (tl s k).size = s.size - k := by
  unfold tl; rw [ByteArray.size_extract]; simp

/-- what Run tells, whole -/
def endOf (c : ByteArray) (T : Int → ByteArray) (f : Nat) : Int := if (runM c T f start).pl = half c then 1 else 2
def logOf (c : ByteArray) (T : Int → ByteArray) (f : Nat) (l : Int) : ByteArray := bs ((runM c T f start).lo l)
def varsOf (c v : ByteArray) (T : Int → ByteArray) (f : Nat) : ByteArray := bs (lst (runM c T f start).va v.size)
def cntOf (c : ByteArray) (T : Int → ByteArray) (f : Nat) : Int := (numM c T f start : Nat)

/-- as a value -/
def resV (c v : ByteArray) (T : Int → ByteArray) (f : Nat) : Value := .agg #[.int .i64 (endOf c T f), .int .i64 (cntOf c T f), .string (logOf c T f 0), .string (logOf c T f 1), .string (logOf c T f 2), .string (logOf c T f 3), .string (logOf c T f 4), .string (logOf c T f 5), .string (varsOf c v T f)]
def resZ : Value := .agg #[.int .i64 0, .int .i64 0, .string { data := #[] }, .string { data := #[] }, .string { data := #[] }, .string { data := #[] }, .string { data := #[] }, .string { data := #[] }, .string { data := #[] }]

/-- tapes as a value -/
def tapV (T : Int → ByteArray) : Value := .agg #[.string (T 0), .string (T 1), .string (T 2), .string (T 3), .string (T 4), .string (T 5)]

/-- how long a log gets -/
theorem step_len (c : ByteArray) (T : Int → ByteArray) (m : Hnd) (l : Int) : ((stepM c T m).lo l).length ≤ (m.lo l).length + 1 := by
  unfold stepM
  split
  · show (m.lo l).length ≤ _; omega
  split
  · show (m.lo l).length ≤ _; omega
  split
  · show (m.lo l).length ≤ _; omega
  split
  · show (m.lo l).length ≤ _; omega
  split
  · show (m.lo l).length ≤ _; omega
  split
  · show (m.lo l).length ≤ _; omega
  split
  · show (up m.lo (bv c (2 * m.pl + 1)) (m.lo (bv c (2 * m.pl + 1)) ++ [m.st (m.sp - 1)]) l).length ≤ _
    by_cases e : l = bv c (2 * m.pl + 1)
    · subst e; rw [up_at]; simp
    · rw [up_ne e]; omega
  · show (m.lo l).length ≤ _; omega

theorem run_len (c : ByteArray) (T : Int → ByteArray) (l : Int) : ∀ (k : Nat) (m : Hnd), ((runM c T k m).lo l).length ≤ (m.lo l).length + k
  | 0, m => Nat.le_refl _
  | k + 1, m => by
    by_cases e : m.pl = half c
    · rw [runM_end e]; omega
    · rw [runM_go e]
      have a := run_len c T l k (stepM c T m)
      have b := step_len c T m l
      omega

/-- a run cut at any step -/
theorem runM_last {c : ByteArray} {T : Int → ByteArray} {k : Nat} {m : Hnd} (h : (runM c T k m).pl ≠ half c) : runM c T (k + 1) m = stepM c T (runM c T k m) := by
  rw [runM_add c T k 1 m, runM_go h]
  rfl
theorem numM_last {c : ByteArray} {T : Int → ByteArray} {k : Nat} {m : Hnd} (h : (runM c T k m).pl = half c) (f : Nat) (hk : k ≤ f) : runM c T f m = runM c T k m ∧ numM c T f m = numM c T k m := by
  have e : f = k + (f - k) := by omega
  constructor
  · rw [e, runM_add, runM_end h]
  · rw [e, stepsM_more c T k (f - k) m h]
end Go.Proofs.Ytcnbifdlkalimaa
