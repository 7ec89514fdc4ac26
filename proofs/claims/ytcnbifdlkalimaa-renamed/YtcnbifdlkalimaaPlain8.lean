/-
  The plain mathematics of ways to the end: a way for each place, narrowed until it has just the places that are on every path; that the narrowing ends; no condition but those that stand in each lemma.
-/
import Derived.Test.YtcnbifdlkalimaaPlain6
namespace Go.Proofs.Ytcnbifdlkalimaa
open Go.RowKit

def upd (f : Int → Int) (p v : Int) : Int → Int := fun x => if x = p then v else f x
theorem upd_at (f : Int → Int) (p v : Int) : upd f p v p = v := if_pos rfl
theorem upd_ne {f : Int → Int} {p v x : Int} (h : x ≠ p) : upd f p v x = f x := if_neg h
theorem upd_same {f : Int → Int} {p v : Int} (h : v = f p) : upd f p v = f := by
  funext x
  by_cases e : x = p
  · rw [e, upd_at, h]
  · rw [upd_ne e]

/-- d is on the way that goes from x along a -/
def OnWay (c : ByteArray) (a : Int → Int) (x d : Int) : Prop := ∀ P : Int → Prop, P x → (∀ y, P y → y ≠ half c → P (a y)) → P d

theorem OnWay.refl (c : ByteArray) (a : Int → Int) (x : Int) : OnWay c a x x := fun _ h _ => h
theorem OnWay.snoc {c : ByteArray} {a : Int → Int} {x y : Int} (h : OnWay c a x y) (hy : y ≠ half c) : OnWay c a x (a y) := fun P h0 h1 => h1 y (h P h0 h1) hy
theorem OnWay.trans {c : ByteArray} {a : Int → Int} {x y z : Int} (h : OnWay c a x y) (k : OnWay c a y z) : OnWay c a x z :=
  k (fun z => OnWay c a x z) h (fun _ hy hne => hy.snoc hne)
theorem OnWay.head {c : ByteArray} {a : Int → Int} {x d : Int} (hx : x ≠ half c) (h : OnWay c a (a x) d) : OnWay c a x d := ((OnWay.refl c a x).snoc hx).trans h
theorem OnWay.cases {c : ByteArray} {a : Int → Int} {x d : Int} (h : OnWay c a x d) : d = x ∨ (x ≠ half c ∧ OnWay c a (a x) d) :=
  h (fun d => d = x ∨ (x ≠ half c ∧ OnWay c a (a x) d)) (.inl rfl) (fun y hy hne => by
    rcases hy with rfl | ⟨hx, hy⟩
    · exact .inr ⟨hne, OnWay.refl _ _ _⟩
    · exact .inr ⟨hx, hy.snoc hne⟩)

/-- what is kept of the ways -/
structure WOk (c : ByteArray) (t a : Int → Int) : Prop where
  nn : ∀ x, 0 ≤ t x
  fin : t (half c) = 1
  pos : ∀ x, 0 < t x → 0 ≤ x ∧ x ≤ half c
  inj : ∀ x y, 0 < t x → t x = t y → x = y
  down : ∀ x, 0 < t x → x ≠ half c → 0 < t (a x) ∧ t (a x) < t x
  edge : ∀ x, 0 < t x → x ≠ half c → ∃ q, q ∈ nxt c x ∧ 0 < t q ∧ t q < t x
  via : ∀ x d, 0 < t x → x ≠ half c → d ≠ x → t d < t (a x) → Reach c (One x) d (a x)
  dom : ∀ x d, 0 < t x → x ≠ half c → d ≠ x → OnAll c x d → d = a x ∨ t d < t (a x)
  lone : ∀ x q, 0 < t x → x ≠ half c → q ∈ nxt c x → t q = 0 → a x ∈ nxt c x
  full : ∀ x q, 0 ≤ x → x < half c → q ∈ nxt c x → 0 < t q → 0 < t x
  ends : ∀ x, 0 < t x → Reach c (One x) (-1) (half c)

theorem way_pos {c : ByteArray} {t a : Int → Int} (H : WOk c t a) {x d : Int} (hx : 0 < t x) (h : OnWay c a x d) : 0 < t d ∧ (d = x ∨ t d < t x) :=
  h (fun d => 0 < t d ∧ (d = x ∨ t d < t x)) ⟨hx, .inl rfl⟩ (fun y hy hne => by
    have hd := H.down y hy.1 hne
    refine ⟨hd.1, .inr ?_⟩
    rcases hy.2 with rfl | h2
    · exact hd.2
    · omega)

theorem way_le {c : ByteArray} {t a : Int → Int} (H : WOk c t a) {x d : Int} (hx : 0 < t x) (h : OnWay c a x d) : t d ≤ t x := by
  rcases (way_pos H hx h).2 with rfl | h2
  · exact Int.le_refl _
  · omega

theorem way_via {c : ByteArray} {t a : Int → Int} (H : WOk c t a) {x y d : Int} (hx : 0 < t x) (h : OnWay c a x y) (hd : d ≠ x) (hlt : t d < t y) : Reach c (One x) d y :=
  (h (fun y => 0 < t y ∧ (t d < t y → Reach c (One x) d y)) ⟨hx, fun _ => Reach.start rfl (fun e => hd e.symm)⟩ (fun y hy hne => by
    have hdn := H.down y hy.1 hne
    refine ⟨hdn.1, fun hl => ?_⟩
    exact (hy.2 (by omega)).trans (H.via y d hy.1 hne (fun e => by subst e; omega) hl))).2 hlt

/-- what lies on every path is on the way -/
theorem on_way {c : ByteArray} {t a : Int → Int} (H : WOk c t a) : ∀ n : Nat, ∀ x d : Int, t x ≤ n → 0 < t x → d ≠ x → OnAll c x d → OnWay c a x d := by
  intro n
  induction n with
  | zero => intro x d h1 h2; omega
  | succ n ih =>
    intro x d h1 h2 hne hon
    by_cases hK : x = half c
    · exact absurd (Reach.start (c := c) (S := One x) (wall := d) (i := half c) hK.symm (fun e => hne (by rw [hK]; exact e.symm))) hon
    · have hdn := H.down x h2 hK
      rcases H.dom x d h2 hK hne hon with rfl | hlt
      · exact (OnWay.refl _ _ _).snoc hK
      · refine OnWay.head hK (ih (a x) d (by omega) hdn.1 (fun e => by rw [e] at hlt; omega) (fun hR => hon ?_))
        exact (H.via x d h2 hK hne hlt).trans hR

theorem onall_step {c : ByteArray} {x q d : Int} (h0 : 0 ≤ x) (h1 : x < half c) (hon : OnAll c x d) (hne : d ≠ x) (hq : q ∈ nxt c x) : q = d ∨ OnAll c q d := by
  by_cases e : q = d
  · exact .inl e
  · exact .inr (fun hR => hon (((Reach.start (S := One x) rfl (fun e => hne e.symm)).step ⟨h0, h1, hq⟩ e).trans hR))

theorem nxt_some (c : ByteArray) (x : Int) : ∃ q, q ∈ nxt c x := by
  unfold nxt
  split
  · exact ⟨_, List.mem_singleton.2 rfl⟩
  · split
    · exact ⟨x + 1, by simp⟩
    · exact ⟨x + 1, by simp⟩

/-- m is where the ways of the places behind x meet -/
structure MeetAt (c : ByteArray) (t a : Int → Int) (x m : Int) : Prop where
  here : ∀ q, q ∈ nxt c x → 0 < t q ∧ OnWay c a q m
  low : ∀ d, (∀ q, q ∈ nxt c x → OnWay c a q d) → OnWay c a m d

theorem MeetAt.own {c : ByteArray} {t a : Int → Int} (H : WOk c t a) {x m : Int} (h0 : 0 ≤ x) (h1 : x < half c) (M : MeetAt c t a x m) : 0 < t x ∧ 0 < t m ∧ t m < t x := by
  obtain ⟨q, hq⟩ := nxt_some c x
  have hx := H.full x q h0 h1 hq (M.here q hq).1
  obtain ⟨q2, hq2, _, hl⟩ := H.edge x hx (by omega)
  have h2 := M.here q2 hq2
  have := way_le H h2.1 h2.2
  exact ⟨hx, (way_pos H h2.1 h2.2).1, by omega⟩

theorem ways_move {c : ByteArray} {t a : Int → Int} (H : WOk c t a) {x m : Int} (h0 : 0 ≤ x) (h1 : x < half c) (M : MeetAt c t a x m) : WOk c t (upd a x m) := by
  obtain ⟨hx, hm, hlt⟩ := M.own H h0 h1
  refine ⟨H.nn, H.fin, H.pos, H.inj, fun y hy hne => ?_, H.edge, fun y d hy hne hd hl => ?_, fun y d hy hne hd hon => ?_, fun y q hy hne hq hq0 => ?_, H.full, H.ends⟩
  · by_cases e : y = x
    · subst e; rw [upd_at]; exact ⟨hm, hlt⟩
    · rw [upd_ne e]; exact H.down y hy hne
  · by_cases e : y = x
    · subst e
      rw [upd_at] at hl ⊢
      obtain ⟨q, hq⟩ := nxt_some c y
      have hh := M.here q hq
      have hle := way_le H hh.1 hh.2
      have hqd : q ≠ d := fun e => by subst e; omega
      exact ((Reach.start (S := One y) rfl (fun e => hd e.symm)).step ⟨h0, h1, hq⟩ hqd).trans (way_via H hh.1 hh.2 (fun e => hqd e.symm) hl)
    · rw [upd_ne e] at hl ⊢; exact H.via y d hy hne hd hl
  · by_cases e : y = x
    · subst e
      rw [upd_at]
      have hw := M.low d (fun q hq => by
        rcases onall_step h0 h1 hon hd hq with rfl | ho
        · exact OnWay.refl _ _ _
        · by_cases e : d = q
          · rw [e]; exact OnWay.refl _ _ _
          · exact on_way H (t q).toNat q d (by have := H.nn q; omega) (M.here q hq).1 e ho)
      exact (way_pos H hm hw).2
    · rw [upd_ne e]; exact H.dom y d hy hne hd hon
  · by_cases e : y = x
    · subst e
      have := (M.here q hq).1
      omega
    · rw [upd_ne e]; exact H.lone y q hy hne hq hq0

/-- while ways are found -/
structure GOk (c : ByteArray) (t a : Int → Int) (n : Int) : Prop where
  nn : ∀ x, 0 ≤ t x
  fin : t (half c) = 1
  pos : ∀ x, 0 < t x → 0 ≤ x ∧ x ≤ half c
  inj : ∀ x y, 0 < t x → t x = t y → x = y
  top : ∀ x, t x ≤ n
  down : ∀ x, 0 < t x → x ≠ half c → a x ∈ nxt c x ∧ 0 < t (a x) ∧ t (a x) < t x

theorem grow_begin (c : ByteArray) : GOk c (upd (fun _ => 0) (half c) 1) (upd (fun _ => 0) (half c) (half c)) 1 := by
  have hh := (half_bd c).1
  have h0 : ∀ x, upd (fun _ => 0) (half c) 1 x = 0 ∨ (x = half c ∧ upd (fun _ => 0) (half c) 1 x = 1) := fun x => by
    by_cases e : x = half c
    · subst e; exact .inr ⟨rfl, upd_at _ _ _⟩
    · exact .inl (upd_ne e)
  refine ⟨fun x => ?_, upd_at _ _ _, fun x hx => ?_, fun x y hx hxy => ?_, fun x => ?_, fun x hx hne => ?_⟩
  · rcases h0 x with h | ⟨_, h⟩ <;> omega
  · rcases h0 x with h | ⟨h, _⟩ <;> omega
  · rcases h0 x with h | ⟨h, h2⟩
    · omega
    · rcases h0 y with k | ⟨k, k2⟩
      · omega
      · omega
  · rcases h0 x with h | ⟨_, h⟩ <;> omega
  · rcases h0 x with h | ⟨h, _⟩ <;> omega

theorem grow_add {c : ByteArray} {t a : Int → Int} {n p q : Int} (H : GOk c t a n) (h0 : 0 ≤ p) (h1 : p < half c) (hp : t p = 0) (hq : q ∈ nxt c p) (hq0 : 0 < t q) : GOk c (upd t p (n + 1)) (upd a p q) (n + 1) := by
  have hn : 1 ≤ n := by have := H.top (half c); rw [H.fin] at this; exact this
  have hqp : q ≠ p := fun e => by rw [e, hp] at hq0; omega
  refine ⟨fun x => ?_, ?_, fun x hx => ?_, fun x y hx hxy => ?_, fun x => ?_, fun x hx hne => ?_⟩
  · by_cases e : x = p
    · subst e; rw [upd_at]; omega
    · rw [upd_ne e]; exact H.nn x
  · rw [upd_ne (by omega)]; exact H.fin
  · by_cases e : x = p
    · omega
    · rw [upd_ne e] at hx; exact H.pos x hx
  · by_cases e : x = p
    · by_cases k : y = p
      · omega
      · subst e
        rw [upd_at, upd_ne k] at hxy
        have := H.top y
        omega
    · by_cases k : y = p
      · subst k
        rw [upd_at, upd_ne e] at hxy
        have := H.top x
        omega
      · rw [upd_ne e] at hx
        rw [upd_ne e, upd_ne k] at hxy
        exact H.inj x y hx hxy
  · by_cases e : x = p
    · subst e; rw [upd_at]; omega
    · rw [upd_ne e]; have := H.top x; omega
  · by_cases e : x = p
    · subst e
      rw [upd_at, upd_at, upd_ne hqp]
      have := H.top q
      exact ⟨hq, hq0, by omega⟩
    · rw [upd_ne e] at hx
      have hd := H.down x hx hne
      have ha : a x ≠ p := fun k => by rw [k, hp] at hd; omega
      rw [upd_ne e, upd_ne e, upd_ne ha]
      exact hd

theorem grow_done {c : ByteArray} {t a : Int → Int} {n : Int} (H : GOk c t a n) (hfull : ∀ x q, 0 ≤ x → x < half c → q ∈ nxt c x → 0 < t q → 0 < t x) : WOk c t a := by
  have ed : ∀ x, 0 < t x → x ≠ half c → Edge c x (a x) := fun x hx hne => by
    have := H.pos x hx
    exact ⟨this.1, by omega, (H.down x hx hne).1⟩
  have hends : ∀ n : Nat, ∀ x, t x ≤ n → 0 < t x → Reach c (One x) (-1) (half c) := by
    intro n
    induction n with
    | zero => intro x h1 h2; omega
    | succ n ih =>
      intro x h1 h2
      have hp := H.pos x h2
      by_cases e : x = half c
      · exact Reach.start e.symm (by omega)
      · have hd := H.down x h2 e
        exact ((Reach.start (S := One x) rfl (by omega)).step (ed x h2 e) (by have := H.pos _ hd.2.1; omega)).trans (ih (a x) (by omega) hd.2.1)
  have hdom : ∀ n : Nat, ∀ x d, t x ≤ n → 0 < t x → d ≠ x → OnAll c x d → t d < t x := by
    intro n
    induction n with
    | zero => intro x d h1 h2; omega
    | succ n ih =>
      intro x d h1 h2 hne hon
      by_cases e : x = half c
      · exact absurd (Reach.start (c := c) (S := One x) (wall := d) (i := half c) e.symm (fun k => hne (by rw [e]; exact k.symm))) hon
      · have hd := H.down x h2 e
        have hp := H.pos x h2
        by_cases k : d = a x
        · subst k; exact hd.2.2
        · rcases onall_step hp.1 (by omega) hon hne hd.1 with h | h
          · exact absurd h.symm k
          · have := ih (a x) d (by omega) hd.2.1 k h
            omega
  refine ⟨H.nn, H.fin, H.pos, H.inj, fun x hx hne => (H.down x hx hne).2, fun x hx hne => ⟨a x, H.down x hx hne⟩, fun x d hx hne hd hl => ?_, fun x d hx hne hd hon => ?_, fun x q hx hne _ _ => (H.down x hx hne).1, hfull, fun x hx => hends (t x).toNat x (by omega) hx⟩
  · exact (Reach.start (S := One x) rfl (fun e => hd e.symm)).step (ed x hx hne) (fun e => by rw [e] at hl; omega)
  · have hp := H.pos x hx
    have hdn := H.down x hx hne
    by_cases k : d = a x
    · exact .inl k
    · rcases onall_step hp.1 (by omega) hon hd hdn.1 with h | h
      · exact absurd h.symm k
      · exact .inr (hdom (t (a x)).toNat (a x) d (by omega) hdn.2.1 k h)
end Go.Proofs.Ytcnbifdlkalimaa
