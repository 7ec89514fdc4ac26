import Derived.Test.YtcnbifdlkalimabGreatSrcB
import Derived.Test.YtcnbifdlkalimabGreatPlnB

/-
  The plain mathematics of sources: what an expression needs on the stack, which levels it reads, which tapes: what the program notes while it reads, and what the document asks of the tree; no condition but those that stand in each lemma.
-/
namespace Go.Proofs.YtcnbifdlkalimabGreat
open Go.RowKit
set_option linter.unusedVariables false

/-- an expression, folded up -/
def folF {α : Type} (z : α) (lf : Ex → α) (tw : α → α → α) (ex : List Ex) : Nat → Nat → α
  | 0, _ => z
  | k + 1, e => match ex[e]? with
    | none => z
    | some x => if x.op = 0 ∨ x.op = 1 ∨ x.op = 10 then lf x else tw (folF z lf tw ex k x.l) (folF z lf tw ex k x.r)
def fol {α : Type} (z : α) (lf : Ex → α) (tw : α → α → α) (ex : List Ex) (e : Nat) : α := folF z lf tw ex (e + 1) e

theorem folF_ext {α : Type} (z : α) (lf : Ex → α) (tw : α → α → α) {ex more : List Ex} (h : ExOk ex) : ∀ (k e k' : Nat), e < ex.length → e < k → e < k' → folF z lf tw (ex ++ more) k e = folF z lf tw ex k' e
  | 0, e, k', _, h1, _ => by omega
  | k + 1, e, 0, _, _, h1 => by omega
  | k + 1, e, k' + 1, h0, h1, h2 => by
    simp only [folF]
    rw [List.getElem?_append_left h0]
    obtain ⟨x, hx⟩ : ∃ x, ex[e]? = some x := ⟨ex[e], List.getElem?_eq_getElem h0⟩
    rw [hx]
    dsimp only
    by_cases hl : x.op = 0 ∨ x.op = 1 ∨ x.op = 10
    · rw [if_pos hl, if_pos hl]
    · rw [if_neg hl, if_neg hl]
      rcases h e x hx with c | ⟨c, d⟩
      · exact absurd c hl
      · rw [folF_ext z lf tw h k x.l k' (by omega) (by omega) (by omega), folF_ext z lf tw h k x.r k' (by omega) (by omega) (by omega)]
theorem fol_ext {α : Type} (z : α) (lf : Ex → α) (tw : α → α → α) {ex more : List Ex} {e : Nat} (h : ExOk ex) (he : e < ex.length) : fol z lf tw (ex ++ more) e = fol z lf tw ex e :=
  folF_ext z lf tw h _ _ _ he (by omega) (by omega)
theorem fol_at {α : Type} (z : α) (lf : Ex → α) (tw : α → α → α) {ex : List Ex} {e : Nat} {x : Ex} (h : ExOk ex) (hx : ex[e]? = some x) :
    fol z lf tw ex e = if x.op = 0 ∨ x.op = 1 ∨ x.op = 10 then lf x else tw (fol z lf tw ex x.l) (fol z lf tw ex x.r) := by
  have he : e < ex.length := (List.getElem?_eq_some_iff.1 hx).1
  unfold fol
  rw [folF, hx]
  dsimp only
  by_cases hl : x.op = 0 ∨ x.op = 1 ∨ x.op = 10
  · rw [if_pos hl, if_pos hl]
  · rw [if_neg hl, if_neg hl]
    rcases h e x hx with c | ⟨c, d⟩
    · exact absurd c hl
    · have a := folF_ext (more := []) z lf tw h e x.l (x.l + 1) (by omega) c (by omega)
      have b := folF_ext (more := []) z lf tw h e x.r (x.r + 1) (by omega) d (by omega)
      rw [List.append_nil] at a b
      rw [a, b]
theorem fol_leaf {α : Type} (z : α) (lf : Ex → α) (tw : α → α → α) {ex : List Ex} {x : Ex} (h : ExOk ex) (hx : x.op = 0 ∨ x.op = 1 ∨ x.op = 10) : fol z lf tw (ex ++ [x]) ex.length = lf x := by
  rw [fol_at z lf tw (h.add (.inl hx)) (x := x) (by simp), if_pos hx]
theorem fol_two {α : Type} (z : α) (lf : Ex → α) (tw : α → α → α) {ex : List Ex} {x : Ex} (h : ExOk ex) (hx : ¬ (x.op = 0 ∨ x.op = 1 ∨ x.op = 10)) (hl : x.l < ex.length) (hr : x.r < ex.length) :
    fol z lf tw (ex ++ [x]) ex.length = tw (fol z lf tw ex x.l) (fol z lf tw ex x.r) := by
  rw [fol_at z lf tw (h.add (.inr ⟨hl, hr⟩)) (x := x) (by simp), if_neg hx, fol_ext z lf tw h hl, fol_ext z lf tw h hr]

/-- how many values it needs on the stack -/
def need (ex : List Ex) (e : Nat) : Int := fol 1 (fun _ => 1) (fun a b => max a (b + 1)) ex e
/-- the level of a leaf -/
def lfL (vs : List Int) (x : Ex) : Int := if x.op = 1 then vs.getD x.v.toNat 0 else x.v
/-- which levels it reads -/
def rdsL (vs : List Int) (x : Ex) (j : Nat) : Bool := decide (x.op ≠ 0) && decide ((j : Int) = lfL vs x)
def reads (vs : List Int) (ex : List Ex) (e : Nat) (j : Nat) : Bool := fol false (fun x => rdsL vs x j) (fun a b => a || b) ex e
/-- which tapes it takes -/
def tpsL (x : Ex) (j : Nat) : Bool := decide (x.op = 10) && decide ((j : Int) = x.v)
def tapes (ex : List Ex) (e : Nat) (j : Nat) : Bool := fol false (fun x => tpsL x j) (fun a b => a || b) ex e

theorem need_pos (ex : List Ex) (e : Nat) : 1 ≤ need ex e := by
  have key : ∀ k e, 1 ≤ folF (1 : Int) (fun _ => 1) (fun a b => max a (b + 1)) ex k e := by
    intro k
    induction k with
    | zero => intro e; exact Int.le_refl _
    | succ k ih =>
      intro e
      simp only [folF]
      split
      · exact Int.le_refl _
      · split
        · exact Int.le_refl _
        · have := ih ‹Ex›.l
          omega
  exact key _ _

/-- a node whose numbers are in their bounds -/
def XB (n : Int) (m : Nat) (x : Ex) : Prop := (x.op = 0 ∧ 0 ≤ x.v ∧ x.v ≤ 255) ∨ (x.op = 1 ∧ 0 ≤ x.v ∧ x.v < m) ∨ (x.op = 10 ∧ 0 ≤ x.v ∧ x.v < n) ∨ (3 ≤ x.op ∧ x.op ≤ 7)
def ExB (n : Int) (m : Nat) (ex : List Ex) : Prop := ∀ x, x ∈ ex → XB n m x
theorem ExB.add {n : Int} {m : Nat} {ex : List Ex} (h : ExB n m ex) {x : Ex} (hx : XB n m x) : ExB n m (ex ++ [x]) := by
  intro y hy
  rw [List.mem_append, List.mem_singleton] at hy
  rcases hy with c | c
  · exact h y c
  · rw [c]; exact hx

/-- what both have noted of an expression -/
structure SimH (x : Tq × Sq) (p : Rs) (y : Tq × Sq) (z : Rs × Nat) : Prop where
  h : y.1.h = x.1.h + 1
  hi : y.1.hi = max x.1.hi (x.1.h + need z.1.ex z.2)
  nd : ∀ e, p.ex.length ≤ e → e < z.1.ex.length → need z.1.ex e ≤ need z.1.ex z.2
  rd : ∀ j, y.2.rd j = (x.2.rd j || reads p.vs z.1.ex z.2 j)
  tp : ∀ j, y.2.tp j = (x.2.tp j || tapes z.1.ex z.2 j)
  k : y.2.k = x.2.k
  pl : y.2.pl = x.2.pl
  ou : y.2.ou = x.2.ou
  ta : y.2.ta = x.2.ta
  eb : 1 ≤ p.n → p.ls.length = p.vs.length → ExB p.n p.vs.length p.ex → ExB p.n p.vs.length z.1.ex
/-- where there is no error -/
def HOk (x : Tq × Sq) (p : Rs) (y : Tq × Sq) (z : Rs × Nat) : Prop := z.1.r.er = 0 → ExOk p.ex → SimH x p y z

theorem dig_in0 {s : ByteArray} {r : Rd} {n : Int} (hn : 1 ≤ n) : 0 ≤ dig s r 0 (n - 1) ∧ dig s r 0 (n - 1) < n := by
  unfold dig isD
  split
  · have := of_decide_eq_true ‹_›
    omega
  · omega
theorem varI_lt {s : ByteArray} {r : Rd} {ls : List Int} (h : varOk s r ls = true) : varI s r ls < ls.length := by
  unfold varI
  rw [if_pos h]
  unfold varOk at h
  exact of_decide_eq_true (Bool.and_eq_true _ _ ▸ h : _ ∧ _).2
theorem addL_or (m : Nat → Bool) (v : Int) (j : Nat) : addL m v j = (m j || decide ((j : Int) = v)) := by
  unfold addL
  by_cases h : (j : Int) = v
  · rw [if_pos h, decide_eq_true h, Bool.or_true]
  · rw [if_neg h, decide_eq_false h, Bool.or_false]

/-- a leaf -/
theorem leaf_h {x : Tq × Sq} {p : Rs} {r r' : Rd} {op v : Int} {n : Ex} {m m' : Nat → Bool} (hop : n.op = 0 ∨ n.op = 1 ∨ n.op = 10) (he : op = n.op) (hE : ExOk p.ex) (hr : ∀ j, m j = (x.2.rd j || rdsL p.vs n j)) (ht : ∀ j, m' j = (x.2.tp j || tpsL n j)) (hb : 1 ≤ p.n → p.ls.length = p.vs.length → XB p.n p.vs.length n) :
    SimH x p (emitQ { x.1 with r := r } op v, { x.2 with rd := m, tp := m' }) (nodP p r' n) := by
  have hg : givesF op = 1 ∧ takesF op = 0 := by subst he; rcases hop with h | h | h <;> rw [h] <;> exact ⟨rfl, rfl⟩
  have hn : need (p.ex ++ [n]) p.ex.length = 1 := fol_leaf _ _ _ hE hop
  refine ⟨?_, ?_, ?_, fun j => ?_, fun j => ?_, rfl, rfl, rfl, rfl, fun a b c => c.add (hb a b)⟩
  · show x.1.h + givesF op - takesF op = _
    rw [hg.1, hg.2]; omega
  · show max x.1.hi (x.1.h + givesF op - takesF op) = max x.1.hi (x.1.h + need (p.ex ++ [n]) p.ex.length)
    rw [hg.1, hg.2, hn]; omega
  · intro e h1 h2
    have h2 : e < (p.ex ++ [n]).length := h2
    rw [List.length_append, List.length_cons, List.length_nil] at h2
    have : e = p.ex.length := by omega
    rw [this]
    exact Int.le_refl _
  · show m j = (x.2.rd j || fol false (fun x => rdsL p.vs x j) (fun a b => a || b) (p.ex ++ [n]) p.ex.length)
    rw [fol_leaf _ _ _ hE hop]; exact hr j
  · show m' j = (x.2.tp j || fol false (fun x => tpsL x j) (fun a b => a || b) (p.ex ++ [n]) p.ex.length)
    rw [fol_leaf _ _ _ hE hop]; exact ht j

theorem term_h (s : ByteArray) (k : Nat) (ih : ∀ (x : Tq × Sq) (p : Rs), Ag x.1 p → rem s p.r < k → HOk x p (exprQ s k x) (exprP s k p)) (x : Tq × Sq) (p : Rs) (hA : Ag x.1 p) (hk : rem s p.r ≤ k) :
    HOk x p (termQ s (exprQ s k) x) (termP s (exprP s k) p) := by
  have hr := hA.r
  unfold termQ termP
  rw [hr]
  by_cases h1 : 48 ≤ tok s p.r ∧ tok s p.r ≤ 57
  · rw [if_pos h1, if_pos h1]
    intro h hE
    exact leaf_h (m := x.2.rd) (m' := x.2.tp) (.inl rfl) rfl hE (fun j => by simp [rdsL]) (fun j => by simp [tpsL]) (fun _ _ => .inl ⟨rfl, numF_bd _ _ _ (by omega) (by omega)⟩)
  · rw [if_neg h1, if_neg h1]
    by_cases h2 : tok s p.r = 36
    · rw [if_pos h2, if_pos h2]
      have e1 : tk s (adv s p.r) 36 = nx (adv s p.r) := by rw [← h2]; exact tok_idem (by omega)
      unfold tapeQ
      dsimp only
      rw [e1, hA.n]
      intro h hE
      have := leaf_h (x := x) (p := p) (r := digR s (nx (adv s p.r)) 0 (p.n - 1)) (r' := digR s (nx (adv s p.r)) 0 (p.n - 1)) (op := 10) (v := dig s (nx (adv s p.r)) 0 (p.n - 1)) (n := ⟨10, dig s (nx (adv s p.r)) 0 (p.n - 1), 0, 0⟩) (m := addL x.2.rd (dig s (nx (adv s p.r)) 0 (p.n - 1))) (m' := addL x.2.tp (dig s (nx (adv s p.r)) 0 (p.n - 1))) (.inr (.inr rfl)) rfl hE (fun j => by rw [addL_or]; simp [rdsL, lfL]) (fun j => by rw [addL_or]; simp [tpsL]) (fun a _ => .inr (.inr (.inl ⟨rfl, dig_in0 a⟩)))
      exact ⟨this.h, this.hi, this.nd, this.rd, this.tp, rfl, rfl, rfl, rfl, this.eb⟩
    · rw [if_neg h2, if_neg h2]
      by_cases h3 : tok s p.r = 40
      · rw [if_pos h3, if_pos h3]
        have ht := rem_tok (s := s) (r := p.r) (by omega)
        have hI := ih ({ x.1 with r := nx (adv s p.r) }, x.2) { p with r := nx (adv s p.r) } ⟨rfl, hA.n, hA.ls, hA.vs⟩ (by show rem s (nx (adv s p.r)) < k; omega)
        generalize exprQ s k ({ x.1 with r := nx (adv s p.r) }, x.2) = y at *
        generalize exprP s k { p with r := nx (adv s p.r) } = z at *
        intro h hE
        have H := hI (tk_er h) hE
        exact ⟨H.h, H.hi, H.nd, H.rd, H.tp, H.k, H.pl, H.ou, H.ta, H.eb⟩
      · rw [if_neg h3, if_neg h3]
        unfold lettQ
        dsimp only
        rw [varR_adv, varI_adv, hA.ls]
        intro h hE
        have := leaf_h (x := x) (p := p) (r := varR s p.r p.ls) (r' := varR s p.r p.ls) (op := 1) (v := varI s p.r p.ls) (n := ⟨1, varI s p.r p.ls, 0, 0⟩) (m := addL x.2.rd (lvOf x.1 (varI s p.r p.ls))) (m' := x.2.tp) (.inr (.inl rfl)) rfl hE (fun j => by rw [addL_or]; unfold rdsL lfL lvOf; rw [hA.vs]; simp) (fun j => by simp [tpsL]) (fun _ b => .inr (.inl ⟨rfl, by have := varI_lt (varR_er h).2; constructor <;> dsimp only <;> omega⟩))
        exact ⟨this.h, this.hi, this.nd, this.rd, this.tp, rfl, rfl, rfl, rfl, this.eb⟩

theorem more_h (s : ByteArray) (K : Nat) (tq : Tq × Sq → Tq × Sq) (tp : Rs → Rs × Nat) (hT : ∀ (x : Tq × Sq) (p : Rs), Ag x.1 p → rem s p.r ≤ K → SimE s x p (tq x) (tp p) ∧ HOk x p (tq x) (tp p)) :
    ∀ (k : Nat) (x0 : Tq × Sq) (p0 : Rs) (x : Tq × Sq) (z : Rs × Nat), Ag x0.1 p0 → rem s p0.r ≤ K → SimE s x0 p0 x z → HOk x0 p0 x z → HOk x0 p0 (moreQ s tq k x) (moreP s tp k z)
  | 0, x0, p0, x, z, hA, hK, hS, hH => by
    intro h hE
    have H := hH (by rw [← adv_er s]; exact h) hE
    exact ⟨H.h, H.hi, H.nd, H.rd, H.tp, H.k, H.pl, H.ou, H.ta, H.eb⟩
  | k + 1, x0, p0, x, z, hA, hK, hS, hH => by
    simp only [moreQ, moreP]
    rw [hS.r]
    by_cases h0 : opOf (tok s z.1.r) = 0
    · rw [if_pos h0, if_pos h0]
      intro h hE
      have H := hH (by rw [← adv_er s]; exact h) hE
      exact ⟨H.h, H.hi, H.nd, H.rd, H.tp, H.k, H.pl, H.ou, H.ta, H.eb⟩
    · rw [if_neg h0, if_neg h0]
      have hp := opOf_pos h0
      have ht := rem_tok (s := s) (r := z.1.r) hp.1
      have hAz := hA.go hS.fq hS.fp hS.r
      have hle := hS.le
      obtain ⟨hI, hIH⟩ := hT ({ x.1 with r := nx (adv s z.1.r) }, x.2) { z.1 with r := nx (adv s z.1.r) } ⟨rfl, hAz.n, hAz.ls, hAz.vs⟩ (by show rem s (nx (adv s z.1.r)) ≤ K; omega)
      refine more_h s K tq tp hT k x0 p0 _ _ hA hK ?_ ?_
      · have c : rem s ({ z.1 with r := nx (adv s z.1.r) } : Rs).r = rem s (nx (adv s z.1.r)) := rfl
        have hle2 := hI.le
        generalize opOf (tok s z.1.r) = op at *
        generalize tq ({ x.1 with r := nx (adv s z.1.r) }, x.2) = y at *
        generalize tp { z.1 with r := nx (adv s z.1.r) } = u at *
        refine ⟨hI.r, by show rem s u.1.r ≤ _; omega, fun h => ?_, ?_, hI.ss.trans hS.ss, ?_, hI.sm.trans hS.sm, fun h hE => ?_⟩
        · have := hI.bad h
          have : (nx (adv s z.1.r)).er = 0 := this
          rw [nx_er, adv_er] at this
          exact hS.bad this
        · exact hS.fq.trans ⟨hI.fq.n, hI.fq.pn, hI.fq.pr, hI.fq.ls, hI.fq.vs⟩
        · exact hS.fp.trans ⟨hI.fp.n, hI.fp.ls, hI.fp.vs⟩
        · have b0 : z.1.r.er = 0 := by
            have := hI.bad h
            have : (nx (adv s z.1.r)).er = 0 := this
            rw [nx_er, adv_er] at this
            exact this
          obtain ⟨m1, e1, o1, l1, c1⟩ := hS.ok b0 hE
          obtain ⟨m2, e2, o2, l2, c2⟩ := hI.ok h o1
          have e2 : u.1.ex = z.1.ex ++ m2 := e2
          have lz : z.2 < u.1.ex.length := by rw [e2, List.length_append]; omega
          refine ⟨m1 ++ m2 ++ [⟨op, 0, z.2, u.2⟩], ?_, o2.add (.inr ⟨lz, l2⟩), by simp [nodP], ?_⟩
          · show u.1.ex ++ [_] = _
            rw [e2, e1]
            simp
          · show y.1.cd ++ _ = x0.1.cd ++ cod (u.1.ex ++ [_]) u.1.ex.length
            rw [cod_two o2 (by show ¬ (op = 0 ∨ op = 1 ∨ op = 10); omega) lz l2, c2]
            show x.1.cd ++ cod u.1.ex u.2 ++ [op, 0 % 256] = _
            rw [c1, show cod u.1.ex z.2 = cod z.1.ex z.2 from by rw [e2]; exact cod_ext o1 l1]
            rw [show op % 256 = op from by omega]
            simp
      · generalize opOf (tok s z.1.r) = op at *
        generalize tq ({ x.1 with r := nx (adv s z.1.r) }, x.2) = y at *
        generalize tp { z.1 with r := nx (adv s z.1.r) } = u at *
        intro h hE
        have b0 : z.1.r.er = 0 := by
          have := hI.bad h
          have : (nx (adv s z.1.r)).er = 0 := this
          rw [nx_er, adv_er] at this
          exact this
        obtain ⟨m1, e1, o1, l1, c1⟩ := hS.ok b0 hE
        obtain ⟨m2, e2, o2, l2, c2⟩ := hI.ok h o1
        have e2 : u.1.ex = z.1.ex ++ m2 := e2
        have lz : z.2 < u.1.ex.length := by rw [e2, List.length_append]; omega
        have H := hH b0 hE
        have J := hIH h o1
        have hop : ¬ (op = 0 ∨ op = 1 ∨ op = 10) := by omega
        have hg : givesF op = 1 ∧ takesF op = 2 := by
          rcases (show op = 3 ∨ op = 4 ∨ op = 5 ∨ op = 6 ∨ op = 7 from by omega) with c | c | c | c | c <;> rw [c] <;> exact ⟨rfl, rfl⟩
        have n1 : need u.1.ex z.2 = need z.1.ex z.2 := by rw [e2]; exact fol_ext _ _ _ o1 l1
        have n2 : need (u.1.ex ++ [⟨op, 0, z.2, u.2⟩]) u.1.ex.length = max (need z.1.ex z.2) (need u.1.ex u.2 + 1) := by rw [← n1]; exact fol_two _ _ _ o2 hop lz l2
        have jh : y.1.h = x.1.h + 1 := J.h
        have jhi : y.1.hi = max x.1.hi (x.1.h + need u.1.ex u.2) := J.hi
        have hh := H.h
        have hhi := H.hi
        refine ⟨?_, ?_, ?_, fun j => ?_, fun j => ?_, J.k.trans H.k, J.pl.trans H.pl, J.ou.trans H.ou, J.ta.trans H.ta, fun a b c => ?_⟩
        · show y.1.h + givesF op - takesF op = _
          rw [hg.1, hg.2]; omega
        · show max y.1.hi (y.1.h + givesF op - takesF op) = max x0.1.hi (x0.1.h + need (u.1.ex ++ [⟨op, 0, z.2, u.2⟩]) u.1.ex.length)
          have := need_pos u.1.ex u.2
          have := need_pos z.1.ex z.2
          rw [hg.1, hg.2, n2]; omega
        · intro e h1 h2
          have h2 : e < (u.1.ex ++ [(⟨op, 0, z.2, u.2⟩ : Ex)]).length := h2
          show need (u.1.ex ++ [⟨op, 0, z.2, u.2⟩]) e ≤ need (u.1.ex ++ [⟨op, 0, z.2, u.2⟩]) u.1.ex.length
          rw [List.length_append, List.length_cons, List.length_nil] at h2
          rw [n2]
          by_cases he : e = u.1.ex.length
          · rw [he, n2]; exact Int.le_refl _
          · have he : e < u.1.ex.length := by omega
            rw [show need (u.1.ex ++ [⟨op, 0, z.2, u.2⟩]) e = need u.1.ex e from fol_ext _ _ _ o2 he]
            by_cases hz : e < z.1.ex.length
            · have := H.nd e h1 hz
              rw [show need u.1.ex e = need z.1.ex e from by rw [e2]; exact fol_ext _ _ _ o1 hz]
              omega
            · have := J.nd e (by show z.1.ex.length ≤ e; omega) he
              omega
        · show y.2.rd j = (x0.2.rd j || fol false (fun x => rdsL p0.vs x j) (fun a b => a || b) (u.1.ex ++ [⟨op, 0, z.2, u.2⟩]) u.1.ex.length)
          rw [fol_two _ _ _ o2 hop lz l2]
          have a : y.2.rd j = (x.2.rd j || reads z.1.vs u.1.ex u.2 j) := J.rd j
          have b := H.rd j
          rw [a, b, show z.1.vs = p0.vs from hS.fp.vs]
          show (x0.2.rd j || reads p0.vs z.1.ex z.2 j || reads p0.vs u.1.ex u.2 j) = (x0.2.rd j || (reads p0.vs u.1.ex z.2 j || reads p0.vs u.1.ex u.2 j))
          rw [show reads p0.vs u.1.ex z.2 j = reads p0.vs z.1.ex z.2 j from by rw [e2]; exact fol_ext _ _ _ o1 l1, Bool.or_assoc]
        · show y.2.tp j = (x0.2.tp j || fol false (fun x => tpsL x j) (fun a b => a || b) (u.1.ex ++ [⟨op, 0, z.2, u.2⟩]) u.1.ex.length)
          rw [fol_two _ _ _ o2 hop lz l2]
          have a : y.2.tp j = (x.2.tp j || tapes u.1.ex u.2 j) := J.tp j
          have b := H.tp j
          rw [a, b]
          show (x0.2.tp j || tapes z.1.ex z.2 j || tapes u.1.ex u.2 j) = (x0.2.tp j || (tapes u.1.ex z.2 j || tapes u.1.ex u.2 j))
          rw [show tapes u.1.ex z.2 j = tapes z.1.ex z.2 j from by rw [e2]; exact fol_ext _ _ _ o1 l1, Bool.or_assoc]
        · have en : z.1.n = p0.n := hS.fp.n
          have ev : z.1.vs = p0.vs := hS.fp.vs
          have el : z.1.ls = p0.ls := hS.fp.ls
          have E1 := H.eb a b c
          have E2 : ExB z.1.n z.1.vs.length u.1.ex := J.eb (by show 1 ≤ z.1.n; rw [en]; exact a) (by show z.1.ls.length = z.1.vs.length; rw [el, ev]; exact b) (by show ExB z.1.n z.1.vs.length z.1.ex; rw [en, ev]; exact E1)
          rw [en, ev] at E2
          exact E2.add (.inr (.inr (.inr (by show 3 ≤ op ∧ op ≤ 7; omega))))

theorem expr_h (s : ByteArray) : ∀ (k : Nat) (x : Tq × Sq) (p : Rs), Ag x.1 p → rem s p.r < k → HOk x p (exprQ s k x) (exprP s k p)
  | 0, x, p, hA, hk => by omega
  | k + 1, x, p, hA, hk => by
    simp only [exprQ, exprP]
    exact more_h s k _ _ (fun x p hA hk => ⟨term_sim s k (expr_sim s k) x p hA hk, term_h s k (expr_h s k) x p hA hk⟩) k x p _ _ hA (by omega) (term_sim s k (expr_sim s k) x p hA (by omega)) (term_h s k (expr_h s k) x p hA (by omega))
theorem ex_h (s : ByteArray) (x : Tq × Sq) (p : Rs) (hA : Ag x.1 p) : HOk x p (exQ s x) (exP s p) :=
  expr_h s _ x p hA (by have := rem_le s p.r; omega)
end Go.Proofs.YtcnbifdlkalimabGreat

/-
  The plain mathematics of sources: the statements in the order in which they begin, as the program notes them, out of the document's tree; no condition but those that stand in each lemma.
-/
namespace Go.Proofs.YtcnbifdlkalimabGreat
open Go.RowKit
set_option linter.unusedVariables false

/-- the statements of a list, whatever those of one are -/
def flG (f : Nat → Int → Nat → List Sq) : List Nat → Int → Nat → List Sq
  | [], _, _ => []
  | n :: l, ou, b => f n ou b ++ flG f l ou (b + (f n ou b).length)
/-- what the program notes of a statement -/
def sqOf (vs : List Int) (ex : List Ex) (x : Sm) (ou : Int) : Sq :=
  ⟨if x.k = 61 then 1 else if x.k = 62 then 2 else if x.k = 63 then 3 else 4, x.a, ou, if x.k = 61 then vs.getD x.v.toNat 0 else if x.k = 62 then x.v else 0, reads vs ex x.e, tapes ex x.e⟩
def flF (vs : List Int) (ex : List Ex) (sm : List Sm) : Nat → Nat → Int → Nat → List Sq
  | 0, _, _, _ => []
  | k + 1, n, ou, b => match sm[n]? with
    | none => []
    | some x => sqOf vs ex x ou :: (flG (flF vs ex sm k) x.bo b (b + 1) ++ flG (flF vs ex sm k) x.el b (b + 1 + (flG (flF vs ex sm k) x.bo b (b + 1)).length))
def fl (vs : List Int) (ex : List Ex) (sm : List Sm) (n : Nat) (ou : Int) (b : Nat) : List Sq := flF vs ex sm (n + 1) n ou b
def fls (vs : List Int) (ex : List Ex) (sm : List Sm) (l : List Nat) (ou : Int) (b : Nat) : List Sq := flG (fl vs ex sm) l ou b

theorem flG_add (f : Nat → Int → Nat → List Sq) (n : Nat) (ou : Int) : ∀ (l : List Nat) (b : Nat), flG f (l ++ [n]) ou b = flG f l ou b ++ f n ou (b + (flG f l ou b).length)
  | [], b => by simp [flG]
  | m :: l, b => by
    simp only [flG, List.cons_append]
    rw [flG_add f n ou l _, List.append_assoc, List.length_append, Nat.add_assoc]
theorem flG_congr {f g : Nat → Int → Nat → List Sq} (ou : Int) : ∀ (l : List Nat) (b : Nat), (∀ n, n ∈ l → ∀ b, f n ou b = g n ou b) → flG f l ou b = flG g l ou b
  | [], b, h => rfl
  | m :: l, b, h => by
    simp only [flG]
    rw [h m (by simp) b, flG_congr ou l _ (fun n hn => h n (by simp [hn]))]

theorem sqOf_ext {vs : List Int} {ex me : List Ex} {x : Sm} {ou : Int} (hE : ExOk ex) (he : x.e < ex.length) : sqOf vs (ex ++ me) x ou = sqOf vs ex x ou := by
  unfold sqOf
  rw [show reads vs (ex ++ me) x.e = reads vs ex x.e from funext fun j => fol_ext _ _ _ hE he, show tapes (ex ++ me) x.e = tapes ex x.e from funext fun j => fol_ext _ _ _ hE he]

theorem flF_ext {vs : List Int} {ex me : List Ex} {sm ms : List Sm} (hE : ExOk ex) (hS : SmOk ex sm) : ∀ (k n k' : Nat) (ou : Int) (b : Nat), n < sm.length → n < k → n < k' → flF vs (ex ++ me) (sm ++ ms) k n ou b = flF vs ex sm k' n ou b
  | 0, n, k', ou, b, _, h1, _ => by omega
  | k + 1, n, 0, ou, b, _, _, h1 => by omega
  | k + 1, n, k' + 1, ou, b, h0, h1, h2 => by
    simp only [flF]
    rw [List.getElem?_append_left h0]
    obtain ⟨x, hx⟩ : ∃ x, sm[n]? = some x := ⟨sm[n], List.getElem?_eq_getElem h0⟩
    obtain ⟨o1, o2, o3⟩ := hS n x hx
    rw [hx]
    dsimp only
    rw [sqOf_ext hE o1]
    have hb : ∀ c d, flG (flF vs (ex ++ me) (sm ++ ms) k) x.bo c d = flG (flF vs ex sm k') x.bo c d := fun c d => flG_congr _ _ _ fun m hm b => flF_ext hE hS k m k' _ b (by have := o2 m hm; omega) (by have := o2 m hm; omega) (by have := o2 m hm; omega)
    have hl : ∀ c d, flG (flF vs (ex ++ me) (sm ++ ms) k) x.el c d = flG (flF vs ex sm k') x.el c d := fun c d => flG_congr _ _ _ fun m hm b => flF_ext hE hS k m k' _ b (by have := o3 m hm; omega) (by have := o3 m hm; omega) (by have := o3 m hm; omega)
    rw [hb, hl]
theorem fls_ext {vs : List Int} {ex me : List Ex} {sm ms : List Sm} {l : List Nat} {ou : Int} {b : Nat} (hE : ExOk ex) (hS : SmOk ex sm) (hn : ∀ n, n ∈ l → n < sm.length) : fls vs (ex ++ me) (sm ++ ms) l ou b = fls vs ex sm l ou b :=
  flG_congr _ _ _ fun n h b => flF_ext hE hS _ _ _ _ _ (hn n h) (by omega) (by omega)
theorem Mo.fls {p z : Rs} (h : Mo p z) (hE : ExOk p.ex) (hS : SmOk p.ex p.sm) (vs : List Int) {l : List Nat} (hl : ∀ n, n ∈ l → n < p.sm.length) (ou : Int) (b : Nat) : Go.Proofs.YtcnbifdlkalimabGreat.fls vs z.ex z.sm l ou b = Go.Proofs.YtcnbifdlkalimabGreat.fls vs p.ex p.sm l ou b := by
  obtain ⟨m1, e1⟩ := h.ex
  obtain ⟨m3, e3⟩ := h.sm
  rw [e1, e3]
  exact fls_ext hE hS hl
/-- at a statement that there is -/
theorem fl_at {vs : List Int} {ex : List Ex} {sm : List Sm} {n : Nat} {x : Sm} (hE : ExOk ex) (hS : SmOk ex sm) (hx : sm[n]? = some x) (ou : Int) (b : Nat) :
    fl vs ex sm n ou b = sqOf vs ex x ou :: (fls vs ex sm x.bo b (b + 1) ++ fls vs ex sm x.el b (b + 1 + (fls vs ex sm x.bo b (b + 1)).length)) := by
  have hn : n < sm.length := (List.getElem?_eq_some_iff.1 hx).1
  obtain ⟨o1, o2, o3⟩ := hS n x hx
  have key : ∀ (l : List Nat) (c : Int) (d : Nat), (∀ m, m ∈ l → m < n) → flG (flF vs ex sm n) l c d = fls vs ex sm l c d := fun l c d hl => flG_congr _ _ _ fun m hm b => by
    have := flF_ext (vs := vs) (me := []) (ms := []) hE hS n m (m + 1) c b (by have := hl m hm; omega) (hl m hm) (by omega)
    rw [List.append_nil, List.append_nil] at this
    exact this
  unfold fl
  rw [flF, hx]
  dsimp only
  rw [key _ _ _ o2, key _ _ _ o3]
/-- at the last -/
theorem fl_new {vs : List Int} {ex : List Ex} {sm : List Sm} {x : Sm} (hE : ExOk ex) (hS : SmOk ex sm) (he : x.e < ex.length) (hb : ∀ m, m ∈ x.bo → m < sm.length) (hl : ∀ m, m ∈ x.el → m < sm.length) (ou : Int) (b : Nat) :
    fl vs ex (sm ++ [x]) sm.length ou b = sqOf vs ex x ou :: (fls vs ex sm x.bo b (b + 1) ++ fls vs ex sm x.el b (b + 1 + (fls vs ex sm x.bo b (b + 1)).length)) := by
  rw [fl_at hE (hS.add he hb hl) (x := x) (by simp)]
  have key : ∀ (l : List Nat) (c : Int) (d : Nat), (∀ m, m ∈ l → m < sm.length) → fls vs ex (sm ++ [x]) l c d = fls vs ex sm l c d := fun l c d h => by
    have := fls_ext (vs := vs) (me := []) (ms := [x]) (ou := c) (b := d) hE hS h
    rw [List.append_nil] at this
    exact this
  rw [key _ _ _ hb, key _ _ _ hl]

/-- a statement whose numbers are in their bounds -/
def SB (n : Int) (m : Nat) (x : Sm) : Prop := (x.k = 61 ∧ 0 ≤ x.v ∧ x.v < m) ∨ (x.k = 62 ∧ 0 ≤ x.v ∧ x.v < n) ∨ x.k = 63 ∨ x.k = 64
/-- what holds between statements -/
structure Jn (s : ByteArray) (q : Tq) (p : Rs) : Prop where
  le : q.r.a ≤ s.size
  ev : q.cd.length % 2 = 0
  h : q.h = 0
  h0 : 0 ≤ q.hi
  nd : ∀ e, e < p.ex.length → need p.ex e ≤ q.hi
  hi : q.hi = 0 ∨ ∃ e, e < p.ex.length ∧ q.hi = need p.ex e
  eb : ExB p.n p.vs.length p.ex
  sb : ∀ x, x ∈ p.sm → SB p.n p.vs.length x
  srt : q.ss.Pairwise fun a b => a.pl ≤ b.pl
  pl : ∀ x, x ∈ q.ss → x.pl ≤ q.r.a
  n1 : 1 ≤ p.n
  ll : p.ls.length = p.vs.length
theorem Jn.r {s : ByteArray} {q : Tq} {p : Rs} (H : Jn s q p) {r r' : Rd} (h1 : q.r.a ≤ r.a) (h2 : r.a ≤ s.size) : Jn s { q with r := r } { p with r := r' } :=
  ⟨h2, H.ev, H.h, H.h0, H.nd, H.hi, H.eb, H.sb, H.srt, fun x hx => by have := H.pl x hx; have : (q.r.a : Int) ≤ r.a := Int.ofNat_le.2 h1; show x.pl ≤ (r.a : Int); omega, H.n1, H.ll⟩
theorem Jn.aim {s : ByteArray} {q : Tq} {p : Rs} (H : Jn s q p) (z : Nat) : Jn s (aimQ q z) p :=
  ⟨H.le, by show (q.cd.set _ _).length % 2 = 0; rw [List.length_set]; exact H.ev, H.h, H.h0, H.nd, H.hi, H.eb, H.sb, H.srt, H.pl, H.n1, H.ll⟩
theorem Jn.jump {s : ByteArray} {q : Tq} {p : Rs} (H : Jn s q p) (v : Int) : Jn s (emitQ q 8 v) p := by
  have e1 : max q.hi (q.h + givesF 8 - takesF 8) = q.hi := by rw [H.h, show givesF 8 = 0 from rfl, show takesF 8 = 0 from rfl]; have := H.h0; omega
  have e2 : q.h + givesF 8 - takesF 8 = 0 := by rw [H.h]; rfl
  refine ⟨H.le, ?_, e2, ?_, ?_, ?_, H.eb, H.sb, H.srt, H.pl, H.n1, H.ll⟩
  · show (q.cd ++ [8, v % 256]).length % 2 = 0
    rw [List.length_append]
    have := H.ev
    simp only [List.length_cons, List.length_nil]
    omega
  · show 0 ≤ max q.hi _; rw [e1]; exact H.h0
  · intro e he; show _ ≤ max q.hi _; rw [e1]; exact H.nd e he
  · show max q.hi _ = 0 ∨ _; rw [show (emitQ q 8 v).hi = max q.hi (q.h + givesF 8 - takesF 8) from rfl, e1]; exact H.hi
theorem Jn.sto {s : ByteArray} {q : Tq} {p : Rs} (H : Jn s q p) {x : Sm} {r : Rd} (hx : SB p.n p.vs.length x) : Jn s q (stoP p r x).1 :=
  ⟨H.le, H.ev, H.h, H.h0, H.nd, H.hi, H.eb, fun y hy => by
    have hy : y ∈ p.sm ++ [x] := hy
    rw [List.mem_append, List.mem_singleton] at hy
    rcases hy with c | c
    · exact H.sb y c
    · rw [c]; exact hx, H.srt, H.pl, H.n1, H.ll⟩

/-- how far one has come -/
theorem rem_mono {s : ByteArray} {r r' : Rd} (h : rem s r' ≤ rem s r) (h0 : r.er = 0) (h1 : r'.er = 0) (hl : r.a ≤ s.size) : r.a ≤ r'.a := by
  unfold rem at h
  rw [if_pos h0, if_pos h1] at h
  omega

/-- behind an expression: a statement is noted, and its value taken off the stack -/
theorem Jn.put {s : ByteArray} {q : Tq} {p : Rs} (H : Jn s q p) {r0 r : Rd} {x : Sq} {y : Tq × Sq} {z : Rs × Nat} (hS : SimE s ({ q with r := r0 }, x) { p with r := r0 } y z) (hH : SimH ({ q with r := r0 }, x) { p with r := r0 } y z)
    (hz : z.1.r.er = 0) (hE : ExOk p.ex) {op v : Int} (h1 : givesF op = 0) (h2 : takesF op = 1) (hp : (q.r.a : Int) ≤ x.pl) (hr : x.pl ≤ r.a) (hl : r.a ≤ s.size) : Jn s (emitQ (addQ { y.1 with r := r } y.2) op v) z.1 := by
  obtain ⟨m, e1, o1, l1, c1⟩ := hS.ok hz hE
  have e1 : z.1.ex = p.ex ++ m := e1
  have c1 : y.1.cd = q.cd ++ cod z.1.ex z.2 := c1
  have en : z.1.n = p.n := hS.fp.n
  have ev : z.1.vs = p.vs := hS.fp.vs
  have el : z.1.ls = p.ls := hS.fp.ls
  have hh : y.1.h = q.h + 1 := hH.h
  have hhi : y.1.hi = max q.hi (q.h + need z.1.ex z.2) := hH.hi
  have hq := H.h
  have h0 := H.h0
  have hn := need_pos z.1.ex z.2
  have hss : y.1.ss = q.ss := hS.ss
  have e2 : max y.1.hi (y.1.h + givesF op - takesF op) = max q.hi (need z.1.ex z.2) := by rw [h1, h2]; omega
  refine ⟨hl, ?_, ?_, ?_, ?_, ?_, ?_, ?_, ?_, ?_, ?_, ?_⟩
  · show (y.1.cd ++ [op, v % 256]).length % 2 = 0
    have := cod_even z.1.ex z.2
    have := H.ev
    rw [c1]
    simp only [List.length_append, List.length_cons, List.length_nil]
    omega
  · show y.1.h + givesF op - takesF op = 0
    rw [h1, h2]; omega
  · show 0 ≤ max y.1.hi (y.1.h + givesF op - takesF op)
    rw [e2]; omega
  · intro e he
    show need z.1.ex e ≤ max y.1.hi (y.1.h + givesF op - takesF op)
    rw [e2]
    by_cases hp : e < p.ex.length
    · have := H.nd e hp
      rw [show need z.1.ex e = need p.ex e from by rw [e1]; exact fol_ext _ _ _ hE hp]
      omega
    · have := hH.nd e (by show p.ex.length ≤ e; omega) he
      omega
  · show max y.1.hi (y.1.h + givesF op - takesF op) = 0 ∨ ∃ e, e < z.1.ex.length ∧ max y.1.hi (y.1.h + givesF op - takesF op) = need z.1.ex e
    rw [e2]
    by_cases hm : q.hi ≤ need z.1.ex z.2
    · exact .inr ⟨z.2, l1, by omega⟩
    · rcases H.hi with c | ⟨e, he, c⟩
      · omega
      · refine .inr ⟨e, by rw [e1, List.length_append]; omega, ?_⟩
        rw [show need z.1.ex e = need p.ex e from by rw [e1]; exact fol_ext _ _ _ hE he]
        omega
  · rw [en, ev]; exact hH.eb H.n1 H.ll H.eb
  · have es : z.1.sm = p.sm := hS.sm
    rw [en, ev, es]; exact H.sb
  · show (y.1.ss ++ [y.2]).Pairwise _
    rw [hss, List.pairwise_append]
    refine ⟨H.srt, List.pairwise_singleton _ _, fun a ha b hb => ?_⟩
    rw [List.mem_singleton] at hb
    have := H.pl a ha
    rw [hb, hH.pl]
    show a.pl ≤ x.pl
    omega
  · intro w hw
    have hw : w ∈ y.1.ss ++ [y.2] := hw
    rw [hss, List.mem_append, List.mem_singleton] at hw
    show w.pl ≤ (r.a : Int)
    rcases hw with c | c
    · have := H.pl w c; omega
    · rw [c, hH.pl]; exact hr
  · rw [en]; exact H.n1
  · rw [el, ev]; exact H.ll
end Go.Proofs.YtcnbifdlkalimabGreat

/-
  The plain mathematics of sources: statements, as the program notes them and as the document reads them, side by side; no condition but those that stand in each lemma.
-/
namespace Go.Proofs.YtcnbifdlkalimabGreat
open Go.RowKit
set_option linter.unusedVariables false

theorem SimH.sq {x y : Tq × Sq} {p : Rs} {z : Rs × Nat} (H : SimH x p y z) (h1 : x.2.rd = none6) (h2 : x.2.tp = none6) : y.2 = ⟨x.2.k, x.2.pl, x.2.ou, x.2.ta, reads p.vs z.1.ex z.2, tapes z.1.ex z.2⟩ := by
  have e1 : y.2.rd = reads p.vs z.1.ex z.2 := funext fun j => by rw [H.rd j, h1]; simp [none6]
  have e2 : y.2.tp = tapes z.1.ex z.2 := funext fun j => by rw [H.tp j, h2]; simp [none6]
  have a := H.k
  have b := H.pl
  have c := H.ou
  have d := H.ta
  obtain ⟨y1, y2⟩ := y
  obtain ⟨k, pl, ou, ta, rd, tp⟩ := y2
  dsimp only at *
  subst a; subst b; subst c; subst d; subst e1; subst e2
  rfl

/-- of one statement -/
def OneH (s : ByteArray) (ou : Int) (q : Tq) (p : Rs) (y : Tq) (z : Rs × Nat) : Prop :=
  z.1.r.er = 0 → ExOk p.ex → SmOk p.ex p.sm → Jn s q p → Mo p z.1 ∧ z.2 < z.1.sm.length ∧ Jn s y z.1 ∧ y.ss = q.ss ++ fl p.vs z.1.ex z.1.sm z.2 ou q.ss.length
/-- of some -/
def AllH (s : ByteArray) (ou : Int) (q : Tq) (p : Rs) (y : Tq) (z : Rs × List Nat) : Prop :=
  z.1.r.er = 0 → ExOk p.ex → SmOk p.ex p.sm → Jn s q p → Mo p z.1 ∧ (∀ n, n ∈ z.2 → n < z.1.sm.length) ∧ Jn s y z.1 ∧ y.ss = q.ss ++ fls p.vs z.1.ex z.1.sm z.2 ou q.ss.length

theorem ass_h (s : ByteArray) (ou : Int) (q : Tq) (p : Rs) (hA : Ag q p) (G : Gp s p) : OneH s ou q p (assQ s q ⟨0, (p.r.a : Nat), ou, 0, none6, none6⟩) (assP s p p.r.a) := by
  have hO := (ass_sim s q p ⟨0, (p.r.a : Nat), ou, 0, none6, none6⟩ p.r.a hA).2
  intro h hE hM J
  obtain ⟨M, hlt, _⟩ := hO h hE hM J.ev
  refine ⟨M, hlt, ?_⟩
  clear M hlt hO
  revert h
  unfold assQ assP
  dsimp only
  obtain ⟨r0, hr0⟩ : ∃ r0, tk s (varR s p.r p.ls) 61 = r0 := ⟨_, rfl⟩
  obtain ⟨vi, hvi⟩ : ∃ vi, varI s p.r p.ls = vi := ⟨_, rfl⟩
  rw [show tk s (varR s q.r q.ls) 61 = r0 from by rw [hA.r, hA.ls]; exact hr0, show varI s q.r q.ls = vi from by rw [hA.r, hA.ls]; exact hvi, hr0, hvi]
  have hI := ex_sim s ({ q with r := r0 }, { k := 1, pl := (p.r.a : Nat), ou := ou, ta := lvOf q vi, rd := none6, tp := none6 }) { p with r := r0 } ⟨rfl, hA.n, hA.ls, hA.vs⟩
  have hH := ex_h s ({ q with r := r0 }, { k := 1, pl := (p.r.a : Nat), ou := ou, ta := lvOf q vi, rd := none6, tp := none6 }) { p with r := r0 } ⟨rfl, hA.n, hA.ls, hA.vs⟩
  have G0 : r0.a ≤ s.size := by rw [← hr0]; exact tk_le (varR_le G.le) (by omega)
  have G2 := gp_ex (s := s) (G.r G0)
  generalize exQ s ({ q with r := r0 }, { k := 1, pl := (p.r.a : Nat), ou := ou, ta := lvOf q vi, rd := none6, tp := none6 }) = y at *
  generalize exP s { p with r := r0 } = z at *
  intro h
  have hz : z.1.r.er = 0 := tk_er h
  obtain ⟨m, e1, o1, l1, c1⟩ := hI.ok hz hE
  have e1 : z.1.ex = p.ex ++ m := e1
  have H := hH hz hE
  have hv1 := varR_er (tk_er (by rw [hr0]; exact hI.bad hz))
  have h4 := hI.le
  have c : rem s ({ p with r := r0 } : Rs).r = rem s r0 := rfl
  have h3 := rem_tk s z.1.r 59
  have h2 := rem_tk s (varR s p.r p.ls) 61
  rw [hr0] at h2
  have h1 := rem_varR s p.r p.ls
  have hmo : p.r.a ≤ (tk s z.1.r 59).a := rem_mono (by omega) hv1.1 h G.le
  have hle : (tk s z.1.r 59).a ≤ s.size := tk_le G2.le (by omega)
  have es : z.1.sm = p.sm := hI.sm
  have hM1 : SmOk z.1.ex z.1.sm := by rw [es, e1]; exact hM.more m
  have hvl := varI_lt hv1.2
  rw [hvi] at hvl
  have Jp := J.put (r := tk s z.1.r 59) (op := 2) (v := (vi : Int)) hI H hz hE rfl rfl (by rw [hA.r]; exact Int.le_refl _) (Int.ofNat_le.2 hmo) hle
  have en : z.1.n = p.n := hI.fp.n
  have ev : z.1.vs = p.vs := hI.fp.vs
  rw [show tk s y.1.r 59 = tk s z.1.r 59 from by rw [hI.r]]
  refine ⟨Jp.sto (x := ⟨61, p.r.a, vi, z.2, [], [], false⟩) (.inl ⟨rfl, by show (0 : Int) ≤ vi ∧ (vi : Int) < (z.1.vs.length : Nat); rw [ev, ← J.ll]; omega⟩), ?_⟩
  show y.1.ss ++ [y.2] = q.ss ++ fl p.vs z.1.ex (z.1.sm ++ [_]) z.1.sm.length ou q.ss.length
  rw [fl_new o1 hM1 l1 (by simp) (by simp), hI.ss, H.sq rfl rfl]
  show q.ss ++ [_] = q.ss ++ [_]
  unfold sqOf lvOf
  rw [hA.vs]
  simp

theorem wri_h (s : ByteArray) (ou : Int) (q : Tq) (p : Rs) (hA : Ag q p) (G : Gp s p) : OneH s ou q p (wriQ s q ⟨0, (p.r.a : Nat), ou, 0, none6, none6⟩) (wriP s p p.r.a) := by
  have hO := (wri_sim s q p ⟨0, (p.r.a : Nat), ou, 0, none6, none6⟩ p.r.a hA).2
  intro h hE hM J
  obtain ⟨M, hlt, _⟩ := hO h hE hM J.ev
  refine ⟨M, hlt, ?_⟩
  clear M hlt hO
  revert h
  unfold wriQ wriP
  dsimp only
  obtain ⟨r0, hr0⟩ : ∃ r0, digR s (tk s p.r 62) 0 (p.n - 1) = r0 := ⟨_, rfl⟩
  obtain ⟨vi, hvi⟩ : ∃ vi, dig s (tk s p.r 62) 0 (p.n - 1) = vi := ⟨_, rfl⟩
  rw [show digR s (tk s q.r 62) 0 (q.n - 1) = r0 from by rw [hA.r, hA.n]; exact hr0, show dig s (tk s q.r 62) 0 (q.n - 1) = vi from by rw [hA.r, hA.n]; exact hvi, hr0, hvi]
  have hI := ex_sim s ({ q with r := r0 }, { k := 2, pl := (p.r.a : Nat), ou := ou, ta := vi, rd := none6, tp := none6 }) { p with r := r0 } ⟨rfl, hA.n, hA.ls, hA.vs⟩
  have hH := ex_h s ({ q with r := r0 }, { k := 2, pl := (p.r.a : Nat), ou := ou, ta := vi, rd := none6, tp := none6 }) { p with r := r0 } ⟨rfl, hA.n, hA.ls, hA.vs⟩
  have G0 : r0.a ≤ s.size := by rw [← hr0]; exact digR_le (by omega) (tk_le G.le (by omega))
  have G2 := gp_ex (s := s) (G.r G0)
  generalize exQ s ({ q with r := r0 }, { k := 2, pl := (p.r.a : Nat), ou := ou, ta := vi, rd := none6, tp := none6 }) = y at *
  generalize exP s { p with r := r0 } = z at *
  intro h
  have hz : z.1.r.er = 0 := tk_er h
  obtain ⟨m, e1, o1, l1, c1⟩ := hI.ok hz hE
  have e1 : z.1.ex = p.ex ++ m := e1
  have H := hH hz hE
  have hv1 := tk_er (digR_er (by rw [hr0]; exact hI.bad hz))
  have h4 := hI.le
  have c : rem s ({ p with r := r0 } : Rs).r = rem s r0 := rfl
  have h3 := rem_tk s z.1.r 59
  have h2 := rem_digR s (tk s p.r 62) 0 (p.n - 1)
  rw [hr0] at h2
  have h1 := rem_tk s p.r 62
  have hmo : p.r.a ≤ (tk s z.1.r 59).a := rem_mono (by omega) hv1 h G.le
  have hle : (tk s z.1.r 59).a ≤ s.size := tk_le G2.le (by omega)
  have es : z.1.sm = p.sm := hI.sm
  have hM1 : SmOk z.1.ex z.1.sm := by rw [es, e1]; exact hM.more m
  have hvl := dig_in0 (s := s) (r := tk s p.r 62) J.n1
  rw [hvi] at hvl
  have Jp := J.put (r := tk s z.1.r 59) (op := 11) (v := vi) hI H hz hE rfl rfl (by rw [hA.r]; exact Int.le_refl _) (Int.ofNat_le.2 hmo) hle
  have en : z.1.n = p.n := hI.fp.n
  rw [show tk s y.1.r 59 = tk s z.1.r 59 from by rw [hI.r]]
  refine ⟨Jp.sto (x := ⟨62, p.r.a, vi, z.2, [], [], false⟩) (.inr (.inl ⟨rfl, by show 0 ≤ vi ∧ vi < z.1.n; rw [en]; exact hvl⟩)), ?_⟩
  show y.1.ss ++ [y.2] = q.ss ++ fl p.vs z.1.ex (z.1.sm ++ [_]) z.1.sm.length ou q.ss.length
  rw [fl_new o1 hM1 l1 (by simp) (by simp), hI.ss, H.sq rfl rfl]
  show q.ss ++ [_] = q.ss ++ [_]
  unfold sqOf
  simp

/-- the statements of a block -/
theorem loop_h (s : ByteArray) (K : Nat) (ou : Int) (ih : ∀ (q : Tq) (p : Rs), Ag q p → rem s p.r < K + 1 → Gp s p → OneH s ou q p (stmQ s (K + 1) ou q) (stmP s (K + 1) p)) :
    ∀ (k : Nat) (q0 : Tq) (p0 : Rs) (q : Tq) (p : Rs) (l : List Nat), Ag q0 p0 → rem s p0.r < K + 1 → SimS s q0 p0 q p → Gp s p → AllH s ou q0 p0 q (p, l) → (loopQ s (stmQ s (K + 1) ou) k q).r = (loopP s (stmP s (K + 1)) k p l).1.r → AllH s ou q0 p0 (loopQ s (stmQ s (K + 1) ou) k q) (loopP s (stmP s (K + 1)) k p l)
  | 0, q0, p0, q, p, l, hA, hK, hS, G, hL, hr => by
    intro h hE hM J
    obtain ⟨M, a, J1, b⟩ := hL (by rw [← adv_er s]; exact h) hE hM J
    refine ⟨⟨M.ex, M.sm, M.oe, M.os⟩, a, ?_, b⟩
    exact J1.r (r := adv s q.r) (adv_ge _ _) (by rw [hS.r]; exact adv_le G.le)
  | k + 1, q0, p0, q, p, l, hA, hK, hS, G, hL, hr => by
    simp only [loopQ, loopP] at hr ⊢
    rw [hS.r] at hr ⊢
    cases h : isS (tok s p.r) with
    | true =>
      have hn : tok s p.r ≠ 0 ∧ tok s p.r ≠ 125 := by
        unfold isS isL at h
        simp only [Bool.or_eq_true, decide_eq_true_eq, beq_iff_eq] at h
        omega
      have he := (tok_pos hn.1).1
      rw [h, if_pos ⟨he, hn.2⟩, if_pos rfl] at hr
      rw [if_pos ⟨he, hn.2⟩, if_pos rfl]
      have hA1 := hA.go hS.fq hS.fp hS.r
      have hle := hS.le
      have hrd := rem_adv s p.r
      have Ga : Gp s { p with r := adv s p.r } := G.r (adv_le G.le)
      have h1 := (stm_sim s (K + 1) ou { q with r := adv s p.r } { p with r := adv s p.r } ⟨rfl, hA1.n, hA1.ls, hA1.vs⟩ (by show rem s (adv s p.r) < _; omega)).1
      have h2 := ih { q with r := adv s p.r } { p with r := adv s p.r } ⟨rfl, hA1.n, hA1.ls, hA1.vs⟩ (by show rem s (adv s p.r) < _; omega) Ga
      refine loop_h s K ou ih k q0 p0 _ _ _ hA hK (hS.trans ⟨h1.r, Nat.le_trans h1.le hrd, fun e => by have := h1.bad e; exact he, ⟨h1.fq.n, h1.fq.pn, h1.fq.pr, h1.fq.ls, h1.fq.vs⟩, ⟨h1.fp.n, h1.fp.ls, h1.fp.vs⟩⟩) (gp_stm (K + 1) _ Ga) ?_ hr
      intro h hE hM J
      clear hr
      generalize stmQ s (K + 1) ou { q with r := adv s p.r } = y at *
      generalize stmP s (K + 1) { p with r := adv s p.r } = z at *
      obtain ⟨M, a, J1, b⟩ := hL he hE hM J
      have J2 : Jn s { q with r := adv s p.r } { p with r := adv s p.r } := J1.r (by rw [hS.r]; exact adv_ge _ _) (adv_le G.le)
      obtain ⟨M2, a2, J3, b2⟩ := h2 h M.oe M.os J2
      have M2 : Mo p z.1 := ⟨M2.ex, M2.sm, M2.oe, M2.os⟩
      have b2 : y.ss = q.ss ++ fl p.vs z.1.ex z.1.sm z.2 ou q.ss.length := b2
      have b : q.ss = q0.ss ++ fls p0.vs p.ex p.sm l ou q0.ss.length := b
      have ev : p.vs = p0.vs := hS.fp.vs
      refine ⟨M.trans M2, fun n hn => ?_, J3, ?_⟩
      · rw [List.mem_append, List.mem_singleton] at hn
        rcases hn with hn | hn
        · exact M2.lt (a n hn)
        · rw [hn]; exact a2
      · rw [b2]
        show _ = q0.ss ++ flG (fl p0.vs z.1.ex z.1.sm) (l ++ [z.2]) ou q0.ss.length
        rw [flG_add]
        have e1 : flG (fl p0.vs z.1.ex z.1.sm) l ou q0.ss.length = fls p0.vs p.ex p.sm l ou q0.ss.length := M2.fls M.oe M.os _ a _ _
        rw [e1, ev, b, List.append_assoc, List.length_append]
    | false =>
      rw [h, if_neg (show ¬ (false = true) from by simp)] at hr
      rw [if_neg (show ¬ (false = true) from by simp)]
      by_cases hq : p.r.er = 0 ∧ tok s p.r ≠ 125
      · rw [if_pos hq] at hr
        exfalso
        have hd := stm_dead (s := s) (k := K) (ou := ou) (q := { q with r := adv s p.r }) (by show isS (tok s (adv s p.r)) = false; rw [tok_adv]; exact h)
        have hr2 : (stmQ s (K + 1) ou { q with r := adv s p.r }).r = rfs (adv s p.r) 11 := by rw [hd.1]; show rfs (adv s (adv s p.r)) 11 = _; rw [adv_adv]
        have hb : (rfs (adv s p.r) 11).er ≠ 0 := rfs_er (by omega)
        generalize stmQ s (K + 1) ou { q with r := adv s p.r } = y at *
        have hy : loopQ s (stmQ s (K + 1) ou) k y = y := by
          cases k with
          | zero => simp only [loopQ]; rw [adv_bad (by rw [hr2]; exact hb)]
          | succ k => simp only [loopQ]; rw [if_neg (fun c => hb (by rw [← hr2]; exact c.1)), adv_bad (by rw [hr2]; exact hb)]
        rw [hy, hr2] at hr
        have := congrArg Rd.er hr
        have e3 : (adv s p.r).er = 0 := by rw [adv_er]; exact hq.1
        exact hb (this.trans e3)
      · rw [if_neg hq]
        intro h hE hM J
        obtain ⟨M, a, J1, b⟩ := hL (by rw [← adv_er s]; exact h) hE hM J
        refine ⟨⟨M.ex, M.sm, M.oe, M.os⟩, a, ?_, b⟩
        exact J1.r (r := adv s p.r) (by rw [hS.r]; exact adv_ge _ _) (adv_le G.le)

theorem tk_ge (s : ByteArray) (r : Rd) (c : Int) : r.a ≤ (tk s r c).a := by
  have := adv_ge s r
  unfold tk tkIf
  split
  · unfold nx
    split
    · show r.a ≤ (adv s r).a + 1; omega
    · exact this
  · rw [rfs_a]; exact this

/-- a block -/
theorem blk_h (s : ByteArray) (K : Nat) (ou : Int) (ih : ∀ (q : Tq) (p : Rs), Ag q p → rem s p.r < K + 1 → Gp s p → OneH s ou q p (stmQ s (K + 1) ou q) (stmP s (K + 1) p)) (k : Nat) (q : Tq) (p : Rs) (hA : Ag q p) (hK : rem s p.r < K + 1) (G : Gp s p) :
    AllH s ou q p (blkQ s (stmQ s (K + 1) ou) k q) (blkP s (stmP s (K + 1)) k p) := by
  have hr := hA.r
  unfold blkQ blkP
  rw [hr]
  have hk := rem_tk s p.r 123
  have G1 : Gp s { p with r := tk s p.r 123 } := G.r (tk_le G.le (by omega))
  have hl := loop_sim s K ou (stm_sim s (K + 1) ou) k { q with r := tk s p.r 123 } { p with r := tk s p.r 123 } { q with r := tk s p.r 123 } { p with r := tk s p.r 123 } [] ⟨rfl, hA.n, hA.ls, hA.vs⟩ (by show rem s (tk s p.r 123) < _; omega) (SimS.refl rfl) (fun _ hE hM _ => ⟨⟨⟨[], by simp⟩, ⟨[], by simp⟩, hE, hM⟩, fun n hn => by simp at hn, by simp [als, allG]⟩)
  have hH := loop_h s K ou ih k { q with r := tk s p.r 123 } { p with r := tk s p.r 123 } { q with r := tk s p.r 123 } { p with r := tk s p.r 123 } [] ⟨rfl, hA.n, hA.ls, hA.vs⟩ (by show rem s (tk s p.r 123) < _; omega) (SimS.refl rfl) G1 (fun _ hE hM J => ⟨⟨⟨[], by simp⟩, ⟨[], by simp⟩, hE, hM⟩, fun n hn => by simp at hn, J, by simp [fls, flG]⟩)
  have G2 := gp_loop (s := s) (gp_stm (K + 1)) k { p with r := tk s p.r 123 } [] G1
  generalize loopQ s (stmQ s (K + 1) ou) k { q with r := tk s p.r 123 } = y at *
  generalize loopP s (stmP s (K + 1)) k { p with r := tk s p.r 123 } [] = z at *
  have hok : (tk s z.1.r 125).er = 0 → y.r = z.1.r := by
    intro h
    rcases hl.e with e | ⟨e1, e2, e3, e4⟩
    · exact e
    · have := (tkIf_er (by omega) h).2
      rw [beq_iff_eq] at this
      exact absurd this e3
  intro h hE hM J
  have h : (tk s z.1.r 125).er = 0 := h
  have ey := hok h
  obtain ⟨M, a, J1, b⟩ := hH ey (tk_er h) hE hM (J.r (r := tk s p.r 123) (by rw [hr]; exact tk_ge _ _ _) (tk_le G.le (by omega)))
  refine ⟨⟨M.ex, M.sm, M.oe, M.os⟩, a, J1.r (tk_ge _ _ _) (by rw [ey]; exact tk_le G2.le (by omega)), b⟩
end Go.Proofs.YtcnbifdlkalimabGreat

/-
  The plain mathematics of sources: choices, loops, the whole source, as the program notes them and as the document reads them; no condition but those that stand in each lemma.
-/
namespace Go.Proofs.YtcnbifdlkalimabGreat
open Go.RowKit
set_option linter.unusedVariables false

/-- the expression of a choice or of a loop, and the first block -/
theorem part_h (s : ByteArray) (K : Nat) (ih : ∀ (ou : Int) (q : Tq) (p : Rs), Ag q p → rem s p.r < K + 1 → Gp s p → OneH s ou q p (stmQ s (K + 1) ou q) (stmP s (K + 1) p)) (ou kk : Int) (q : Tq) (p : Rs) (ch : Int) (hc : ch ≠ 0) (hA : Ag q p) (G : Gp s p) (hK : rem s (tk s p.r ch) < K + 1) (y : Tq × Sq) (z : Rs × Nat)
    (hy : exQ s ({ q with r := tk s p.r ch }, ⟨kk, (p.r.a : Nat), ou, 0, none6, none6⟩) = y) (hz : exP s { p with r := tk s p.r ch } = z) :
    (blkP s (stmP s (K + 1)) (K + 1) z.1).1.r.er = 0 → ExOk p.ex → SmOk p.ex p.sm → Jn s q p →
      Mo p (blkP s (stmP s (K + 1)) (K + 1) z.1).1 ∧ (∀ n, n ∈ (blkP s (stmP s (K + 1)) (K + 1) z.1).2 → n < (blkP s (stmP s (K + 1)) (K + 1) z.1).1.sm.length) ∧ z.2 < (blkP s (stmP s (K + 1)) (K + 1) z.1).1.ex.length ∧
      Jn s (blkQ s (stmQ s (K + 1) y.1.ss.length) (K + 1) (emitQ (addQ y.1 y.2) 9 0)) (blkP s (stmP s (K + 1)) (K + 1) z.1).1 ∧ y.1.ss.length = q.ss.length ∧
      (blkQ s (stmQ s (K + 1) y.1.ss.length) (K + 1) (emitQ (addQ y.1 y.2) 9 0)).ss = q.ss ++ (⟨kk, (p.r.a : Nat), ou, 0, reads p.vs (blkP s (stmP s (K + 1)) (K + 1) z.1).1.ex z.2, tapes (blkP s (stmP s (K + 1)) (K + 1) z.1).1.ex z.2⟩ ::
        fls p.vs (blkP s (stmP s (K + 1)) (K + 1) z.1).1.ex (blkP s (stmP s (K + 1)) (K + 1) z.1).1.sm (blkP s (stmP s (K + 1)) (K + 1) z.1).2 (q.ss.length : Nat) (q.ss.length + 1)) := by
  have hI := ex_sim s ({ q with r := tk s p.r ch }, ⟨kk, (p.r.a : Nat), ou, 0, none6, none6⟩) { p with r := tk s p.r ch } ⟨rfl, hA.n, hA.ls, hA.vs⟩
  have hH := ex_h s ({ q with r := tk s p.r ch }, ⟨kk, (p.r.a : Nat), ou, 0, none6, none6⟩) { p with r := tk s p.r ch } ⟨rfl, hA.n, hA.ls, hA.vs⟩
  have G1 : Gp s { p with r := tk s p.r ch } := G.r (tk_le G.le hc)
  have G2 := gp_ex (s := s) G1
  rw [hy, hz] at hI hH
  rw [hz] at G2
  have c : rem s ({ p with r := tk s p.r ch } : Rs).r = rem s (tk s p.r ch) := rfl
  have h4 := hI.le
  have hr := rem_tk s p.r ch
  have hA1 : Ag (emitQ (addQ y.1 y.2) 9 0) z.1 := ⟨hI.r, by show y.1.n = _; rw [hI.fq.n, hI.fp.n]; exact hA.n, by show y.1.ls = _; rw [hI.fq.ls, hI.fp.ls]; exact hA.ls, by show y.1.vs = _; rw [hI.fq.vs, hI.fp.vs]; exact hA.vs⟩
  have hB := (blk_sim s K y.1.ss.length (stm_sim s (K + 1) _) (K + 1) (emitQ (addQ y.1 y.2) 9 0) z.1 hA1 (by omega)).1
  have hBH := blk_h s K y.1.ss.length (ih _) (K + 1) (emitQ (addQ y.1 y.2) 9 0) z.1 hA1 (by omega) G2
  generalize blkQ s (stmQ s (K + 1) y.1.ss.length) (K + 1) (emitQ (addQ y.1 y.2) 9 0) = u at *
  generalize blkP s (stmP s (K + 1)) (K + 1) z.1 = v at *
  intro h hE hM J
  have hz0 : z.1.r.er = 0 := hB.bad h
  obtain ⟨m, e1, o1, l1, c1⟩ := hI.ok hz0 hE
  have e1 : z.1.ex = p.ex ++ m := e1
  have es : z.1.sm = p.sm := hI.sm
  have hM1 : SmOk z.1.ex z.1.sm := by rw [es, e1]; exact hM.more m
  have H := hH hz0 hE
  have hp0 : p.r.er = 0 := tk_er (hI.bad hz0)
  have hmo : p.r.a ≤ z.1.r.a := rem_mono (by omega) hp0 hz0 G.le
  have Jp : Jn s (emitQ (addQ y.1 y.2) 9 0) z.1 := J.put (r := y.1.r) (op := 9) (v := 0) hI H hz0 hE rfl rfl (by rw [hA.r]; exact Int.le_refl _) (by rw [hI.r]; exact Int.ofNat_le.2 hmo) (by rw [hI.r]; exact G2.le)
  obtain ⟨M, a, J2, b⟩ := hBH h o1 hM1 Jp
  have ev : z.1.vs = p.vs := hI.fp.vs
  have hss : y.1.ss = q.ss := hI.ss
  have b : u.ss = (y.1.ss ++ [y.2]) ++ fls z.1.vs v.1.ex v.1.sm v.2 y.1.ss.length (y.1.ss ++ [y.2]).length := b
  have hsq := H.sq rfl rfl
  have er : reads p.vs v.1.ex z.2 = reads p.vs z.1.ex z.2 := by
    obtain ⟨m1, e⟩ := M.ex
    rw [e]
    exact funext fun j => fol_ext _ _ _ o1 l1
  have et : tapes v.1.ex z.2 = tapes z.1.ex z.2 := by
    obtain ⟨m1, e⟩ := M.ex
    rw [e]
    exact funext fun j => fol_ext _ _ _ o1 l1
  refine ⟨Mo.trans ⟨⟨m, e1⟩, ⟨[], by rw [es]; simp⟩, o1, hM1⟩ M, a, M.lte l1, J2, by rw [hss], ?_⟩
  rw [b, hsq, hss, ev, er, et]
  show q.ss ++ [_] ++ fls p.vs v.1.ex v.1.sm v.2 _ (q.ss ++ [_]).length = _
  rw [List.length_append, List.append_assoc]
  rfl

theorem rep_h (s : ByteArray) (K : Nat) (ih : ∀ (ou : Int) (q : Tq) (p : Rs), Ag q p → rem s p.r < K + 1 → Gp s p → OneH s ou q p (stmQ s (K + 1) ou q) (stmP s (K + 1) p)) (ou : Int) (q : Tq) (p : Rs) (hA : Ag q p) (G : Gp s p) (hK : rem s (tk s p.r 64) < K + 1) :
    OneH s ou q p (repQ s (stmQ s (K + 1)) (K + 1) q ⟨0, (p.r.a : Nat), ou, 0, none6, none6⟩) (repP s (stmP s (K + 1)) (K + 1) p p.r.a) := by
  have hP := part_h s K ih ou 4 q p 64 (by omega) hA G hK _ _ rfl rfl
  unfold repQ repP
  dsimp only
  rw [hA.r]
  generalize exQ s ({ q with r := tk s p.r 64 }, { k := 4, pl := (p.r.a : Nat), ou := ou, ta := 0, rd := none6, tp := none6 }) = y at *
  generalize exP s { p with r := tk s p.r 64 } = z at *
  generalize blkQ s (stmQ s (K + 1) y.1.ss.length) (K + 1) (emitQ (addQ y.1 y.2) 9 0) = u at *
  generalize blkP s (stmP s (K + 1)) (K + 1) z.1 = v at *
  intro h hE hM J
  obtain ⟨M, a1, l1, J2, hl, b⟩ := hP h hE hM J
  obtain ⟨m1, e1⟩ := M.sm
  refine ⟨⟨M.ex, ⟨m1 ++ [_], by show v.1.sm ++ [_] = _; rw [e1, List.append_assoc]⟩, M.oe, M.os.add l1 a1 (by simp)⟩, by simp [stoP], ((J2.jump _).aim _).sto (.inr (.inr (.inr rfl))), ?_⟩
  show u.ss = q.ss ++ fl p.vs v.1.ex (v.1.sm ++ [_]) v.1.sm.length ou q.ss.length
  rw [fl_new M.oe M.os l1 a1 (by simp), b]
  simp [fls, flG, sqOf]

theorem nx_ge (r : Rd) : r.a ≤ (nx r).a := by
  unfold nx
  split
  · show r.a ≤ r.a + 1; omega
  · exact Nat.le_refl _

theorem cho_h (s : ByteArray) (K : Nat) (ih : ∀ (ou : Int) (q : Tq) (p : Rs), Ag q p → rem s p.r < K + 1 → Gp s p → OneH s ou q p (stmQ s (K + 1) ou q) (stmP s (K + 1) p)) (ou : Int) (q : Tq) (p : Rs) (hA : Ag q p) (G : Gp s p) (hK : rem s (tk s p.r 63) < K + 1) :
    OneH s ou q p (choQ s (stmQ s (K + 1)) (K + 1) q ⟨0, (p.r.a : Nat), ou, 0, none6, none6⟩) (choP s (stmP s (K + 1)) (K + 1) p p.r.a) := by
  have hP := part_h s K ih ou 3 q p 63 (by omega) hA G hK _ _ rfl rfl
  have hS := part_sim s K (stm_sim s (K + 1)) q p ⟨3, (p.r.a : Nat), ou, 0, none6, none6⟩ 63 hA hK _ _ rfl rfl
  have G1 : Gp s { p with r := tk s p.r 63 } := G.r (tk_le G.le (by omega))
  have G2 := gp_ex (s := s) G1
  have hz1 := (ex_sim s ({ q with r := tk s p.r 63 }, ⟨3, (p.r.a : Nat), ou, 0, none6, none6⟩) { p with r := tk s p.r 63 } ⟨rfl, hA.n, hA.ls, hA.vs⟩).le
  unfold choQ choP
  dsimp only
  rw [hA.r]
  generalize exQ s ({ q with r := tk s p.r 63 }, { k := 3, pl := (p.r.a : Nat), ou := ou, ta := 0, rd := none6, tp := none6 }) = y at *
  generalize exP s { p with r := tk s p.r 63 } = z at *
  have hvr : rem s (blkP s (stmP s (K + 1)) (K + 1) z.1).1.r < K + 1 := by
    have c : rem s ({ p with r := tk s p.r 63 } : Rs).r = rem s (tk s p.r 63) := rfl
    have := remP_blk s K (K + 1) z.1 (by omega)
    omega
  have Gv : Gp s (blkP s (stmP s (K + 1)) (K + 1) z.1).1 := gp_blk (gp_stm (K + 1)) (K + 1) G2
  generalize hu : blkQ s (stmQ s (K + 1) y.1.ss.length) (K + 1) (emitQ (addQ y.1 y.2) 9 0) = u at *
  generalize hv : blkP s (stmP s (K + 1)) (K + 1) z.1 = v at *
  have hB := hS.1
  rw [hB.r]
  by_cases ht : tok s v.1.r = 58
  · rw [if_pos ht, if_pos ht]
    have hlt := rem_tok (s := s) (r := v.1.r) (by omega)
    have er1 : v.1.r.er = 0 := (tok_pos (s := s) (r := v.1.r) (by omega)).1
    have hAv := hA.go hB.fq hB.fp hB.r
    have Gn : Gp s { v.1 with r := nx (adv s v.1.r) } := Gv.r (nxt_le (by omega))
    have hO := blk_h s K y.1.ss.length (ih _) (K + 1) (aimQ (emitQ { u with r := nx (adv s v.1.r) } 8 0) (plQ y.1)) { v.1 with r := nx (adv s v.1.r) } ⟨rfl, hAv.n, hAv.ls, hAv.vs⟩ (by show rem s (nx (adv s v.1.r)) < _; omega) Gn
    have hJ : Jn s u v.1 → Jn s (aimQ (emitQ { u with r := nx (adv s v.1.r) } 8 0) (plQ y.1)) { v.1 with r := nx (adv s v.1.r) } := fun J => ((J.r (r := nx (adv s v.1.r)) (by rw [hB.r]; exact Nat.le_trans (adv_ge _ _) (nx_ge _)) (nxt_le (by omega))).jump 0).aim _
    have hsu : (aimQ (emitQ { u with r := nx (adv s v.1.r) } 8 0) (plQ y.1)).ss = u.ss := rfl
    generalize aimQ (emitQ { u with r := nx (adv s v.1.r) } 8 0) (plQ y.1) = u1 at *
    generalize blkQ s (stmQ s (K + 1) y.1.ss.length) (K + 1) u1 = u2 at *
    generalize blkP s (stmP s (K + 1)) (K + 1) { v.1 with r := nx (adv s v.1.r) } = c at *
    intro h hE hM J
    obtain ⟨M, a1, l1, J2, hl, b⟩ := hP er1 hE hM J
    obtain ⟨M2, a2, J3, b2⟩ := hO h M.oe M.os (hJ J2)
    have M2 : Mo v.1 c.1 := ⟨M2.ex, M2.sm, M2.oe, M2.os⟩
    obtain ⟨m1, e1⟩ := (M.trans M2).sm
    have lc : z.2 < c.1.ex.length := M2.lte l1
    have ac : ∀ m, m ∈ v.2 → m < c.1.sm.length := fun m hm => M2.lt (a1 m hm)
    have ev : v.1.vs = p.vs := hB.fp.vs
    refine ⟨⟨(M.trans M2).ex, ⟨m1 ++ [_], by show c.1.sm ++ [_] = _; rw [e1, List.append_assoc]⟩, M2.oe, M2.os.add lc ac a2⟩, by simp [stoP], (J3.aim _).sto (.inr (.inr (.inl rfl))), ?_⟩
    show u2.ss = q.ss ++ fl p.vs c.1.ex (c.1.sm ++ [_]) c.1.sm.length ou q.ss.length
    rw [fl_new M2.oe M2.os lc ac a2]
    have b2 : u2.ss = u1.ss ++ fls v.1.vs c.1.ex c.1.sm c.2 y.1.ss.length u1.ss.length := b2
    have er : reads p.vs v.1.ex z.2 = reads p.vs c.1.ex z.2 := by
      obtain ⟨m1, e⟩ := M2.ex
      rw [e]
      exact (funext fun j => fol_ext _ _ _ M.oe l1).symm
    have et : tapes v.1.ex z.2 = tapes c.1.ex z.2 := by
      obtain ⟨m1, e⟩ := M2.ex
      rw [e]
      exact (funext fun j => fol_ext _ _ _ M.oe l1).symm
    rw [b2, hsu, b, hl, ev, er, et, ← M2.fls M.oe M.os p.vs a1]
    dsimp only
    rw [List.append_assoc, List.cons_append, List.length_append, List.length_cons]
    have e5 : q.ss.length + ((fls p.vs c.1.ex c.1.sm v.2 (q.ss.length : Nat) (q.ss.length + 1)).length + 1) = q.ss.length + 1 + (fls p.vs c.1.ex c.1.sm v.2 (q.ss.length : Nat) (q.ss.length + 1)).length := by omega
    rw [e5]
    rfl
  · rw [if_neg ht, if_neg ht]
    intro h hE hM J
    have h : (adv s v.1.r).er = 0 := h
    obtain ⟨M, a1, l1, J2, hl, b⟩ := hP (by rw [← adv_er s]; exact h) hE hM J
    obtain ⟨m1, e1⟩ := M.sm
    refine ⟨⟨M.ex, ⟨m1 ++ [_], by show v.1.sm ++ [_] = _; rw [e1, List.append_assoc]⟩, M.oe, M.os.add l1 a1 (by simp)⟩, by simp [stoP], ?_, ?_⟩
    · have J3 : Jn s { u with r := adv s v.1.r } v.1 := J2.r (r' := v.1.r) (by rw [hB.r]; exact adv_ge _ _) (adv_le Gv.le)
      exact (J3.aim _).sto (.inr (.inr (.inl rfl)))
    · show u.ss = q.ss ++ fl p.vs v.1.ex (v.1.sm ++ [_]) v.1.sm.length ou q.ss.length
      rw [fl_new M.oe M.os l1 a1 (by simp), b]
      simp [fls, flG, sqOf]

theorem stm_h (s : ByteArray) : ∀ (k : Nat) (ou : Int) (q : Tq) (p : Rs), Ag q p → rem s p.r < k → Gp s p → OneH s ou q p (stmQ s k ou q) (stmP s k p)
  | 0, ou, q, p, hA, hk, G => by omega
  | k + 1, ou, q, p, hA, hk, G => by
    have hA1 : Ag { q with r := adv s p.r } { p with r := adv s p.r } := ⟨rfl, hA.n, hA.ls, hA.vs⟩
    have hrd := rem_adv s p.r
    have Ga : Gp s { p with r := adv s p.r } := G.r (adv_le G.le)
    have fin : ∀ (y : Tq) (z : Rs × Nat), OneH s ou { q with r := adv s p.r } { p with r := adv s p.r } y z → OneH s ou q p y z := fun y z h e hE hM J => by
      obtain ⟨M, a, J2, b⟩ := h e hE hM (J.r (by rw [hA.r]; exact adv_ge _ _) (adv_le G.le))
      exact ⟨⟨M.ex, M.sm, M.oe, M.os⟩, a, J2, b⟩
    simp only [stmQ, stmP]
    rw [hA.r]
    by_cases h1 : tok s p.r = 62
    · rw [if_pos h1, if_pos h1]
      exact fin _ _ (wri_h s ou _ _ hA1 Ga)
    · rw [if_neg h1, if_neg h1]
      by_cases h2 : tok s p.r = 63
      · rw [if_pos h2, if_pos h2]
        have hlt := rem_tok (s := s) (r := p.r) (by omega)
        have e1 : tk s (adv s p.r) 63 = nx (adv s p.r) := by rw [← h2]; exact tok_idem (by omega)
        obtain ⟨K, rfl⟩ : ∃ K, k = K + 1 := ⟨k - 1, by omega⟩
        exact fin _ _ (cho_h s K (stm_h s (K + 1)) ou _ _ hA1 Ga (by show rem s (tk s (adv s p.r) 63) < _; rw [e1]; omega))
      · rw [if_neg h2, if_neg h2]
        by_cases h3 : tok s p.r = 64
        · rw [if_pos h3, if_pos h3]
          have hlt := rem_tok (s := s) (r := p.r) (by omega)
          have e1 : tk s (adv s p.r) 64 = nx (adv s p.r) := by rw [← h3]; exact tok_idem (by omega)
          obtain ⟨K, rfl⟩ : ∃ K, k = K + 1 := ⟨k - 1, by omega⟩
          exact fin _ _ (rep_h s K (stm_h s (K + 1)) ou _ _ hA1 Ga (by show rem s (tk s (adv s p.r) 64) < _; rw [e1]; omega))
        · rw [if_neg h3, if_neg h3]
          exact fin _ _ (ass_h s ou _ _ hA1 Ga)

theorem body_h (s : ByteArray) : ∀ (k : Nat) (q0 : Tq) (p0 : Rs) (q : Tq) (p : Rs) (l : List Nat), Ag q0 p0 → SimS s q0 p0 q p → Gp s p → AllH s (-1) q0 p0 q (p, l) → rem s p.r < k → (bodyQ s k q).r.er = 0 → AllH s (-1) q0 p0 (bodyQ s k q) (loopP s (stmP s (s.size + 2)) k p l)
  | 0, q0, p0, q, p, l, hA, hS, G, hL, hk, hr => by omega
  | k + 1, q0, p0, q, p, l, hA, hS, G, hL, hk, hr => by
    simp only [bodyQ, loopP] at hr ⊢
    rw [hS.r] at hr ⊢
    cases h : isS (tok s p.r) with
    | true =>
      have hn : tok s p.r ≠ 0 := by
        unfold isS isL at h
        simp only [Bool.or_eq_true, decide_eq_true_eq, beq_iff_eq] at h
        omega
      have he := tok_pos hn
      rw [if_pos he] at hr
      rw [if_pos he, if_pos rfl]
      have hA1 := hA.go hS.fq hS.fp hS.r
      have hrd := rem_adv s p.r
      have hz := rem_le s (adv s p.r)
      have Ga : Gp s { p with r := adv s p.r } := G.r (adv_le G.le)
      have h1 := (stm_sim s (s.size + 2) (-1) { q with r := adv s p.r } { p with r := adv s p.r } ⟨rfl, hA1.n, hA1.ls, hA1.vs⟩ (by show rem s (adv s p.r) < _; omega)).1
      have h2 := stm_h s (s.size + 2) (-1) { q with r := adv s p.r } { p with r := adv s p.r } ⟨rfl, hA1.n, hA1.ls, hA1.vs⟩ (by show rem s (adv s p.r) < _; omega) Ga
      have hlt := remP_lt s (s.size + 2) { p with r := adv s p.r } (by show rem s (adv s p.r) < _; omega) (by show tok s (adv s p.r) ≠ 0; rw [tok_adv]; exact hn)
      have hlt : rem s (stmP s (s.size + 2) { p with r := adv s p.r }).1.r < rem s (adv s p.r) := hlt
      have he0 := he.1
      refine body_h s k q0 p0 _ _ _ hA (hS.trans ⟨h1.r, Nat.le_trans h1.le hrd, fun e => he0, ⟨h1.fq.n, h1.fq.pn, h1.fq.pr, h1.fq.ls, h1.fq.vs⟩, ⟨h1.fp.n, h1.fp.ls, h1.fp.vs⟩⟩) (gp_stm (s.size + 2) _ Ga) ?_ (by omega) hr
      intro h hE hM J
      clear hr
      generalize stmQ s (s.size + 2) (-1) { q with r := adv s p.r } = y at *
      generalize stmP s (s.size + 2) { p with r := adv s p.r } = z at *
      obtain ⟨M, a, J1, b⟩ := hL he0 hE hM J
      have J2 : Jn s { q with r := adv s p.r } { p with r := adv s p.r } := J1.r (by rw [hS.r]; exact adv_ge _ _) (adv_le G.le)
      obtain ⟨M2, a2, J3, b2⟩ := h2 h M.oe M.os J2
      have M2 : Mo p z.1 := ⟨M2.ex, M2.sm, M2.oe, M2.os⟩
      have b2 : y.ss = q.ss ++ fl p.vs z.1.ex z.1.sm z.2 (-1) q.ss.length := b2
      have b : q.ss = q0.ss ++ fls p0.vs p.ex p.sm l (-1) q0.ss.length := b
      have ev : p.vs = p0.vs := hS.fp.vs
      refine ⟨M.trans M2, fun n hn => ?_, J3, ?_⟩
      · rw [List.mem_append, List.mem_singleton] at hn
        rcases hn with hn | hn
        · exact M2.lt (a n hn)
        · rw [hn]; exact a2
      · rw [b2]
        show _ = q0.ss ++ flG (fl p0.vs z.1.ex z.1.sm) (l ++ [z.2]) (-1) q0.ss.length
        rw [flG_add]
        have e1 : flG (fl p0.vs z.1.ex z.1.sm) l (-1) q0.ss.length = fls p0.vs p.ex p.sm l (-1) q0.ss.length := M2.fls M.oe M.os _ a _ _
        rw [e1, ev, b, List.append_assoc, List.length_append]
    | false =>
      rw [if_neg (show ¬ (false = true) from by simp)]
      by_cases hq : p.r.er = 0 ∧ (adv s p.r).a < s.size
      · rw [if_pos hq] at hr
        exfalso
        have hd := stm_dead (s := s) (k := s.size + 1) (ou := -1) (q := { q with r := adv s p.r }) (by show isS (tok s (adv s p.r)) = false; rw [tok_adv]; exact h)
        have hr2 : (stmQ s (s.size + 2) (-1) { q with r := adv s p.r }).r = rfs (adv s p.r) 11 := by rw [hd.1]; show rfs (adv s (adv s p.r)) 11 = _; rw [adv_adv]
        have hb : (rfs (adv s p.r) 11).er ≠ 0 := rfs_er (by omega)
        generalize stmQ s (s.size + 2) (-1) { q with r := adv s p.r } = y at *
        rw [bodyQ_bad (by rw [hr2]; exact hb), hr2] at hr
        exact hb hr
      · rw [if_neg hq]
        intro h hE hM J
        obtain ⟨M, a, J1, b⟩ := hL (by rw [← adv_er s]; exact h) hE hM J
        refine ⟨⟨M.ex, M.sm, M.oe, M.os⟩, a, ?_, b⟩
        exact J1.r (r := adv s p.r) (by rw [hS.r]; exact adv_ge _ _) (adv_le G.le)

/-- what both have noted of a source without an error -/
theorem read_h (s : ByteArray) (G : Gp s (headP s)) (he : (endP s).er = 0) : Jn s (readQ s) (readP s).1 ∧ (readQ s).ss = fls (headP s).vs (readP s).1.ex (readP s).1.sm (readP s).2 (-1) 0 := by
  have hH := head_sim s
  have hR := read_sim s
  have h0 : (readP s).1.r.er = 0 := by
    unfold endP at he
    split at he
    · exact absurd he (rfs_er (by omega))
    · exact he
  have hh : (headP s).r.er = 0 := by
    by_cases c : (headP s).r.er = 0
    · exact c
    · exfalso
      have e1 : readP s = (headP s, []) := loopP_bad c _
      rw [e1] at h0
      exact c h0
  obtain ⟨hA, hpn, hPr, hIn, n1, n6⟩ := hH.ok hh
  have hll : (headP s).ls.length = (headP s).vs.length := by
    have key : ∀ k r (ls vs : List Int), ls.length = vs.length → (decsP s (nP s) k r ls vs).2.1.length = (decsP s (nP s) k r ls vs).2.2.length := by
      intro k
      induction k with
      | zero => intro r ls vs h; exact h
      | succ k ih =>
        intro r ls vs h
        simp only [decsP]
        split
        · split
          · exact h
          · exact ih _ _ _ (by simp [h])
        · exact h
    exact key _ _ _ _ rfl
  have J0 : Jn s (headQ s startQ) (headP s) := by
    refine ⟨by rw [hA.r]; exact G.le, by rw [hH.cd]; rfl, hH.h, by rw [hH.hi]; exact Int.le_refl _, fun e h => ?_, .inl hH.hi, fun x hx => ?_, fun x hx => ?_, by rw [hH.ss]; exact List.Pairwise.nil, fun x hx => ?_, n1, hll⟩
    · simp [headP] at h
    · simp [headP] at hx
    · simp [headP] at hx
    · rw [hH.ss] at hx; simp at hx
  have hr0 : (readQ s).r.er = 0 := by rw [hR.r]; exact he
  have hB := body_h s (s.size + 1) (headQ s startQ) (headP s) (headQ s startQ) (headP s) [] hA (SimS.refl hA.r) G (fun _ hE hM J => ⟨⟨⟨[], by simp⟩, ⟨[], by simp⟩, hE, hM⟩, fun n hn => by simp at hn, J, by simp [fls, flG]⟩) (by have := rem_le s (headP s).r; omega) hr0
  have hB : AllH s (-1) (headQ s startQ) (headP s) (readQ s) (readP s) := hB
  obtain ⟨M, a, J, b⟩ := hB h0 (fun e x hx => by simp [headP] at hx) (fun e x hx => by simp [headP] at hx) J0
  refine ⟨J, ?_⟩
  rw [b, hH.ss]
  rfl
end Go.Proofs.YtcnbifdlkalimabGreat

/-
  The plain mathematics of tables: the bottom; no condition but those that stand in each lemma.
-/
namespace Go.Proofs.YtcnbifdlkalimabGreat
open Go.RowKit
set_option linter.unusedVariables false

/-- is it at or below all? -/
def pBot (s : ByteArray) (n a : Int) : Bool := allTo (fun b => le s n a b) n.toNat
/-- the bottom; 0: there is none -/
def botI (s : ByteArray) (n : Int) : Int := (firstTo (pBot s n) n.toNat).getD 0

theorem first_ex {f : Int → Bool} : ∀ {k i : Nat}, i < k → f i = true → ∃ x, firstTo f k = some x := by
  intro k
  induction k with
  | zero => intro i hi; omega
  | succ k ih =>
    intro i hi h
    by_cases h2 : ∃ j : Nat, j < k ∧ f j = true
    · obtain ⟨j, hj, hf⟩ := h2
      obtain ⟨x, hx⟩ := ih hj hf
      exact ⟨x, firstTo_more (by omega) hx⟩
    · have hn : ∀ j : Nat, j < k → f j = false := fun j hj => by
        cases c : f j
        · rfl
        · exact absurd ⟨j, hj, c⟩ h2
      have hik : i = k := by
        by_cases c : i < k
        · exact absurd h (by rw [hn i c]; simp)
        · omega
      rw [hik] at h
      exact ⟨k, firstTo_some (by omega) hn h⟩

/-- the bottom is one -/
theorem botI_is {s : ByteArray} {n : Int} (H : LatOk s n) : Lv n (botI s n) ∧ ∀ a, Lv n a → le s n (botI s n) a = true := by
  obtain ⟨b, hb, hall⟩ := H.bot
  have hp : pBot s n (b.toNat : Nat) = true := by
    rw [Int.toNat_of_nonneg hb.1]
    exact allTo_true.2 (fun i hi => hall i ⟨by omega, by omega⟩)
  obtain ⟨x, hx⟩ := first_ex (f := pBot s n) (k := n.toNat) (i := b.toNat) (by have := hb.1; have := hb.2; omega) hp
  obtain ⟨h0, h1, h2⟩ := firstTo_lt hx
  unfold botI
  rw [hx]
  refine ⟨⟨h0, by show x < n; omega⟩, fun a ha => ?_⟩
  have := allTo_true.1 h2 a.toNat (by have := ha.1; have := ha.2; omega)
  rw [Int.toNat_of_nonneg ha.1] at this
  exact this
end Go.Proofs.YtcnbifdlkalimabGreat

/-
  The plain mathematics of sources: the level of an expression, by the tree and by the set of what it reads; which statements break the rules, by the tree and by the row of statements; no condition but those that stand in each lemma.
-/
namespace Go.Proofs.YtcnbifdlkalimabGreat
open Go.RowKit
set_option linter.unusedVariables false

/-- the level of an expression -/
def levX (T : ByteArray) (n : Int) (vs : List Int) (ex : List Ex) (e : Nat) : Int := fol 0 (fun x => if x.op = 0 then botI T n else lfL vs x) (jn T n) ex e
/-- is the context at or below the level of each tape of an expression? -/
def drawX (T : ByteArray) (n c : Int) (ex : List Ex) (e : Nat) : Bool := fol true (fun x => if x.op = 10 then le T n c x.v else true) (fun a b => a && b) ex e
/-- the join of the bottom and of a set of levels -/
def jset (T : ByteArray) (n : Int) (m : Nat → Bool) : Nat → Int
  | 0 => botI T n
  | k + 1 => if m k = true then jn T n (jset T n m k) k else jset T n m k
/-- is the context not at or below one of the tapes? -/
def lowF (T : ByteArray) (n : Int) (m : Nat → Bool) (c : Int) : Bool := !(allTo (fun j => !(m j.toNat) || le T n c j) n.toNat)

/-- levels of variables -/
def VsB (n : Int) (vs : List Int) : Prop := ∀ v, v ∈ vs → Lv n v
theorem VsB.at {n : Int} {vs : List Int} (h : VsB n vs) {i : Nat} (hi : i < vs.length) : Lv n (vs.getD i 0) := by
  rw [List.getD_eq_getElem?_getD, List.getElem?_eq_getElem hi]
  exact h _ (List.getElem_mem hi)

theorem ex_ind {ex : List Ex} (hE : ExOk ex) (P : Nat → Prop) (h1 : ∀ e x, ex[e]? = some x → (x.op = 0 ∨ x.op = 1 ∨ x.op = 10) → P e) (h2 : ∀ e x, ex[e]? = some x → ¬ (x.op = 0 ∨ x.op = 1 ∨ x.op = 10) → P x.l → P x.r → P e) : ∀ e, e < ex.length → P e := by
  have key : ∀ k e, e < k → e < ex.length → P e := by
    intro k
    induction k with
    | zero => intro e h; omega
    | succ k ih =>
      intro e hk he
      have hx : ex[e]? = some ex[e] := List.getElem?_eq_getElem he
      by_cases hl : ex[e].op = 0 ∨ ex[e].op = 1 ∨ ex[e].op = 10
      · exact h1 e _ hx hl
      · rcases hE e _ hx with c | ⟨c, d⟩
        · exact absurd c hl
        · exact h2 e _ hx hl (ih _ (by omega) (by omega)) (ih _ (by omega) (by omega))
  exact fun e he => key _ e (Nat.lt_succ_self e) he

theorem leaf_lv {n : Int} {vs : List Int} {x : Ex} (hV : VsB n vs) (hb : XB n vs.length x) (h0 : x.op ≠ 0) (hl : x.op = 0 ∨ x.op = 1 ∨ x.op = 10) : Lv n (lfL vs x) := by
  unfold lfL
  rcases hl with c | c | c
  · exact absurd c h0
  · rw [if_pos c]
    rcases hb with d | ⟨_, d1, d2⟩ | d | d
    · omega
    · exact hV.at (by omega)
    · omega
    · omega
  · rw [if_neg (by omega)]
    rcases hb with d | d | ⟨_, d⟩ | d
    · omega
    · omega
    · exact d
    · omega

/-- the level of an expression is the least above all that it reads -/
theorem levX_is {T : ByteArray} {n : Int} {vs : List Int} {ex : List Ex} (H : LatOk T n) (hE : ExOk ex) (hB : ExB n vs.length ex) (hV : VsB n vs) : ∀ e, e < ex.length →
    Lv n (levX T n vs ex e) ∧ (∀ u, Lv n u → (le T n (levX T n vs ex e) u = true ↔ ∀ j : Nat, reads vs ex e j = true → le T n j u = true)) ∧ ∀ j : Nat, reads vs ex e j = true → (j : Int) < n := by
  obtain ⟨b0, b1⟩ := botI_is H
  refine ex_ind hE _ (fun e x hx hl => ?_) (fun e x hx hl i1 i2 => ?_)
  · have hb := hB x (List.mem_of_getElem? hx)
    have e1 : levX T n vs ex e = if x.op = 0 then botI T n else lfL vs x := by unfold levX; rw [fol_at _ _ _ hE hx, if_pos hl]
    have e2 : ∀ j, reads vs ex e j = rdsL vs x j := fun j => by unfold reads; rw [fol_at _ _ _ hE hx, if_pos hl]
    rw [e1]
    by_cases h0 : x.op = 0
    · rw [if_pos h0]
      refine ⟨b0, fun u hu => ⟨fun _ j hj => ?_, fun _ => b1 u hu⟩, fun j hj => ?_⟩
      · rw [e2] at hj; unfold rdsL at hj; rw [h0] at hj; simp at hj
      · rw [e2] at hj; unfold rdsL at hj; rw [h0] at hj; simp at hj
    · rw [if_neg h0]
      have hv := leaf_lv hV hb h0 hl
      refine ⟨hv, fun u hu => ⟨fun h j hj => ?_, fun h => ?_⟩, fun j hj => ?_⟩
      · rw [e2] at hj
        unfold rdsL at hj
        rw [Bool.and_eq_true] at hj
        rw [of_decide_eq_true hj.2]
        exact h
      · have := h (lfL vs x).toNat (by rw [e2]; unfold rdsL; rw [Bool.and_eq_true]; exact ⟨decide_eq_true h0, decide_eq_true (Int.toNat_of_nonneg hv.1)⟩)
        rw [Int.toNat_of_nonneg hv.1] at this
        exact this
      · rw [e2] at hj
        unfold rdsL at hj
        rw [Bool.and_eq_true] at hj
        rw [of_decide_eq_true hj.2]
        exact hv.2
  · have e1 : levX T n vs ex e = jn T n (levX T n vs ex x.l) (levX T n vs ex x.r) := by unfold levX; rw [fol_at _ _ _ hE hx, if_neg hl]
    have e2 : ∀ j, reads vs ex e j = (reads vs ex x.l j || reads vs ex x.r j) := fun j => by unfold reads; rw [fol_at _ _ _ hE hx, if_neg hl]
    obtain ⟨l1, l2, l3⟩ := i1
    obtain ⟨r1, r2, r3⟩ := i2
    rw [e1]
    have hj := H.jin _ _ l1 r1
    refine ⟨hj, fun u hu => ⟨fun h j hjj => ?_, fun h => ?_⟩, fun j hjj => ?_⟩
    · rw [e2, Bool.or_eq_true] at hjj
      rcases hjj with c | c
      · exact (l2 u hu).1 (H.trans _ _ _ l1 hj hu (H.jl _ _ l1 r1) h) j c
      · exact (r2 u hu).1 (H.trans _ _ _ r1 hj hu (H.jr _ _ l1 r1) h) j c
    · exact H.jm _ _ _ l1 r1 hu ((l2 u hu).2 fun j c => h j (by rw [e2, c]; rfl)) ((r2 u hu).2 fun j c => h j (by rw [e2, c, Bool.or_true]))
    · rw [e2, Bool.or_eq_true] at hjj
      rcases hjj with c | c
      · exact l3 j c
      · exact r3 j c

theorem jset_is {T : ByteArray} {n : Int} (H : LatOk T n) (m : Nat → Bool) : ∀ k : Nat, (k : Int) ≤ n → Lv n (jset T n m k) ∧ ∀ u, Lv n u → (le T n (jset T n m k) u = true ↔ ∀ j : Nat, j < k → m j = true → le T n j u = true)
  | 0, _ => ⟨(botI_is H).1, fun u hu => ⟨fun _ j hj => by omega, fun _ => (botI_is H).2 u hu⟩⟩
  | k + 1, hk => by
    obtain ⟨h1, h2⟩ := jset_is H m k (by omega)
    have hkk : Lv n (k : Int) := ⟨by omega, by omega⟩
    simp only [jset]
    by_cases c : m k = true
    · rw [if_pos c]
      have hj := H.jin _ _ h1 hkk
      refine ⟨hj, fun u hu => ⟨fun h j hj2 hm => ?_, fun h => ?_⟩⟩
      · by_cases e : j = k
        · rw [e]; exact H.trans _ _ _ hkk hj hu (H.jr _ _ h1 hkk) h
        · exact (h2 u hu).1 (H.trans _ _ _ h1 hj hu (H.jl _ _ h1 hkk) h) j (by omega) hm
      · exact H.jm _ _ _ h1 hkk hu ((h2 u hu).2 fun j hj2 hm => h j (by omega) hm) (h k (by omega) c)
    · rw [if_neg c]
      refine ⟨h1, fun u hu => ⟨fun h j hj hm => ?_, fun h => (h2 u hu).2 fun j hj hm => h j (by omega) hm⟩⟩
      by_cases e : j = k
      · rw [e] at hm; exact absurd hm c
      · exact (h2 u hu).1 h j (by omega) hm

/-- the two are the same -/
theorem lev_set {T : ByteArray} {n : Int} {vs : List Int} {ex : List Ex} (H : LatOk T n) (hn : 0 ≤ n) (hE : ExOk ex) (hB : ExB n vs.length ex) (hV : VsB n vs) {e : Nat} (he : e < ex.length) : jset T n (reads vs ex e) n.toNat = levX T n vs ex e := by
  obtain ⟨a1, a2, a3⟩ := levX_is H hE hB hV e he
  obtain ⟨b1, b2⟩ := jset_is H (reads vs ex e) n.toNat (by omega)
  refine H.anti _ _ b1 a1 ((b2 _ a1).2 fun j hj hm => (a2 _ a1).1 (H.refl _ a1) j hm) ((a2 _ b1).2 fun j hm => (b2 _ b1).1 (H.refl _ b1) j ?_ hm)
  have := a3 j hm
  omega

/-- tapes, by the tree and by the set -/
theorem draw_low {T : ByteArray} {n : Int} {m : Nat} {ex : List Ex} (hE : ExOk ex) (hB : ExB n m ex) (c : Int) : ∀ e, e < ex.length → (drawX T n c ex e = true ↔ ∀ j : Nat, tapes ex e j = true → le T n c j = true) ∧ ∀ j : Nat, tapes ex e j = true → (j : Int) < n := by
  refine ex_ind hE _ (fun e x hx hl => ?_) (fun e x hx hl i1 i2 => ?_)
  · have hb := hB x (List.mem_of_getElem? hx)
    have e1 : drawX T n c ex e = if x.op = 10 then le T n c x.v else true := by unfold drawX; rw [fol_at _ _ _ hE hx, if_pos hl]
    have e2 : ∀ j, tapes ex e j = tpsL x j := fun j => by unfold tapes; rw [fol_at _ _ _ hE hx, if_pos hl]
    rw [e1]
    by_cases h0 : x.op = 10
    · rw [if_pos h0]
      have hv : 0 ≤ x.v ∧ x.v < n := by
        rcases hb with d | d | ⟨_, d⟩ | d
        · omega
        · omega
        · exact d
        · omega
      refine ⟨⟨fun h j hj => ?_, fun h => ?_⟩, fun j hj => ?_⟩
      · rw [e2] at hj
        unfold tpsL at hj
        rw [Bool.and_eq_true] at hj
        rw [of_decide_eq_true hj.2]; exact h
      · have := h x.v.toNat (by rw [e2]; unfold tpsL; rw [Bool.and_eq_true]; exact ⟨decide_eq_true h0, decide_eq_true (Int.toNat_of_nonneg hv.1)⟩)
        rw [Int.toNat_of_nonneg hv.1] at this
        exact this
      · rw [e2] at hj
        unfold tpsL at hj
        rw [Bool.and_eq_true] at hj
        rw [of_decide_eq_true hj.2]; exact hv.2
    · rw [if_neg h0]
      have hno : ∀ j, tapes ex e j ≠ true := fun j hj => by
        rw [e2] at hj
        unfold tpsL at hj
        rw [Bool.and_eq_true] at hj
        exact h0 (of_decide_eq_true hj.1)
      exact ⟨⟨fun _ j hj => absurd hj (hno j), fun _ => rfl⟩, fun j hj => absurd hj (hno j)⟩
  · have e1 : drawX T n c ex e = (drawX T n c ex x.l && drawX T n c ex x.r) := by unfold drawX; rw [fol_at _ _ _ hE hx, if_neg hl]
    have e2 : ∀ j, tapes ex e j = (tapes ex x.l j || tapes ex x.r j) := fun j => by unfold tapes; rw [fol_at _ _ _ hE hx, if_neg hl]
    obtain ⟨l1, l2⟩ := i1
    obtain ⟨r1, r2⟩ := i2
    rw [e1, Bool.and_eq_true, l1, r1]
    refine ⟨⟨fun h j hj => ?_, fun h => ⟨fun j hj => h j (by rw [e2, hj]; rfl), fun j hj => h j (by rw [e2, hj, Bool.or_true])⟩⟩, fun j hj => ?_⟩
    · rw [e2, Bool.or_eq_true] at hj
      rcases hj with d | d
      · exact h.1 j d
      · exact h.2 j d
    · rw [e2, Bool.or_eq_true] at hj
      rcases hj with d | d
      · exact l2 j d
      · exact r2 j d
theorem low_draw {T : ByteArray} {n : Int} {m : Nat} {ex : List Ex} (hE : ExOk ex) (hB : ExB n m ex) (c : Int) {e : Nat} (he : e < ex.length) : lowF T n (tapes ex e) c = !drawX T n c ex e := by
  obtain ⟨h1, h2⟩ := draw_low (T := T) hE hB c e he
  unfold lowF
  congr 1
  have : allTo (fun j => !(tapes ex e j.toNat) || le T n c j) n.toNat = true ↔ drawX T n c ex e = true := by
    rw [allTo_true, h1]
    constructor
    · intro h j hj
      have := h j (by have := h2 j hj; omega)
      rw [Int.toNat_natCast, hj] at this
      simpa using this
    · intro h j hj
      rw [Int.toNat_natCast]
      cases ht : tapes ex e j with
      | false => simp
      | true => simp [h j ht]
  cases ha : allTo (fun j => !(tapes ex e j.toNat) || le T n c j) n.toNat <;> cases hd : drawX T n c ex e <;> simp_all
end Go.Proofs.YtcnbifdlkalimabGreat

/-
  The plain mathematics of sources: which statements break the rules: the first of the row, and the least place of the tree; no condition but those that stand in each lemma.
-/
namespace Go.Proofs.YtcnbifdlkalimabGreat
open Go.RowKit
set_option linter.unusedVariables false

/-- does a statement keep the rules, in a context c, v being its join with the expression's level? -/
def okX (T : ByteArray) (n : Int) (vs : List Int) (ex : List Ex) (x : Sm) (c v : Int) : Bool :=
  if x.k = 61 then drawX T n c ex x.e && le T n v (vs.getD x.v.toNat 0)
  else if x.k = 62 then drawX T n c ex x.e && le T n v x.v
  else if x.k = 64 then drawX T n v ex x.e else drawX T n c ex x.e
/-- the lesser of two places, -1 being none -/
def lesF (a b : Int) : Int := if a < 0 ∨ (0 ≤ b ∧ b < a) then b else a
def brkG (f : Nat → Int → Int → Int) : List Nat → Int → Int → Int
  | [], _, m => m
  | i :: l, c, m => brkG f l c (f i c m)
def brkF (T : ByteArray) (n : Int) (vs : List Int) (ex : List Ex) (sm : List Sm) : Nat → Nat → Int → Int → Int
  | 0, _, _, m => m
  | k + 1, i, c, m => match sm[i]? with
    | none => m
    | some x => lesF (lesF (if okX T n vs ex x c (jn T n c (levX T n vs ex x.e)) = true then m else lesF m x.a) (brkG (brkF T n vs ex sm k) x.bo (jn T n c (levX T n vs ex x.e)) (-1))) (brkG (brkF T n vs ex sm k) x.el (jn T n c (levX T n vs ex x.e)) (-1))
/-- one statement more; all -/
def brk (T : ByteArray) (n : Int) (vs : List Int) (ex : List Ex) (sm : List Sm) (i : Nat) (c m : Int) : Int := brkF T n vs ex sm (i + 1) i c m
def brks (T : ByteArray) (n : Int) (vs : List Int) (ex : List Ex) (sm : List Sm) (l : List Nat) (c m : Int) : Int := brkG (brk T n vs ex sm) l c m

theorem brkG_congr {f g : Nat → Int → Int → Int} (c : Int) : ∀ (l : List Nat) (m : Int), (∀ i, i ∈ l → ∀ m, f i c m = g i c m) → brkG f l c m = brkG g l c m
  | [], m, h => rfl
  | i :: l, m, h => by
    simp only [brkG]
    rw [h i (by simp) m, brkG_congr c l _ (fun j hj => h j (by simp [hj]))]
theorem brkF_fuel {T : ByteArray} {n : Int} {vs : List Int} {ex : List Ex} {sm : List Sm} (hS : SmOk ex sm) : ∀ (k i k' : Nat) (c m : Int), i < k → i < k' → brkF T n vs ex sm k i c m = brkF T n vs ex sm k' i c m
  | 0, i, k', c, m, h, _ => by omega
  | k + 1, i, 0, c, m, _, h => by omega
  | k + 1, i, k' + 1, c, m, h1, h2 => by
    simp only [brkF]
    cases hx : sm[i]? with
    | none => rfl
    | some x =>
      dsimp only
      obtain ⟨o1, o2, o3⟩ := hS i x hx
      have hb : ∀ d, brkG (brkF T n vs ex sm k) x.bo d (-1) = brkG (brkF T n vs ex sm k') x.bo d (-1) := fun d => brkG_congr _ _ _ fun j hj m => brkF_fuel hS k j k' _ m (by have := o2 j hj; omega) (by have := o2 j hj; omega)
      have hl : ∀ d, brkG (brkF T n vs ex sm k) x.el d (-1) = brkG (brkF T n vs ex sm k') x.el d (-1) := fun d => brkG_congr _ _ _ fun j hj m => brkF_fuel hS k j k' _ m (by have := o3 j hj; omega) (by have := o3 j hj; omega)
      rw [hb, hl]
theorem brk_at {T : ByteArray} {n : Int} {vs : List Int} {ex : List Ex} {sm : List Sm} {i : Nat} {x : Sm} (hS : SmOk ex sm) (hx : sm[i]? = some x) (c m : Int) :
    brk T n vs ex sm i c m = lesF (lesF (if okX T n vs ex x c (jn T n c (levX T n vs ex x.e)) = true then m else lesF m x.a) (brks T n vs ex sm x.bo (jn T n c (levX T n vs ex x.e)) (-1))) (brks T n vs ex sm x.el (jn T n c (levX T n vs ex x.e)) (-1)) := by
  obtain ⟨o1, o2, o3⟩ := hS i x hx
  have hb : ∀ d, brkG (brkF T n vs ex sm i) x.bo d (-1) = brks T n vs ex sm x.bo d (-1) := fun d => brkG_congr _ _ _ fun j hj m => brkF_fuel hS i j (j + 1) _ m (o2 j hj) (by omega)
  have hl : ∀ d, brkG (brkF T n vs ex sm i) x.el d (-1) = brks T n vs ex sm x.el d (-1) := fun d => brkG_congr _ _ _ fun j hj m => brkF_fuel hS i j (j + 1) _ m (o3 j hj) (by omega)
  unfold brk
  rw [brkF, hx]
  dsimp only
  rw [hb, hl]

/-- the places of those that break them, in the order in which they begin -/
def badG (f : Nat → Int → List Int) : List Nat → Int → List Int
  | [], _ => []
  | i :: l, c => f i c ++ badG f l c
def badF (T : ByteArray) (n : Int) (vs : List Int) (ex : List Ex) (sm : List Sm) : Nat → Nat → Int → List Int
  | 0, _, _ => []
  | k + 1, i, c => match sm[i]? with
    | none => []
    | some x => (if okX T n vs ex x c (jn T n c (levX T n vs ex x.e)) = true then [] else [(x.a : Int)]) ++ (badG (badF T n vs ex sm k) x.bo (jn T n c (levX T n vs ex x.e)) ++ badG (badF T n vs ex sm k) x.el (jn T n c (levX T n vs ex x.e)))

def lesL (m : Int) (l : List Int) : Int := l.foldl lesF m
theorem lesF_bd {a b : Int} (ha : -1 ≤ a) (hb : -1 ≤ b) : -1 ≤ lesF a b := by unfold lesF; split <;> assumption
theorem lesF_assoc {m a b : Int} (hm : -1 ≤ m) (ha : -1 ≤ a) (hb : -1 ≤ b) : lesF (lesF m a) b = lesF m (lesF a b) := by
  unfold lesF
  repeat' split
  all_goals omega
theorem lesF_none {m : Int} (hm : -1 ≤ m) : lesF m (-1) = m := by
  unfold lesF
  split <;> omega
theorem none_lesF (a : Int) : lesF (-1) a = a := if_pos (.inl (by omega))
theorem lesL_bd : ∀ (l : List Int) {m : Int}, -1 ≤ m → (∀ a, a ∈ l → 0 ≤ a) → -1 ≤ lesL m l
  | [], m, hm, h => hm
  | a :: l, m, hm, h => lesL_bd l (lesF_bd hm (by have := h a (by simp); omega)) (fun b hb => h b (by simp [hb]))
theorem lesL_step : ∀ (l : List Int) {m : Int}, -1 ≤ m → (∀ a, a ∈ l → 0 ≤ a) → lesF m (lesL (-1) l) = lesL m l
  | [], m, hm, h => lesF_none hm
  | a :: l, m, hm, h => by
    have ha := h a (by simp)
    have hl : ∀ b, b ∈ l → 0 ≤ b := fun b hb => h b (by simp [hb])
    show lesF m (lesL (lesF (-1) a) l) = lesL (lesF m a) l
    rw [none_lesF, ← lesL_step l (m := a) (by omega) hl, ← lesL_step l (m := lesF m a) (lesF_bd hm (by omega)) hl, lesF_assoc hm (by omega) (lesL_bd l (by omega) hl)]
theorem lesL_append (m : Int) (a b : List Int) : lesL m (a ++ b) = lesL (lesL m a) b := by unfold lesL; rw [List.foldl_append]

theorem badG_nn {f : Nat → Int → List Int} (hf : ∀ i c a, a ∈ f i c → 0 ≤ a) (c : Int) : ∀ (l : List Nat) (a : Int), a ∈ badG f l c → 0 ≤ a
  | [], a, h => by simp [badG] at h
  | i :: l, a, h => by
    simp only [badG, List.mem_append] at h
    rcases h with h | h
    · exact hf _ _ _ h
    · exact badG_nn hf c l a h
theorem badF_nn (T : ByteArray) (n : Int) (vs : List Int) (ex : List Ex) (sm : List Sm) : ∀ (k i : Nat) (c a : Int), a ∈ badF T n vs ex sm k i c → 0 ≤ a
  | 0, i, c, a, h => by simp [badF] at h
  | k + 1, i, c, a, h => by
    simp only [badF] at h
    cases hx : sm[i]? with
    | none => rw [hx] at h; simp at h
    | some x =>
      rw [hx] at h
      simp only [List.mem_append] at h
      rcases h with h | h | h
      · split at h
        · simp at h
        · simp at h; omega
      · exact badG_nn (badF_nn T n vs ex sm k) _ _ _ h
      · exact badG_nn (badF_nn T n vs ex sm k) _ _ _ h

theorem brkG_bad {f : Nat → Int → Int → Int} {g : Nat → Int → List Int} (c : Int) (hg : ∀ i a, a ∈ g i c → 0 ≤ a) (h : ∀ i m, -1 ≤ m → f i c m = lesL m (g i c)) : ∀ (l : List Nat) (m : Int), -1 ≤ m → brkG f l c m = lesL m (badG g l c)
  | [], m, hm => rfl
  | i :: l, m, hm => by
    simp only [brkG, badG]
    rw [h i m hm, lesL_append, brkG_bad c hg h l _ (lesL_bd _ hm (hg i))]
theorem brkF_bad (T : ByteArray) (n : Int) (vs : List Int) (ex : List Ex) (sm : List Sm) : ∀ (k i : Nat) (c m : Int), -1 ≤ m → brkF T n vs ex sm k i c m = lesL m (badF T n vs ex sm k i c)
  | 0, i, c, m, hm => rfl
  | k + 1, i, c, m, hm => by
    simp only [brkF, badF]
    cases hx : sm[i]? with
    | none => rfl
    | some x =>
      dsimp only
      generalize jn T n c (levX T n vs ex x.e) = v
      have hbb := badG_nn (badF_nn T n vs ex sm k) v x.bo
      have hbl := badG_nn (badF_nn T n vs ex sm k) v x.el
      rw [brkG_bad v (fun i a => badF_nn T n vs ex sm k i v a) (fun i m hm => brkF_bad T n vs ex sm k i v m hm) x.bo (-1) (by omega), brkG_bad v (fun i a => badF_nn T n vs ex sm k i v a) (fun i m hm => brkF_bad T n vs ex sm k i v m hm) x.el (-1) (by omega)]
      rw [lesL_append, lesL_append]
      by_cases ho : okX T n vs ex x c v = true
      · rw [if_pos ho, if_pos ho]
        show _ = lesL (lesL m _) _
        rw [lesL_step _ hm hbb, lesL_step _ (lesL_bd _ hm hbb) hbl]
      · rw [if_neg ho, if_neg ho]
        have h1 : -1 ≤ lesF m x.a := lesF_bd hm (by omega)
        show _ = lesL (lesL (lesF m x.a) _) _
        rw [lesL_step _ h1 hbb, lesL_step _ (lesL_bd _ h1 hbb) hbl]

/-- the context of a statement in the block of that number -/
def ctxF (T : ByteArray) (n : Int) (inn : List Int) (ou : Int) : Int := if ou < 0 ∨ (inn.length : Int) ≤ ou then botI T n else inn.getD ou.toNat 0
/-- does the program find a leak? -/
def leakF (T : ByteArray) (n : Int) (x : Sq) (c v : Int) : Bool :=
  if x.k = 1 ∨ x.k = 2 then !(le T n v x.ta) || lowF T n x.tp c else if x.k = 4 then lowF T n x.tp v else lowF T n x.tp c
/-- the first of a row -/
def firstF (T : ByteArray) (n : Int) : List Sq → List Int → Int
  | [], _ => -1
  | x :: l, inn => if leakF T n x (ctxF T n inn x.ou) (jn T n (ctxF T n inn x.ou) (jset T n x.rd n.toNat)) = true then x.pl else firstF T n l (inn ++ [jn T n (ctxF T n inn x.ou) (jset T n x.rd n.toNat)])

theorem ctxF_more {T : ByteArray} {n : Int} {inn : List Int} {ou : Int} (h : ou < inn.length) (more : List Int) : ctxF T n (inn ++ more) ou = ctxF T n inn ou := by
  unfold ctxF
  by_cases h0 : ou < 0
  · rw [if_pos (.inl h0), if_pos (.inl h0)]
  · rw [if_neg (by rw [List.length_append]; omega), if_neg (by omega), List.getD_eq_getElem?_getD, List.getD_eq_getElem?_getD, List.getElem?_append_left (by omega)]
theorem ctxF_new {T : ByteArray} {n : Int} (inn : List Int) (v : Int) : ctxF T n (inn ++ [v]) (inn.length : Nat) = v := by
  unfold ctxF
  rw [if_neg (by rw [List.length_append]; simp; omega), List.getD_eq_getElem?_getD, Int.toNat_natCast]
  simp

theorem leak_ok {T : ByteArray} {n : Int} {vs : List Int} {ex : List Ex} {x : Sm} (hE : ExOk ex) (hB : ExB n vs.length ex) (he : x.e < ex.length) (hk : x.k = 61 ∨ x.k = 62 ∨ x.k = 63 ∨ x.k = 64) (ou c v : Int) : leakF T n (sqOf vs ex x ou) c v = !okX T n vs ex x c v := by
  unfold leakF okX sqOf
  dsimp only
  rw [low_draw hE hB c he, low_draw hE hB v he]
  rcases hk with h | h | h | h
  · rw [if_pos h, if_pos (.inl rfl), if_pos h, if_pos h]
    cases drawX T n c ex x.e <;> cases le T n v (vs.getD x.v.toNat 0) <;> rfl
  · rw [if_neg (show ¬ x.k = 61 by omega), if_pos h, if_pos (.inr rfl), if_neg (show ¬ x.k = 61 by omega), if_pos h, if_neg (show ¬ x.k = 61 by omega), if_pos h]
    cases drawX T n c ex x.e <;> cases le T n v x.v <;> rfl
  · rw [if_neg (show ¬ x.k = 61 by omega), if_neg (show ¬ x.k = 62 by omega), if_pos h, if_neg (by omega), if_neg (by omega), if_neg (show ¬ x.k = 61 by omega), if_neg (show ¬ x.k = 62 by omega), if_neg (show ¬ x.k = 64 by omega)]
  · rw [if_neg (show ¬ x.k = 61 by omega), if_neg (show ¬ x.k = 62 by omega), if_neg (show ¬ x.k = 63 by omega), if_neg (by omega), if_pos rfl, if_neg (show ¬ x.k = 61 by omega), if_neg (show ¬ x.k = 62 by omega), if_pos h]

/-- what the program finds along the row of some statements is the first of those that break the rules -/
def Finds (T : ByteArray) (n : Int) (inn : List Int) (row : List Sq) (bad : List Int) : Prop :=
  ∃ more : List Int, more.length = row.length ∧ ∀ rest, firstF T n (row ++ rest) inn = match bad with
    | [] => firstF T n rest (inn ++ more)
    | a :: _ => a
theorem Finds.nil (T : ByteArray) (n : Int) (inn : List Int) : Finds T n inn [] [] := ⟨[], rfl, fun rest => by simp⟩
theorem Finds.append {T : ByteArray} {n : Int} {inn : List Int} {r1 r2 : List Sq} {b1 b2 : List Int} (h1 : Finds T n inn r1 b1) (h2 : ∀ more : List Int, more.length = r1.length → Finds T n (inn ++ more) r2 b2) : Finds T n inn (r1 ++ r2) (b1 ++ b2) := by
  obtain ⟨m1, l1, f1⟩ := h1
  obtain ⟨m2, l2, f2⟩ := h2 m1 l1
  refine ⟨m1 ++ m2, by rw [List.length_append, List.length_append, l1, l2], fun rest => ?_⟩
  rw [List.append_assoc, f1]
  cases b1 with
  | cons a b1 => rfl
  | nil =>
    dsimp only
    rw [f2, List.nil_append, List.append_assoc]

theorem flG_finds {T : ByteArray} {n : Int} {f : Nat → Int → Nat → List Sq} {g : Nat → Int → List Int} (ou c : Int) : ∀ (l : List Nat) (inn : List Int), ou < inn.length → ctxF T n inn ou = c →
    (∀ i, i ∈ l → ∀ inn : List Int, ou < inn.length → ctxF T n inn ou = c → Finds T n inn (f i ou inn.length) (g i c)) → Finds T n inn (flG f l ou inn.length) (badG g l c)
  | [], inn, h0, hc, h => Finds.nil T n inn
  | i :: l, inn, h0, hc, h => by
    simp only [flG, badG]
    refine (h i (by simp) inn h0 hc).append fun more hm => ?_
    have := flG_finds ou c l (inn ++ more) (by rw [List.length_append]; omega) (by rw [ctxF_more h0]; exact hc) (fun j hj => h j (by simp [hj]))
    rw [List.length_append, hm] at this
    exact this

theorem flF_finds {T : ByteArray} {n : Int} {vs : List Int} {ex : List Ex} {sm : List Sm} (H : LatOk T n) (hn : 0 ≤ n) (hE : ExOk ex) (hS : SmOk ex sm) (hB : ExB n vs.length ex) (hV : VsB n vs) (hK : ∀ x, x ∈ sm → x.k = 61 ∨ x.k = 62 ∨ x.k = 63 ∨ x.k = 64) :
    ∀ (k i : Nat) (ou c : Int) (inn : List Int), ou < inn.length → ctxF T n inn ou = c → Finds T n inn (flF vs ex sm k i ou inn.length) (badF T n vs ex sm k i c)
  | 0, i, ou, c, inn, h0, hc => Finds.nil T n inn
  | k + 1, i, ou, c, inn, h0, hc => by
    simp only [flF, badF]
    cases hx : sm[i]? with
    | none => exact Finds.nil T n inn
    | some x =>
      dsimp only
      obtain ⟨o1, o2, o3⟩ := hS i x hx
      have hlv : jset T n (sqOf vs ex x ou).rd n.toNat = levX T n vs ex x.e := lev_set H hn hE hB hV o1
      have hlk := leak_ok (T := T) hE hB o1 (hK x (List.mem_of_getElem? hx)) ou c (jn T n c (levX T n vs ex x.e))
      have hpl : (sqOf vs ex x ou).pl = x.a := rfl
      have hou : (sqOf vs ex x ou).ou = ou := rfl
      generalize hq : sqOf vs ex x ou = q at *
      generalize hv : jn T n c (levX T n vs ex x.e) = v at *
      have hfst : ∀ rest, firstF T n (q :: rest) inn = if okX T n vs ex x c v = true then firstF T n rest (inn ++ [v]) else (x.a : Int) := fun rest => by
        simp only [firstF]
        rw [hou, hc, hlv, hv, hlk]
        by_cases ho : okX T n vs ex x c v = true
        · rw [if_pos ho, ho]; rfl
        · rw [if_neg ho, if_pos (by rw [Bool.not_eq_true] at ho; rw [ho]; rfl)]
          exact hpl
      have hlen : (inn ++ [v]).length = inn.length + 1 := by simp
      have hB2 : Finds T n (inn ++ [v]) (flG (flF vs ex sm k) x.bo inn.length (inn.length + 1) ++ flG (flF vs ex sm k) x.el inn.length (inn.length + 1 + (flG (flF vs ex sm k) x.bo inn.length (inn.length + 1)).length)) (badG (badF T n vs ex sm k) x.bo v ++ badG (badF T n vs ex sm k) x.el v) := by
        have h1 := flG_finds (T := T) (n := n) (f := flF vs ex sm k) (g := badF T n vs ex sm k) (inn.length : Nat) v x.bo (inn ++ [v]) (by rw [hlen]; omega) (ctxF_new inn v) (fun j hj inn2 a b => flF_finds H hn hE hS hB hV hK k j _ v inn2 a b)
        rw [hlen] at h1
        refine h1.append fun more hm => ?_
        have h2 := flG_finds (T := T) (n := n) (f := flF vs ex sm k) (g := badF T n vs ex sm k) (inn.length : Nat) v x.el (inn ++ [v] ++ more) (by rw [List.length_append, hlen]; omega) (by rw [ctxF_more (by rw [hlen]; omega)]; exact ctxF_new inn v) (fun j hj inn2 a b => flF_finds H hn hE hS hB hV hK k j _ v inn2 a b)
        rw [List.length_append, hlen, hm] at h2
        exact h2
      generalize flG (flF vs ex sm k) x.bo inn.length (inn.length + 1) ++ flG (flF vs ex sm k) x.el inn.length (inn.length + 1 + (flG (flF vs ex sm k) x.bo inn.length (inn.length + 1)).length) = R at *
      generalize badG (badF T n vs ex sm k) x.bo v ++ badG (badF T n vs ex sm k) x.el v = D at *
      by_cases ho : okX T n vs ex x c v = true
      · rw [if_pos ho]
        obtain ⟨m, l, f⟩ := hB2
        refine ⟨v :: m, by simp [l], fun rest => ?_⟩
        rw [List.cons_append, hfst, if_pos ho, f, List.append_assoc]
        rfl
      · rw [if_neg ho]
        refine ⟨List.replicate (q :: R).length 0, List.length_replicate, fun rest => ?_⟩
        rw [List.cons_append, hfst, if_neg ho]
        rfl

/-- the least of a row of places that go up is its first -/
theorem lesL_up : ∀ (l : List Int), (∀ a, a ∈ l → 0 ≤ a) → l.Pairwise (fun a b => a ≤ b) → lesL (-1) l = match l with
    | [] => -1
    | a :: _ => a
  | [], h, hp => rfl
  | a :: l, h, hp => by
    have key : ∀ (l : List Int), (∀ b, b ∈ l → a ≤ b) → lesL a l = a := by
      intro l
      induction l with
      | nil => intro _; rfl
      | cons b l ih =>
        intro hb
        show lesL (lesF a b) l = a
        have h0 := h a (by simp)
        have h1 := hb b (by simp)
        rw [show lesF a b = a from by unfold lesF; rw [if_neg (by omega)]]
        exact ih fun c hc => hb c (by simp [hc])
    show lesL (lesF (-1) a) l = a
    rw [none_lesF]
    exact key l fun b hb => (List.pairwise_cons.1 hp).1 b hb

/-- those that break the rules are among all -/
theorem badG_sub {f : Nat → Int → Nat → List Sq} {g : Nat → Int → List Int} (c : Int) : ∀ (l : List Nat) (ou : Int) (b : Nat), (∀ i, i ∈ l → ∀ ou b, (g i c).Sublist ((f i ou b).map Sq.pl)) → (badG g l c).Sublist ((flG f l ou b).map Sq.pl)
  | [], ou, b, h => List.nil_sublist _
  | i :: l, ou, b, h => by
    simp only [badG, flG, List.map_append]
    exact (h i (by simp) ou b).append (badG_sub c l ou _ fun j hj => h j (by simp [hj]))
theorem badF_sub {T : ByteArray} {n : Int} {vs : List Int} {ex : List Ex} {sm : List Sm} : ∀ (k i : Nat) (c ou : Int) (b : Nat), (badF T n vs ex sm k i c).Sublist ((flF vs ex sm k i ou b).map Sq.pl)
  | 0, i, c, ou, b => List.nil_sublist _
  | k + 1, i, c, ou, b => by
    simp only [badF, flF]
    cases hx : sm[i]? with
    | none => exact List.nil_sublist _
    | some x =>
      dsimp only
      rw [List.map_cons, List.map_append]
      generalize jn T n c (levX T n vs ex x.e) = v
      have h1 := badG_sub (f := flF vs ex sm k) (g := badF T n vs ex sm k) v x.bo (b : Nat) (b + 1) (fun j hj ou b => badF_sub k j v ou b)
      have h2 := badG_sub (f := flF vs ex sm k) (g := badF T n vs ex sm k) v x.el (b : Nat) (b + 1 + (flG (flF vs ex sm k) x.bo b (b + 1)).length) (fun j hj ou b => badF_sub k j v ou b)
      have h3 := h1.append h2
      by_cases ho : okX T n vs ex x c v = true
      · rw [if_pos ho]
        exact h3.cons _
      · rw [if_neg ho]
        exact h3.cons_cons _

/-- THE TWO ARE THE SAME: the first that the program finds, the least place that the document asks for -/
theorem first_brks {T : ByteArray} {n : Int} {vs : List Int} {ex : List Ex} {sm : List Sm} {l : List Nat} (H : LatOk T n) (hn : 0 ≤ n) (hE : ExOk ex) (hS : SmOk ex sm) (hB : ExB n vs.length ex) (hV : VsB n vs) (hK : ∀ x, x ∈ sm → x.k = 61 ∨ x.k = 62 ∨ x.k = 63 ∨ x.k = 64)
    (hp : (fls vs ex sm l (-1) 0).Pairwise fun a b => a.pl ≤ b.pl) : firstF T n (fls vs ex sm l (-1) 0) [] = brks T n vs ex sm l (botI T n) (-1) := by
  have hc : ctxF T n [] (-1) = botI T n := if_pos (.inl (by omega))
  have hF : Finds T n [] (fls vs ex sm l (-1) 0) (badG (fun i c => badF T n vs ex sm (i + 1) i c) l (botI T n)) :=
    flG_finds (f := fl vs ex sm) (-1) (botI T n) l [] (by simp) hc (fun i hi inn a b => flF_finds H hn hE hS hB hV hK (i + 1) i (-1) (botI T n) inn a b)
  have hL : brks T n vs ex sm l (botI T n) (-1) = lesL (-1) (badG (fun i c => badF T n vs ex sm (i + 1) i c) l (botI T n)) :=
    brkG_bad _ (fun i a => badF_nn T n vs ex sm (i + 1) i _ a) (fun i m hm => brkF_bad T n vs ex sm (i + 1) i _ m hm) l (-1) (by omega)
  have hsub : (badG (fun i c => badF T n vs ex sm (i + 1) i c) l (botI T n)).Sublist ((fls vs ex sm l (-1) 0).map Sq.pl) := badG_sub (f := fl vs ex sm) _ l (-1) 0 (fun i hi ou b => badF_sub (i + 1) i _ ou b)
  have hnn := badG_nn (f := fun i c => badF T n vs ex sm (i + 1) i c) (fun i c a => badF_nn T n vs ex sm (i + 1) i c a) (botI T n) l
  have hpw : (badG (fun i c => badF T n vs ex sm (i + 1) i c) l (botI T n)).Pairwise (fun a b => a ≤ b) := List.Pairwise.sublist hsub (List.pairwise_map.2 hp)
  rw [hL, lesL_up _ hnn hpw]
  obtain ⟨m, lm, f⟩ := hF
  have := f []
  rw [List.append_nil] at this
  rw [this]
  cases badG (fun i c => badF T n vs ex sm (i + 1) i c) l (botI T n) with
  | nil => rfl
  | cons a b => rfl
end Go.Proofs.YtcnbifdlkalimabGreat
