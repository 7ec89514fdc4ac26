import Derived.Test.YtcnbifdlkalimabGreatSrc1
import Derived.Test.YtcnbifdlkalimabGreatSrc2

/-
  The plain mathematics of sources, third part: what the document's reading makes of a source, and the code of that; no condition but those that stand in each lemma.
-/
namespace Go.Proofs.YtcnbifdlkalimabGreat
open Go.RowKit

/-- a node of an expression -/
structure Ex where
  op : Int
  v : Int
  l : Nat
  r : Nat

/-- a statement -/
structure Sm where
  k : Int
  a : Nat
  v : Int
  e : Nat
  bo : List Nat
  el : List Nat
  two : Bool

/-- a source that is being read -/
structure Rs where
  r : Rd
  n : Int
  ls : List Int
  vs : List Int
  ex : List Ex
  sm : List Sm

/-- one node more -/
def nodP (p : Rs) (r : Rd) (x : Ex) : Rs × Nat := ({ p with r := r, ex := p.ex ++ [x] }, p.ex.length)
def termP (s : ByteArray) (exf : Rs → Rs × Nat) (p : Rs) : Rs × Nat :=
  if 48 ≤ tok s p.r ∧ tok s p.r ≤ 57 then nodP p (num s (adv s p.r)).2 ⟨0, (num s (adv s p.r)).1, 0, 0⟩
  else if tok s p.r = 36 then nodP p (digR s (nx (adv s p.r)) 0 (p.n - 1)) ⟨10, dig s (nx (adv s p.r)) 0 (p.n - 1), 0, 0⟩
  else if tok s p.r = 40 then
    ({ (exf { p with r := nx (adv s p.r) }).1 with r := tk s (exf { p with r := nx (adv s p.r) }).1.r 41 }, (exf { p with r := nx (adv s p.r) }).2)
  else nodP p (varR s p.r p.ls) ⟨1, varI s p.r p.ls, 0, 0⟩
def moreP (s : ByteArray) (tm : Rs → Rs × Nat) : Nat → Rs × Nat → Rs × Nat
  | 0, x => ({ x.1 with r := adv s x.1.r }, x.2)
  | k + 1, x => if opOf (tok s x.1.r) = 0 then ({ x.1 with r := adv s x.1.r }, x.2)
      else moreP s tm k (nodP (tm { x.1 with r := nx (adv s x.1.r) }).1 (tm { x.1 with r := nx (adv s x.1.r) }).1.r ⟨opOf (tok s x.1.r), 0, x.2, (tm { x.1 with r := nx (adv s x.1.r) }).2⟩)
def exprP (s : ByteArray) : Nat → Rs → Rs × Nat
  | 0, p => (p, 0)
  | k + 1, p => moreP s (termP s (exprP s k)) k (termP s (exprP s k) p)
def exP (s : ByteArray) (p : Rs) : Rs × Nat := exprP s (s.size + 1) p

/-- does a statement begin so? -/
def isS (t : Int) : Bool := isL t || (t == 62) || (t == 63) || (t == 64)
def loopP (s : ByteArray) (f : Rs → Rs × Nat) : Nat → Rs → List Nat → Rs × List Nat
  | 0, p, l => ({ p with r := adv s p.r }, l)
  | k + 1, p, l => if isS (tok s p.r) = true then loopP s f k (f { p with r := adv s p.r }).1 (l ++ [(f { p with r := adv s p.r }).2]) else ({ p with r := adv s p.r }, l)
def blkP (s : ByteArray) (f : Rs → Rs × Nat) (k : Nat) (p : Rs) : Rs × List Nat :=
  ({ (loopP s f k { p with r := tk s p.r 123 } []).1 with r := tk s (loopP s f k { p with r := tk s p.r 123 } []).1.r 125 }, (loopP s f k { p with r := tk s p.r 123 } []).2)
/-- one statement more -/
def stoP (p : Rs) (r : Rd) (x : Sm) : Rs × Nat := ({ p with r := r, sm := p.sm ++ [x] }, p.sm.length)
def assP (s : ByteArray) (p : Rs) (a : Nat) : Rs × Nat :=
  let y := exP s { p with r := tk s (varR s p.r p.ls) 61 }
  stoP y.1 (tk s y.1.r 59) ⟨61, a, varI s p.r p.ls, y.2, [], [], false⟩
def wriP (s : ByteArray) (p : Rs) (a : Nat) : Rs × Nat :=
  let y := exP s { p with r := digR s (tk s p.r 62) 0 (p.n - 1) }
  stoP y.1 (tk s y.1.r 59) ⟨62, a, dig s (tk s p.r 62) 0 (p.n - 1), y.2, [], [], false⟩
def choP (s : ByteArray) (f : Rs → Rs × Nat) (k : Nat) (p : Rs) (a : Nat) : Rs × Nat :=
  let y := exP s { p with r := tk s p.r 63 }
  let b := blkP s f k y.1
  if tok s b.1.r = 58 then
    let c := blkP s f k { b.1 with r := nx (adv s b.1.r) }
    stoP c.1 c.1.r ⟨63, a, 0, y.2, b.2, c.2, true⟩
  else stoP b.1 (adv s b.1.r) ⟨63, a, 0, y.2, b.2, [], false⟩
def repP (s : ByteArray) (f : Rs → Rs × Nat) (k : Nat) (p : Rs) (a : Nat) : Rs × Nat :=
  let y := exP s { p with r := tk s p.r 64 }
  let b := blkP s f k y.1
  stoP b.1 b.1.r ⟨64, a, 0, y.2, b.2, [], false⟩
def stmP (s : ByteArray) : Nat → Rs → Rs × Nat
  | 0, p => (p, 0)
  | k + 1, p =>
    if tok s p.r = 62 then wriP s { p with r := adv s p.r } (adv s p.r).a
    else if tok s p.r = 63 then choP s (stmP s k) k { p with r := adv s p.r } (adv s p.r).a
    else if tok s p.r = 64 then repP s (stmP s k) k { p with r := adv s p.r } (adv s p.r).a
    else assP s { p with r := adv s p.r } (adv s p.r).a

/-- the pairs of levels -/
def prsP (s : ByteArray) (n : Int) : Nat → Rd → List Int → Rd × List Int
  | 0, r, l => (adv s r, l)
  | k + 1, r, l => if 48 ≤ tok s r ∧ tok s r ≤ 57 then
      prsP s n k (digR s (digR s (adv s r) 0 (n - 1)) 0 (n - 1)) (l ++ [dig s (adv s r) 0 (n - 1), dig s (digR s (adv s r) 0 (n - 1)) 0 (n - 1)])
    else (adv s r, l)
/-- the variables -/
def decsP (s : ByteArray) (n : Int) : Nat → Rd → List Int → List Int → Rd × List Int × List Int
  | 0, r, ls, vs => (adv s r, ls, vs)
  | k + 1, r, ls, vs => if isL (tok s r) = true then
      (if fnd (tok s r) ls < ls.length then (rfs (adv s r) 12, ls, vs)
      else decsP s n k (digR s (nx (adv s r)) 0 (n - 1)) (ls ++ [tok s r]) (vs ++ [dig s (nx (adv s r)) 0 (n - 1)]))
    else (adv s r, ls, vs)
def nP (s : ByteArray) : Int := if isD s ⟨0, 0⟩ 1 6 = true then dig s ⟨0, 0⟩ 1 6 else 1
def prP (s : ByteArray) : Rd × List Int := prsP s (nP s) (s.size + 1) (digR s ⟨0, 0⟩ 1 6) []
def dcP (s : ByteArray) : Rd × List Int × List Int := decsP s (nP s) (s.size + 1) (tk s (prP s).1 46) [] []
def headP (s : ByteArray) : Rs := ⟨tk s (dcP s).1 46, nP s, (dcP s).2.1, (dcP s).2.2, [], []⟩
/-- a source, read -/
def readP (s : ByteArray) : Rs × List Nat := loopP s (stmP s (s.size + 2)) (s.size + 1) (headP s) []
/-- the error, and its place -/
def endP (s : ByteArray) : Rd := if (readP s).1.r.er = 0 ∧ (readP s).1.r.a < s.size then rfs (readP s).1.r 11 else (readP s).1.r

/-- can one come from a to b by at most k pairs? -/
def hopF (l : List Int) : Nat → Int → Int → Bool
  | 0, a, b => a == b
  | k + 1, a, b => (a == b) || (List.range (l.length / 2)).any fun i => (l.getD (2 * i) 0 == a) && hopF l k (l.getD (2 * i + 1) 0) b
def tabF (l : List Int) (n : Int) : List Int := (List.range (n.toNat * n.toNat)).map fun i => if hopF l (n.toNat - 1) (i / n.toNat : Nat) (i % n.toNat : Nat) = true then 49 else 48

/-- the code of an expression -/
def codF (ex : List Ex) : Nat → Nat → List Int
  | 0, _ => []
  | k + 1, e => match ex[e]? with
    | none => []
    | some x => if x.op = 0 ∨ x.op = 1 ∨ x.op = 10 then [x.op % 256, x.v % 256] else codF ex k x.l ++ codF ex k x.r ++ [x.op % 256, 0]
def cod (ex : List Ex) (e : Nat) : List Int := codF ex (e + 1) e
/-- the code of some statements, whatever that of one is -/
def allG (f : Nat → Nat → List Int) : List Nat → Nat → List Int
  | [], _ => []
  | n :: l, place => f n place ++ allG f l (place + (f n place).length / 2)
def onF (ex : List Ex) (sm : List Sm) : Nat → Nat → Nat → List Int
  | 0, _, _ => []
  | k + 1, n, place => match sm[n]? with
    | none => []
    | some x =>
      let e := cod ex x.e
      if x.k = 61 then e ++ [2, x.v % 256]
      else if x.k = 62 then e ++ [11, x.v % 256]
      else
        let fr := place + e.length / 2 + 1
        let body := allG (onF ex sm k) x.bo fr
        let th := fr + body.length / 2
        if x.k = 64 then e ++ [9, ((th + 1 : Nat) : Int) % 256] ++ body ++ [8, (place : Int) % 256]
        else if x.two = false then e ++ [9, (th : Int) % 256] ++ body
        else
          let other := allG (onF ex sm k) x.el (th + 1)
          e ++ [9, ((th + 1 : Nat) : Int) % 256] ++ body ++ [8, ((th + 1 + other.length / 2 : Nat) : Int) % 256] ++ other
end Go.Proofs.YtcnbifdlkalimabGreat

/-
  The plain mathematics of sources, fourth part: the program's reading of an expression and the document's go side by side; no condition but those that stand in each lemma.
-/
namespace Go.Proofs.YtcnbifdlkalimabGreat
open Go.RowKit
set_option linter.unusedVariables false

theorem tok_idem {s : ByteArray} {r : Rd} (h : tok s r ≠ 0) : tk s (adv s r) (tok s r) = nx (adv s r) := by
  unfold tk tkIf
  rw [tok_adv, adv_adv]
  simp
theorem varOk_adv (s : ByteArray) (r : Rd) (ls : List Int) : varOk s (adv s r) ls = varOk s r ls := by unfold varOk; rw [tok_adv]
theorem varI_adv (s : ByteArray) (r : Rd) (ls : List Int) : varI s (adv s r) ls = varI s r ls := by unfold varI; rw [varOk_adv, tok_adv]
theorem tkIf_adv (s : ByteArray) (r : Rd) (ok : Bool) (e : Int) : tkIf s (adv s r) ok e = tkIf s r ok e := by unfold tkIf; rw [adv_adv]
theorem varR_adv (s : ByteArray) (r : Rd) (ls : List Int) : varR s (adv s r) ls = varR s r ls := by unfold varR; rw [tkIf_adv, varOk_adv, tok_adv]
theorem tk_adv (s : ByteArray) (r : Rd) (c : Int) : tk s (adv s r) c = tk s r c := by unfold tk; rw [tkIf_adv, tok_adv]
theorem tkIf_bad {s : ByteArray} {r : Rd} {ok : Bool} {e : Int} (h : r.er ≠ 0) : tkIf s r ok e = r := by
  unfold tkIf
  rw [adv_bad h, nx_bad h, rfs_bad h]
  split <;> rfl
theorem tk_bad {s : ByteArray} {r : Rd} {c : Int} (h : r.er ≠ 0) : tk s r c = r := tkIf_bad h
theorem tkIf_er {s : ByteArray} {r : Rd} {ok : Bool} {e : Int} (he : e ≠ 0) (h : (tkIf s r ok e).er = 0) : r.er = 0 ∧ ok = true := by
  unfold tkIf at h
  split at h
  · rename_i k
    rw [nx_er, adv_er] at h
    exact ⟨h, k⟩
  · exact absurd h (rfs_er he)
theorem tk_er {s : ByteArray} {r : Rd} {c : Int} (h : (tk s r c).er = 0) : r.er = 0 := (tkIf_er (by omega) h).1
theorem digR_er {s : ByteArray} {r : Rd} {a b : Int} (h : (digR s r a b).er = 0) : r.er = 0 := (tkIf_er (by omega) h).1
theorem varR_er {s : ByteArray} {r : Rd} {ls : List Int} (h : (varR s r ls).er = 0) : r.er = 0 ∧ varOk s r ls = true := tkIf_er (by split <;> omega) h
theorem rem_digR (s : ByteArray) (r : Rd) (a b : Int) : rem s (digR s r a b) ≤ rem s r := rem_tkIf (by omega)
theorem rem_varR (s : ByteArray) (r : Rd) (ls : List Int) : rem s (varR s r ls) ≤ rem s r := rem_tkIf (by split <;> omega)
theorem rem_tok {s : ByteArray} {r : Rd} (h : tok s r ≠ 0) : rem s (nx (adv s r)) < rem s r := Nat.lt_of_lt_of_le (rem_nx_lt h) (rem_adv _ _)
theorem numF_er {s : ByteArray} : ∀ (k : Nat) (r : Rd) (v : Int), (numF s k r v).2.er = 0 → r.er = 0
  | 0, r, v, h => h
  | k + 1, r, v, h => by
    simp only [numF] at h
    split at h
    · split at h
      · exact absurd h (rfs_er (by omega))
      · have := numF_er k _ _ h
        rw [nx_er] at this
        exact this
    · exact h

/-- what stays of the translator -/
structure FrQ (q q' : Tq) : Prop where
  n : q'.n = q.n
  pn : q'.pn = q.pn
  pr : q'.pr = q.pr
  ls : q'.ls = q.ls
  vs : q'.vs = q.vs
theorem FrQ.refl (q : Tq) : FrQ q q := ⟨rfl, rfl, rfl, rfl, rfl⟩
theorem FrQ.trans {a b c : Tq} (h : FrQ a b) (k : FrQ b c) : FrQ a c := ⟨k.n.trans h.n, k.pn.trans h.pn, k.pr.trans h.pr, k.ls.trans h.ls, k.vs.trans h.vs⟩
structure FrP (p p' : Rs) : Prop where
  n : p'.n = p.n
  ls : p'.ls = p.ls
  vs : p'.vs = p.vs
theorem FrP.refl (q : Rs) : FrP q q := ⟨rfl, rfl, rfl⟩
theorem FrP.trans {a b c : Rs} (h : FrP a b) (k : FrP b c) : FrP a c := ⟨k.n.trans h.n, k.ls.trans h.ls, k.vs.trans h.vs⟩

/-- both have read as far, and know the same -/
structure Ag (q : Tq) (p : Rs) : Prop where
  r : q.r = p.r
  n : q.n = p.n
  ls : q.ls = p.ls
  vs : q.vs = p.vs
theorem Ag.go {q q' : Tq} {p p' : Rs} (h : Ag q p) (fq : FrQ q q') (fp : FrP p p') (hr : q'.r = p'.r) : Ag q' p' :=
  ⟨hr, by rw [fq.n, fp.n, h.n], by rw [fq.ls, fp.ls, h.ls], by rw [fq.vs, fp.vs, h.vs]⟩

/-- nodes lead to earlier ones -/
def ExOk (ex : List Ex) : Prop := ∀ (e : Nat) (x : Ex), ex[e]? = some x → (x.op = 0 ∨ x.op = 1 ∨ x.op = 10) ∨ (x.l < e ∧ x.r < e)
theorem ExOk.add {ex : List Ex} (h : ExOk ex) {x : Ex} (hx : (x.op = 0 ∨ x.op = 1 ∨ x.op = 10) ∨ (x.l < ex.length ∧ x.r < ex.length)) : ExOk (ex ++ [x]) := by
  intro e y hy
  by_cases he : e < ex.length
  · rw [List.getElem?_append_left he] at hy
    exact h e y hy
  · rw [List.getElem?_append_right (by omega)] at hy
    have e0 : e - ex.length = 0 := by
      cases k : e - ex.length with
      | zero => rfl
      | succ j => rw [k] at hy; simp at hy
    rw [e0] at hy
    simp at hy
    subst hy
    have : e = ex.length := by omega
    rw [this]
    exact hx

theorem codF_ext {ex more : List Ex} (h : ExOk ex) : ∀ (k e k' : Nat), e < ex.length → e < k → e < k' → codF (ex ++ more) k e = codF ex k' e
  | 0, e, k', _, h1, _ => by omega
  | k + 1, e, 0, _, _, h1 => by omega
  | k + 1, e, k' + 1, h0, h1, h2 => by
    simp only [codF]
    rw [List.getElem?_append_left h0]
    obtain ⟨x, hx⟩ : ∃ x, ex[e]? = some x := ⟨ex[e], List.getElem?_eq_getElem h0⟩
    rw [hx]
    dsimp only
    split
    · rfl
    · rename_i hop
      rcases h e x hx with c | ⟨c1, c2⟩
      · exact absurd c hop
      · rw [codF_ext h k x.l k' (by omega) (by omega) (by omega), codF_ext h k x.r k' (by omega) (by omega) (by omega)]
theorem cod_ext {ex more : List Ex} {e : Nat} (h : ExOk ex) (he : e < ex.length) : cod (ex ++ more) e = cod ex e :=
  codF_ext h _ _ _ he (by omega) (by omega)
theorem codF_any {ex : List Ex} {e k : Nat} (h : ExOk ex) (he : e < ex.length) (hk : e < k) : codF ex k e = cod ex e := by
  have := codF_ext (more := []) h k e (e + 1) he hk (by omega)
  rw [List.append_nil] at this
  exact this
theorem cod_leaf {ex : List Ex} {x : Ex} (hx : x.op = 0 ∨ x.op = 1 ∨ x.op = 10) : cod (ex ++ [x]) ex.length = [x.op % 256, x.v % 256] := by
  unfold cod
  simp only [codF]
  rw [List.getElem?_append_right (Nat.le_refl _)]
  simp
  intro c
  omega
theorem cod_two {ex : List Ex} {x : Ex} (h : ExOk ex) (hx : ¬ (x.op = 0 ∨ x.op = 1 ∨ x.op = 10)) (hl : x.l < ex.length) (hr : x.r < ex.length) : cod (ex ++ [x]) ex.length = cod ex x.l ++ cod ex x.r ++ [x.op % 256, 0] := by
  unfold cod
  rw [codF]
  rw [List.getElem?_append_right (Nat.le_refl _)]
  simp only [Nat.sub_self, List.getElem?_cons_zero]
  rw [if_neg hx, codF_ext h _ _ (x.l + 1) hl (by omega) (by omega), codF_ext h _ _ (x.r + 1) hr (by omega) (by omega)]
theorem codF_even (ex : List Ex) : ∀ k e, (codF ex k e).length % 2 = 0
  | 0, e => rfl
  | k + 1, e => by
    simp only [codF]
    split
    · rfl
    · split
      · simp
      · have := codF_even ex k
        rename_i x _ _
        have h1 := this x.l
        have h2 := this x.r
        simp only [List.length_append, List.length_cons, List.length_nil]
        omega
theorem cod_even (ex : List Ex) (e : Nat) : (cod ex e).length % 2 = 0 := codF_even _ _ _

/-- what both have made of an expression -/
structure SimE (s : ByteArray) (x : Tq × Sq) (p : Rs) (y : Tq × Sq) (z : Rs × Nat) : Prop where
  r : y.1.r = z.1.r
  le : rem s z.1.r ≤ rem s p.r
  bad : z.1.r.er = 0 → p.r.er = 0
  fq : FrQ x.1 y.1
  ss : y.1.ss = x.1.ss
  fp : FrP p z.1
  sm : z.1.sm = p.sm
  ok : z.1.r.er = 0 → ExOk p.ex → ∃ more, z.1.ex = p.ex ++ more ∧ ExOk z.1.ex ∧ z.2 < z.1.ex.length ∧ y.1.cd = x.1.cd ++ cod z.1.ex z.2

theorem emit_fr (q : Tq) (a b : Int) : FrQ q (emitQ q a b) := ⟨rfl, rfl, rfl, rfl, rfl⟩

theorem term_sim (s : ByteArray) (k : Nat) (ih : ∀ (x : Tq × Sq) (p : Rs), Ag x.1 p → rem s p.r < k → SimE s x p (exprQ s k x) (exprP s k p)) (x : Tq × Sq) (p : Rs) (hA : Ag x.1 p) (hk : rem s p.r ≤ k) :
    SimE s x p (termQ s (exprQ s k) x) (termP s (exprP s k) p) := by
  have hr := hA.r
  unfold termQ termP
  rw [hr]
  by_cases h1 : 48 ≤ tok s p.r ∧ tok s p.r ≤ 57
  · rw [if_pos h1, if_pos h1]
    refine ⟨rfl, Nat.le_trans (numF_rem _ _ _) (rem_adv _ _), fun h => ?_, ⟨rfl, rfl, rfl, rfl, rfl⟩, rfl, ⟨rfl, rfl, rfl⟩, rfl, fun h hE => ?_⟩
    · have := numF_er _ _ _ h
      rw [adv_er] at this
      exact this
    · refine ⟨[_], rfl, hE.add (.inl (.inl rfl)), by simp [nodP], ?_⟩
      show x.1.cd ++ _ = x.1.cd ++ cod (p.ex ++ [_]) p.ex.length
      rw [cod_leaf (.inl rfl)]
      rfl
  · rw [if_neg h1, if_neg h1]
    by_cases h2 : tok s p.r = 36
    · rw [if_pos h2, if_pos h2]
      have e1 : tk s (adv s p.r) 36 = nx (adv s p.r) := by rw [← h2]; exact tok_idem (by omega)
      have ht := rem_tok (s := s) (r := p.r) (by omega)
      unfold tapeQ nodP
      dsimp only
      rw [e1, hA.n]
      refine ⟨rfl, Nat.le_trans (rem_digR _ _ _ _) (Nat.le_of_lt ht), fun h => ?_, ⟨hA.n.symm, rfl, rfl, rfl, rfl⟩, rfl, ⟨rfl, rfl, rfl⟩, rfl, fun h hE => ?_⟩
      · have := digR_er h
        rw [nx_er, adv_er] at this
        exact this
      · refine ⟨[_], rfl, hE.add (.inl (.inr (.inr rfl))), by simp, ?_⟩
        show x.1.cd ++ _ = x.1.cd ++ cod (p.ex ++ [_]) p.ex.length
        rw [cod_leaf (.inr (.inr rfl))]
        rfl
    · rw [if_neg h2, if_neg h2]
      by_cases h3 : tok s p.r = 40
      · rw [if_pos h3, if_pos h3]
        have ht := rem_tok (s := s) (r := p.r) (by omega)
        have hI := ih ({ x.1 with r := nx (adv s p.r) }, x.2) { p with r := nx (adv s p.r) } ⟨rfl, hA.n, hA.ls, hA.vs⟩ (by show rem s (nx (adv s p.r)) < k; omega)
        generalize exprQ s k ({ x.1 with r := nx (adv s p.r) }, x.2) = y at *
        generalize exprP s k { p with r := nx (adv s p.r) } = z at *
        refine ⟨by show tk s y.1.r 41 = tk s z.1.r 41; rw [hI.r], ?_, fun h => ?_, ⟨hI.fq.n, hI.fq.pn, hI.fq.pr, hI.fq.ls, hI.fq.vs⟩, hI.ss, ⟨hI.fp.n, hI.fp.ls, hI.fp.vs⟩, hI.sm, fun h hE => ?_⟩
        · have a := rem_tk s z.1.r 41
          have b := hI.le
          have c : rem s ({ p with r := nx (adv s p.r) } : Rs).r = rem s (nx (adv s p.r)) := rfl
          show rem s (tk s z.1.r 41) ≤ _
          omega
        · have := hI.bad (tk_er h)
          have : (nx (adv s p.r)).er = 0 := this
          rw [nx_er, adv_er] at this
          exact this
        · exact hI.ok (tk_er h) hE
      · rw [if_neg h3, if_neg h3]
        unfold lettQ nodP
        dsimp only
        rw [varR_adv, varI_adv, hA.ls]
        refine ⟨rfl, rem_varR _ _ _, fun h => (varR_er h).1, ⟨rfl, rfl, rfl, hA.ls.symm, rfl⟩, rfl, ⟨rfl, rfl, rfl⟩, rfl, fun h hE => ?_⟩
        refine ⟨[_], rfl, hE.add (.inl (.inr (.inl rfl))), by simp, ?_⟩
        show x.1.cd ++ _ = x.1.cd ++ cod (p.ex ++ [_]) p.ex.length
        rw [cod_leaf (.inr (.inl rfl))]
        rfl

theorem more_sim (s : ByteArray) (K : Nat) (tq : Tq × Sq → Tq × Sq) (tp : Rs → Rs × Nat) (hT : ∀ (x : Tq × Sq) (p : Rs), Ag x.1 p → rem s p.r ≤ K → SimE s x p (tq x) (tp p)) :
    ∀ (k : Nat) (x0 : Tq × Sq) (p0 : Rs) (x : Tq × Sq) (z : Rs × Nat), Ag x0.1 p0 → rem s p0.r ≤ K → SimE s x0 p0 x z → SimE s x0 p0 (moreQ s tq k x) (moreP s tp k z)
  | 0, x0, p0, x, z, hA, hK, hS => by
    refine ⟨?_, ?_, fun h => hS.bad (by rw [← adv_er s]; exact h), ⟨hS.fq.n, hS.fq.pn, hS.fq.pr, hS.fq.ls, hS.fq.vs⟩, hS.ss, ⟨hS.fp.n, hS.fp.ls, hS.fp.vs⟩, hS.sm, fun h hE => ?_⟩
    · show adv s x.1.r = adv s z.1.r
      rw [hS.r]
    · exact Nat.le_trans (rem_adv _ _) hS.le
    · exact hS.ok (by rw [← adv_er s]; exact h) hE
  | k + 1, x0, p0, x, z, hA, hK, hS => by
    simp only [moreQ, moreP]
    rw [hS.r]
    by_cases h0 : opOf (tok s z.1.r) = 0
    · rw [if_pos h0, if_pos h0]
      exact ⟨rfl, Nat.le_trans (rem_adv _ _) hS.le, fun h => hS.bad (by rw [← adv_er s]; exact h), ⟨hS.fq.n, hS.fq.pn, hS.fq.pr, hS.fq.ls, hS.fq.vs⟩, hS.ss, ⟨hS.fp.n, hS.fp.ls, hS.fp.vs⟩, hS.sm, fun h hE => hS.ok (by rw [← adv_er s]; exact h) hE⟩
    · rw [if_neg h0, if_neg h0]
      have hp := opOf_pos h0
      have ht := rem_tok (s := s) (r := z.1.r) hp.1
      have hAz := hA.go hS.fq hS.fp hS.r
      have hle := hS.le
      have hI := hT ({ x.1 with r := nx (adv s z.1.r) }, x.2) { z.1 with r := nx (adv s z.1.r) } ⟨rfl, hAz.n, hAz.ls, hAz.vs⟩ (by show rem s (nx (adv s z.1.r)) ≤ K; omega)
      refine more_sim s K tq tp hT k x0 p0 _ _ hA hK ?_
      generalize opOf (tok s z.1.r) = op at *
      generalize tq ({ x.1 with r := nx (adv s z.1.r) }, x.2) = y at *
      generalize tp { z.1 with r := nx (adv s z.1.r) } = u at *
      have hle2 := hI.le
      have c : rem s ({ z.1 with r := nx (adv s z.1.r) } : Rs).r = rem s (nx (adv s z.1.r)) := rfl
      refine ⟨hI.r, by show rem s u.1.r ≤ _; omega, fun h => ?_, ?_, hI.ss.trans hS.ss, ?_, hI.sm.trans hS.sm, fun h hE => ?_⟩
      · have := hI.bad h
        have : (nx (adv s z.1.r)).er = 0 := this
        rw [nx_er, adv_er] at this
        exact hS.bad this
      · exact hS.fq.trans ⟨hI.fq.n, hI.fq.pn, hI.fq.pr, hI.fq.ls, hI.fq.vs⟩
      · exact hS.fp.trans ⟨hI.fp.n, hI.fp.ls, hI.fp.vs⟩
      · have b0 : z.1.r.er = 0 := by
          have := hI.bad h
          have : (nx (adv s z.1.r)).er = 0 := this
          rw [nx_er, adv_er] at this
          exact this
        obtain ⟨m1, e1, o1, l1, c1⟩ := hS.ok b0 hE
        obtain ⟨m2, e2, o2, l2, c2⟩ := hI.ok h o1
        have e2 : u.1.ex = z.1.ex ++ m2 := e2
        have lz : z.2 < u.1.ex.length := by rw [e2, List.length_append]; omega
        refine ⟨m1 ++ m2 ++ [⟨op, 0, z.2, u.2⟩], ?_, o2.add (.inr ⟨lz, l2⟩), by simp [nodP], ?_⟩
        · show u.1.ex ++ [_] = _
          rw [e2, e1]
          simp
        · show y.1.cd ++ _ = x0.1.cd ++ cod (u.1.ex ++ [_]) u.1.ex.length
          rw [cod_two o2 (by show ¬ (op = 0 ∨ op = 1 ∨ op = 10); omega) lz l2, c2]
          show x.1.cd ++ cod u.1.ex u.2 ++ [op, 0 % 256] = _
          rw [c1, show cod u.1.ex z.2 = cod z.1.ex z.2 from by rw [e2]; exact cod_ext o1 l1]
          rw [show op % 256 = op from by omega]
          simp

theorem expr_sim (s : ByteArray) : ∀ (k : Nat) (x : Tq × Sq) (p : Rs), Ag x.1 p → rem s p.r < k → SimE s x p (exprQ s k x) (exprP s k p)
  | 0, x, p, hA, hk => by omega
  | k + 1, x, p, hA, hk => by
    simp only [exprQ, exprP]
    exact more_sim s k _ _ (fun x p hA hk => term_sim s k (expr_sim s k) x p hA hk) k x p _ _ hA (by omega) (term_sim s k (expr_sim s k) x p hA (by omega))
theorem ex_sim (s : ByteArray) (x : Tq × Sq) (p : Rs) (hA : Ag x.1 p) : SimE s x p (exQ s x) (exP s p) :=
  expr_sim s _ x p hA (by have := rem_le s p.r; omega)
end Go.Proofs.YtcnbifdlkalimabGreat

/-
  The plain mathematics of sources, fifth part: the program's reading of statements and the document's go side by side; no condition but those that stand in each lemma.
-/
namespace Go.Proofs.YtcnbifdlkalimabGreat
open Go.RowKit
set_option linter.unusedVariables false

theorem allG_add (f : Nat → Nat → List Int) (n : Nat) : ∀ (l : List Nat) (pl : Nat), (∀ n pl, (f n pl).length % 2 = 0) → allG f (l ++ [n]) pl = allG f l pl ++ f n (pl + (allG f l pl).length / 2)
  | [], pl, he => by simp [allG]
  | m :: l, pl, he => by
    simp only [allG, List.cons_append]
    rw [allG_add f n l _ he, List.append_assoc]
    congr 2
    rw [List.length_append]
    have h1 := he m pl
    congr 1
    omega
theorem allG_even (f : Nat → Nat → List Int) (he : ∀ n pl, (f n pl).length % 2 = 0) : ∀ (l : List Nat) (pl : Nat), (allG f l pl).length % 2 = 0
  | [], pl => rfl
  | m :: l, pl => by
    simp only [allG, List.length_append]
    have h1 := he m pl
    have h2 := allG_even f he l (pl + (f m pl).length / 2)
    omega
theorem allG_congr {f g : Nat → Nat → List Int} : ∀ (l : List Nat) (pl : Nat), (∀ n, n ∈ l → ∀ pl, f n pl = g n pl) → allG f l pl = allG g l pl
  | [], pl, h => rfl
  | m :: l, pl, h => by
    simp only [allG]
    rw [h m (by simp) pl, allG_congr l _ (fun n hn => h n (by simp [hn]))]

theorem on_even (ex : List Ex) (sm : List Sm) : ∀ k n pl, (onF ex sm k n pl).length % 2 = 0
  | 0, n, pl => rfl
  | k + 1, n, pl => by
    simp only [onF]
    split
    · rfl
    · rename_i x _
      have h0 := cod_even ex x.e
      have h1 := allG_even _ (on_even ex sm k) x.bo (pl + (cod ex x.e).length / 2 + 1)
      have h2 := allG_even _ (on_even ex sm k) x.el (pl + (cod ex x.e).length / 2 + 1 + (allG (onF ex sm k) x.bo (pl + (cod ex x.e).length / 2 + 1)).length / 2 + 1)
      split
      · simp only [List.length_append, List.length_cons, List.length_nil]; omega
      · split
        · simp only [List.length_append, List.length_cons, List.length_nil]; omega
        · split
          · simp only [List.length_append, List.length_cons, List.length_nil]; omega
          · split
            · simp only [List.length_append, List.length_cons, List.length_nil]; omega
            · simp only [List.length_append, List.length_cons, List.length_nil]; omega

/-- statements lead to nodes that there are, and to earlier statements -/
def SmOk (ex : List Ex) (sm : List Sm) : Prop := ∀ (n : Nat) (x : Sm), sm[n]? = some x → x.e < ex.length ∧ (∀ m, m ∈ x.bo → m < n) ∧ (∀ m, m ∈ x.el → m < n)
theorem SmOk.more {ex : List Ex} {sm : List Sm} (h : SmOk ex sm) (m : List Ex) : SmOk (ex ++ m) sm := fun n x hx => ⟨by have := (h n x hx).1; rw [List.length_append]; omega, (h n x hx).2⟩
theorem SmOk.add {ex : List Ex} {sm : List Sm} (h : SmOk ex sm) {x : Sm} (he : x.e < ex.length) (hb : ∀ m, m ∈ x.bo → m < sm.length) (hl : ∀ m, m ∈ x.el → m < sm.length) : SmOk ex (sm ++ [x]) := by
  intro n y hy
  by_cases hn : n < sm.length
  · rw [List.getElem?_append_left hn] at hy
    exact h n y hy
  · rw [List.getElem?_append_right (by omega)] at hy
    have e0 : n - sm.length = 0 := by
      cases k : n - sm.length with
      | zero => rfl
      | succ j => rw [k] at hy; simp at hy
    rw [e0] at hy
    simp at hy
    subst hy
    have : n = sm.length := by omega
    rw [this]
    exact ⟨he, hb, hl⟩

theorem on_ext {ex me : List Ex} {sm ms : List Sm} (hE : ExOk ex) (hS : SmOk ex sm) : ∀ (k n k' pl : Nat), n < sm.length → n < k → n < k' → onF (ex ++ me) (sm ++ ms) k n pl = onF ex sm k' n pl
  | 0, n, k', pl, _, h1, _ => by omega
  | k + 1, n, 0, pl, _, _, h1 => by omega
  | k + 1, n, k' + 1, pl, h0, h1, h2 => by
    simp only [onF]
    rw [List.getElem?_append_left h0]
    obtain ⟨x, hx⟩ : ∃ x, sm[n]? = some x := ⟨sm[n], List.getElem?_eq_getElem h0⟩
    obtain ⟨o1, o2, o3⟩ := hS n x hx
    rw [hx]
    dsimp only
    rw [cod_ext hE o1]
    have hb : ∀ pl, allG (onF (ex ++ me) (sm ++ ms) k) x.bo pl = allG (onF ex sm k') x.bo pl := fun pl => allG_congr _ _ fun m hm p => on_ext hE hS k m k' p (by have := o2 m hm; omega) (by have := o2 m hm; omega) (by have := o2 m hm; omega)
    have hl : ∀ pl, allG (onF (ex ++ me) (sm ++ ms) k) x.el pl = allG (onF ex sm k') x.el pl := fun pl => allG_congr _ _ fun m hm p => on_ext hE hS k m k' p (by have := o3 m hm; omega) (by have := o3 m hm; omega) (by have := o3 m hm; omega)
    rw [hb, hl]

/-- the code of a statement, of some -/
def one (ex : List Ex) (sm : List Sm) (n pl : Nat) : List Int := onF ex sm (n + 1) n pl
def als (ex : List Ex) (sm : List Sm) (l : List Nat) (pl : Nat) : List Int := allG (one ex sm) l pl
theorem one_even (ex : List Ex) (sm : List Sm) (n pl : Nat) : (one ex sm n pl).length % 2 = 0 := on_even _ _ _ _ _
theorem all_even (ex : List Ex) (sm : List Sm) (l : List Nat) (pl : Nat) : (als ex sm l pl).length % 2 = 0 := allG_even _ (one_even ex sm) _ _
theorem one_ext {ex me : List Ex} {sm ms : List Sm} {n pl : Nat} (hE : ExOk ex) (hS : SmOk ex sm) (hn : n < sm.length) : one (ex ++ me) (sm ++ ms) n pl = one ex sm n pl :=
  on_ext hE hS _ _ _ _ hn (by omega) (by omega)
theorem all_ext {ex me : List Ex} {sm ms : List Sm} {l : List Nat} {pl : Nat} (hE : ExOk ex) (hS : SmOk ex sm) (hn : ∀ n, n ∈ l → n < sm.length) : als (ex ++ me) (sm ++ ms) l pl = als ex sm l pl :=
  allG_congr _ _ fun n h p => one_ext hE hS (hn n h)
theorem all_any {ex : List Ex} {sm : List Sm} {l : List Nat} {pl k : Nat} (hE : ExOk ex) (hS : SmOk ex sm) (hn : ∀ n, n ∈ l → n < sm.length ∧ n < k) : allG (onF ex sm k) l pl = als ex sm l pl :=
  allG_congr _ _ fun n h p => by
    have := on_ext (me := []) (ms := []) hE hS k n (n + 1) p (hn n h).1 (hn n h).2 (by omega)
    rw [List.append_nil, List.append_nil] at this
    exact this

/-- the code of the last statement -/
theorem one_new {ex : List Ex} {sm : List Sm} {x : Sm} {pl : Nat} (hE : ExOk ex) (hS : SmOk ex sm) (he : x.e < ex.length) (hb : ∀ m, m ∈ x.bo → m < sm.length) (hl : ∀ m, m ∈ x.el → m < sm.length) :
    one ex (sm ++ [x]) sm.length pl =
      (let e := cod ex x.e
      if x.k = 61 then e ++ [2, x.v % 256]
      else if x.k = 62 then e ++ [11, x.v % 256]
      else
        let fr := pl + e.length / 2 + 1
        let body := als ex sm x.bo fr
        let th := fr + body.length / 2
        if x.k = 64 then e ++ [9, ((th + 1 : Nat) : Int) % 256] ++ body ++ [8, (pl : Int) % 256]
        else if x.two = false then e ++ [9, (th : Int) % 256] ++ body
        else
          let other := als ex sm x.el (th + 1)
          e ++ [9, ((th + 1 : Nat) : Int) % 256] ++ body ++ [8, ((th + 1 + other.length / 2 : Nat) : Int) % 256] ++ other) := by
  unfold one
  rw [onF]
  rw [List.getElem?_append_right (Nat.le_refl _)]
  simp only [Nat.sub_self, List.getElem?_cons_zero]
  have h1 : ∀ (l : List Nat) (pl : Nat), (∀ m, m ∈ l → m < sm.length) → allG (onF ex (sm ++ [x]) sm.length) l pl = als ex sm l pl := fun l pl hl => allG_congr _ _ fun n h p => by
    have := on_ext (me := []) (ms := [x]) hE hS sm.length n (n + 1) p (hl n h) (hl n h) (by omega)
    rw [List.append_nil] at this
    exact this
  simp only [h1 x.bo _ hb, h1 x.el _ hl]

/-- what both have made of statements -/
structure SimS (s : ByteArray) (q : Tq) (p : Rs) (y : Tq) (z : Rs) : Prop where
  r : y.r = z.r
  le : rem s z.r ≤ rem s p.r
  bad : z.r.er = 0 → p.r.er = 0
  fq : FrQ q y
  fp : FrP p z
theorem SimS.trans {s : ByteArray} {q : Tq} {p : Rs} {y : Tq} {z : Rs} {y' : Tq} {z' : Rs} (h : SimS s q p y z) (k : SimS s y z y' z') : SimS s q p y' z' :=
  ⟨k.r, Nat.le_trans k.le h.le, fun e => h.bad (k.bad e), h.fq.trans k.fq, h.fp.trans k.fp⟩

/-- the nodes and statements are those of before, and more -/
structure Mo (p z : Rs) : Prop where
  ex : ∃ m, z.ex = p.ex ++ m
  sm : ∃ m, z.sm = p.sm ++ m
  oe : ExOk z.ex
  os : SmOk z.ex z.sm
theorem Mo.trans {p z u : Rs} (h : Mo p z) (k : Mo z u) : Mo p u := by
  obtain ⟨m1, e1⟩ := h.ex
  obtain ⟨m2, e2⟩ := k.ex
  obtain ⟨m3, e3⟩ := h.sm
  obtain ⟨m4, e4⟩ := k.sm
  exact ⟨⟨m1 ++ m2, by rw [e2, e1, List.append_assoc]⟩, ⟨m3 ++ m4, by rw [e4, e3, List.append_assoc]⟩, k.oe, k.os⟩
theorem Mo.lt {p z : Rs} (h : Mo p z) {n : Nat} (hn : n < p.sm.length) : n < z.sm.length := by
  obtain ⟨m, e⟩ := h.sm
  rw [e, List.length_append]; omega
theorem Mo.lte {p z : Rs} (h : Mo p z) {n : Nat} (hn : n < p.ex.length) : n < z.ex.length := by
  obtain ⟨m, e⟩ := h.ex
  rw [e, List.length_append]; omega
theorem Mo.all {p z : Rs} (h : Mo p z) (hE : ExOk p.ex) (hS : SmOk p.ex p.sm) {l : List Nat} (hl : ∀ n, n ∈ l → n < p.sm.length) (pl : Nat) : Go.Proofs.YtcnbifdlkalimabGreat.als z.ex z.sm l pl = Go.Proofs.YtcnbifdlkalimabGreat.als p.ex p.sm l pl := by
  obtain ⟨m1, e1⟩ := h.ex
  obtain ⟨m3, e3⟩ := h.sm
  rw [e1, e3]
  exact all_ext hE hS hl
theorem Mo.cod {p z : Rs} (h : Mo p z) (hE : ExOk p.ex) {n : Nat} (hn : n < p.ex.length) : Go.Proofs.YtcnbifdlkalimabGreat.cod z.ex n = Go.Proofs.YtcnbifdlkalimabGreat.cod p.ex n := by
  obtain ⟨m1, e1⟩ := h.ex
  rw [e1]
  exact cod_ext hE hn

/-- of one statement -/
def OneS (q : Tq) (p : Rs) (y : Tq) (z : Rs × Nat) : Prop :=
  z.1.r.er = 0 → ExOk p.ex → SmOk p.ex p.sm → q.cd.length % 2 = 0 → Mo p z.1 ∧ z.2 < z.1.sm.length ∧ y.cd = q.cd ++ one z.1.ex z.1.sm z.2 (q.cd.length / 2)
/-- of some -/
def AllS (q : Tq) (p : Rs) (y : Tq) (z : Rs × List Nat) : Prop :=
  z.1.r.er = 0 → ExOk p.ex → SmOk p.ex p.sm → q.cd.length % 2 = 0 → Mo p z.1 ∧ (∀ n, n ∈ z.2 → n < z.1.sm.length) ∧ y.cd = q.cd ++ als z.1.ex z.1.sm z.2 (q.cd.length / 2)

theorem term_bad {s : ByteArray} {ex : Tq × Sq → Tq × Sq} {x : Tq × Sq} (h : x.1.r.er ≠ 0) : (termQ s ex x).1.r = x.1.r := by
  unfold termQ
  rw [tok_bad h, if_neg (by omega), if_neg (by omega), if_neg (by omega)]
  show varR s (adv s x.1.r) x.1.ls = x.1.r
  rw [varR_adv]
  exact tkIf_bad h
theorem more_bad {s : ByteArray} {tm : Tq × Sq → Tq × Sq} {x : Tq × Sq} (h : x.1.r.er ≠ 0) : ∀ k, (moreQ s tm k x).1.r = x.1.r
  | 0 => adv_bad h
  | k + 1 => by
    simp only [moreQ]
    rw [tok_bad h, if_pos (by rfl)]
    exact adv_bad h
theorem expr_bad {s : ByteArray} {x : Tq × Sq} (h : x.1.r.er ≠ 0) : ∀ k, (exprQ s k x).1.r = x.1.r
  | 0 => rfl
  | k + 1 => by
    simp only [exprQ]
    rw [more_bad (by rw [term_bad h]; exact h), term_bad h]
theorem ex_bad {s : ByteArray} {x : Tq × Sq} (h : x.1.r.er ≠ 0) : (exQ s x).1.r = x.1.r := expr_bad h _
theorem ex_fr (s : ByteArray) (x : Tq × Sq) : FrQ x.1 (exQ s x).1 := (ex_sim s x ⟨x.1.r, x.1.n, x.1.ls, x.1.vs, [], []⟩ ⟨rfl, rfl, rfl, rfl⟩).fq

theorem stm_dead {s : ByteArray} {k : Nat} {ou : Int} {q : Tq} (h : isS (tok s q.r) = false) : (stmQ s (k + 1) ou q).r = rfs (adv s q.r) 11 ∧ FrQ q (stmQ s (k + 1) ou q) := by
  unfold isS at h
  simp only [Bool.or_eq_false_iff, beq_eq_false_iff_ne] at h
  obtain ⟨⟨⟨h1, h2⟩, h3⟩, h4⟩ := h
  simp only [stmQ]
  rw [if_neg h2, if_neg h3, if_neg h4]
  have e1 : varR s (adv s q.r) q.ls = rfs (adv s q.r) 11 := by
    unfold varR tkIf varOk
    rw [tok_adv, h1, adv_adv]
    simp
  have hb : (rfs (adv s q.r) 11).er ≠ 0 := rfs_er (by omega)
  unfold assQ
  dsimp only
  rw [e1, tk_bad hb]
  have hF := ex_fr s ({ q with r := rfs (adv s q.r) 11 }, { k := 1, pl := (adv s q.r).a, ou := ou, ta := lvOf { q with r := adv s q.r } (varI s (adv s q.r) q.ls), rd := none6, tp := none6 })
  have hR := ex_bad (s := s) (x := ({ q with r := rfs (adv s q.r) 11 }, { k := 1, pl := (adv s q.r).a, ou := ou, ta := lvOf { q with r := adv s q.r } (varI s (adv s q.r) q.ls), rd := none6, tp := none6 })) hb
  refine ⟨?_, ⟨hF.n, hF.pn, hF.pr, hF.ls, hF.vs⟩⟩
  show tk s (exQ s _).1.r 59 = _
  rw [hR]
  exact tk_bad hb

/-- what both have made of the statements of a block, up to what ends it -/
structure LoopS (s : ByteArray) (q0 : Tq) (p0 : Rs) (y : Tq) (z : Rs × List Nat) : Prop where
  e : y.r = z.1.r ∨ (z.1.r.er = 0 ∧ isS (tok s z.1.r) = false ∧ tok s z.1.r ≠ 125 ∧ y.r = rfs (adv s z.1.r) 11)
  le : rem s z.1.r ≤ rem s p0.r
  bad : z.1.r.er = 0 → p0.r.er = 0
  fq : FrQ q0 y
  fp : FrP p0 z.1
  ok : y.r = z.1.r → AllS q0 p0 y z

theorem loop_sim (s : ByteArray) (K : Nat) (ou : Int) (ih : ∀ (q : Tq) (p : Rs), Ag q p → rem s p.r < K + 1 → SimS s q p (stmQ s (K + 1) ou q) (stmP s (K + 1) p).1 ∧ OneS q p (stmQ s (K + 1) ou q) (stmP s (K + 1) p)) :
    ∀ (k : Nat) (q0 : Tq) (p0 : Rs) (q : Tq) (p : Rs) (l : List Nat), Ag q0 p0 → rem s p0.r < K + 1 → SimS s q0 p0 q p → AllS q0 p0 q (p, l) → LoopS s q0 p0 (loopQ s (stmQ s (K + 1) ou) k q) (loopP s (stmP s (K + 1)) k p l)
  | 0, q0, p0, q, p, l, hA, hK, hS, hL => by
    refine ⟨.inl (by show adv s q.r = adv s p.r; rw [hS.r]), Nat.le_trans (rem_adv _ _) hS.le, fun h => hS.bad (by rw [← adv_er s]; exact h), ⟨hS.fq.n, hS.fq.pn, hS.fq.pr, hS.fq.ls, hS.fq.vs⟩, ⟨hS.fp.n, hS.fp.ls, hS.fp.vs⟩, fun _ h hE hM hc => ?_⟩
    obtain ⟨M, a, b⟩ := hL (by rw [← adv_er s]; exact h) hE hM hc
    exact ⟨⟨M.ex, M.sm, M.oe, M.os⟩, a, b⟩
  | k + 1, q0, p0, q, p, l, hA, hK, hS, hL => by
    simp only [loopQ, loopP]
    rw [hS.r]
    cases h : isS (tok s p.r) with
    | true =>
      have hn : tok s p.r ≠ 0 ∧ tok s p.r ≠ 125 := by
        unfold isS isL at h
        simp only [Bool.or_eq_true, decide_eq_true_eq, beq_iff_eq] at h
        omega
      have he := (tok_pos hn.1).1
      rw [if_pos ⟨he, hn.2⟩, if_pos rfl]
      have hA1 := hA.go hS.fq hS.fp hS.r
      have hle := hS.le
      have hrd := rem_adv s p.r
      obtain ⟨h1, h2⟩ := ih { q with r := adv s p.r } { p with r := adv s p.r } ⟨rfl, hA1.n, hA1.ls, hA1.vs⟩ (by show rem s (adv s p.r) < _; omega)
      refine loop_sim s K ou ih k q0 p0 _ _ _ hA hK (hS.trans ⟨h1.r, Nat.le_trans h1.le hrd, fun e => by have := h1.bad e; exact he, ⟨h1.fq.n, h1.fq.pn, h1.fq.pr, h1.fq.ls, h1.fq.vs⟩, ⟨h1.fp.n, h1.fp.ls, h1.fp.vs⟩⟩) ?_
      intro h hE hM hc
      generalize stmQ s (K + 1) ou { q with r := adv s p.r } = y at *
      generalize stmP s (K + 1) { p with r := adv s p.r } = z at *
      obtain ⟨M, a, b⟩ := hL he hE hM hc
      have hcq : q.cd.length % 2 = 0 := by
        have : (q.cd).length = (q0.cd ++ als p.ex p.sm l (q0.cd.length / 2)).length := congrArg List.length b
        rw [List.length_append] at this
        have := all_even p.ex p.sm l (q0.cd.length / 2)
        omega
      obtain ⟨M2, a2, b2⟩ := h2 h M.oe M.os hcq
      have M2 : Mo p z.1 := ⟨M2.ex, M2.sm, M2.oe, M2.os⟩
      have b2 : y.cd = q.cd ++ one z.1.ex z.1.sm z.2 (q.cd.length / 2) := b2
      have b : q.cd = q0.cd ++ als p.ex p.sm l (q0.cd.length / 2) := b
      refine ⟨M.trans M2, fun n hn => ?_, ?_⟩
      · rw [List.mem_append, List.mem_singleton] at hn
        rcases hn with hn | hn
        · exact M2.lt (a n hn)
        · rw [hn]; exact a2
      · rw [b2]
        show _ = q0.cd ++ allG (one z.1.ex z.1.sm) (l ++ [z.2]) (q0.cd.length / 2)
        rw [allG_add _ _ _ _ (one_even _ _)]
        have e1 : allG (one z.1.ex z.1.sm) l (q0.cd.length / 2) = als p.ex p.sm l (q0.cd.length / 2) := M2.all M.oe M.os a _
        rw [e1]
        have hl2 : q.cd.length / 2 = q0.cd.length / 2 + (als p.ex p.sm l (q0.cd.length / 2)).length / 2 := by
          have h1 := all_even p.ex p.sm l (q0.cd.length / 2)
          rw [b, List.length_append]
          omega
        rw [hl2, b, List.append_assoc]
    | false =>
      rw [if_neg (show ¬ (false = true) from by simp)]
      by_cases hq : p.r.er = 0 ∧ tok s p.r ≠ 125
      · rw [if_pos hq]
        have hd := stm_dead (s := s) (k := K) (ou := ou) (q := { q with r := adv s p.r }) (by show isS (tok s (adv s p.r)) = false; rw [tok_adv]; exact h)
        have hr : (stmQ s (K + 1) ou { q with r := adv s p.r }).r = rfs (adv s p.r) 11 := by rw [hd.1]; show rfs (adv s (adv s p.r)) 11 = _; rw [adv_adv]
        have hb : (rfs (adv s p.r) 11).er ≠ 0 := rfs_er (by omega)
        generalize stmQ s (K + 1) ou { q with r := adv s p.r } = y at *
        have hy : loopQ s (stmQ s (K + 1) ou) k y = y := by
          cases k with
          | zero => simp only [loopQ]; rw [adv_bad (by rw [hr]; exact hb)]
          | succ k => simp only [loopQ]; rw [if_neg (fun c => hb (by rw [← hr]; exact c.1)), adv_bad (by rw [hr]; exact hb)]
        rw [hy]
        have hfq : FrQ q y := ⟨hd.2.n, hd.2.pn, hd.2.pr, hd.2.ls, hd.2.vs⟩
        refine ⟨.inr ⟨by show (adv s p.r).er = 0; rw [adv_er]; exact hq.1, by show isS (tok s (adv s p.r)) = false; rw [tok_adv]; exact h, by show tok s (adv s p.r) ≠ 125; rw [tok_adv]; exact hq.2, by show y.r = rfs (adv s (adv s p.r)) 11; rw [adv_adv]; exact hr⟩, Nat.le_trans (rem_adv _ _) hS.le, fun h => hS.bad hq.1, hS.fq.trans hfq, ⟨hS.fp.n, hS.fp.ls, hS.fp.vs⟩, fun e => ?_⟩
        exfalso
        have e : y.r = adv s p.r := e
        rw [hr] at e
        have := congrArg Rd.er e
        rw [adv_er, hq.1] at this
        exact hb this
      · rw [if_neg hq]
        refine ⟨.inl rfl, Nat.le_trans (rem_adv _ _) hS.le, fun h => hS.bad (by rw [← adv_er s]; exact h), ⟨hS.fq.n, hS.fq.pn, hS.fq.pr, hS.fq.ls, hS.fq.vs⟩, ⟨hS.fp.n, hS.fp.ls, hS.fp.vs⟩, fun _ h hE hM hc => ?_⟩
        obtain ⟨M, a, b⟩ := hL (by rw [← adv_er s]; exact h) hE hM hc
        exact ⟨⟨M.ex, M.sm, M.oe, M.os⟩, a, b⟩

theorem SimS.refl {s : ByteArray} {q : Tq} {p : Rs} (h : q.r = p.r) : SimS s q p q p := ⟨h, Nat.le_refl _, fun e => e, FrQ.refl _, FrP.refl _⟩

/-- a block -/
theorem blk_sim (s : ByteArray) (K : Nat) (ou : Int) (ih : ∀ (q : Tq) (p : Rs), Ag q p → rem s p.r < K + 1 → SimS s q p (stmQ s (K + 1) ou q) (stmP s (K + 1) p).1 ∧ OneS q p (stmQ s (K + 1) ou q) (stmP s (K + 1) p)) (k : Nat) (q : Tq) (p : Rs) (hA : Ag q p) (hK : rem s p.r < K + 1) :
    SimS s q p (blkQ s (stmQ s (K + 1) ou) k q) (blkP s (stmP s (K + 1)) k p).1 ∧ AllS q p (blkQ s (stmQ s (K + 1) ou) k q) (blkP s (stmP s (K + 1)) k p) := by
  have hr := hA.r
  unfold blkQ blkP
  rw [hr]
  have hk := rem_tk s p.r 123
  have hl := loop_sim s K ou ih k { q with r := tk s p.r 123 } { p with r := tk s p.r 123 } { q with r := tk s p.r 123 } { p with r := tk s p.r 123 } [] ⟨rfl, hA.n, hA.ls, hA.vs⟩ (by show rem s (tk s p.r 123) < _; omega) (SimS.refl rfl) (fun _ hE hM _ => ⟨⟨⟨[], by simp⟩, ⟨[], by simp⟩, hE, hM⟩, fun n hn => by simp at hn, by simp [als, allG]⟩)
  generalize loopQ s (stmQ s (K + 1) ou) k { q with r := tk s p.r 123 } = y at *
  generalize loopP s (stmP s (K + 1)) k { p with r := tk s p.r 123 } [] = z at *
  have he : tk s y.r 125 = tk s z.1.r 125 := by
    rcases hl.e with e | ⟨e1, e2, e3, e4⟩
    · rw [e]
    · rw [e4, tk_bad (rfs_er (by omega))]
      unfold tk tkIf
      rw [if_neg (by rw [beq_iff_eq]; exact e3)]
  have hok : (tk s z.1.r 125).er = 0 → y.r = z.1.r := by
    intro h
    rcases hl.e with e | ⟨e1, e2, e3, e4⟩
    · exact e
    · have := (tkIf_er (by omega) h).2
      rw [beq_iff_eq] at this
      exact absurd this e3
  have hle := hl.le
  have hrk := rem_tk s z.1.r 125
  have c : rem s ({ p with r := tk s p.r 123 } : Rs).r = rem s (tk s p.r 123) := rfl
  refine ⟨⟨he, by show rem s (tk s z.1.r 125) ≤ _; omega, fun h => tk_er (hl.bad (tk_er h)), ⟨hl.fq.n, hl.fq.pn, hl.fq.pr, hl.fq.ls, hl.fq.vs⟩, ⟨hl.fp.n, hl.fp.ls, hl.fp.vs⟩⟩, fun h hE hM hc => ?_⟩
  obtain ⟨M, a, b⟩ := hl.ok (hok h) (tk_er h) hE hM hc
  exact ⟨⟨M.ex, M.sm, M.oe, M.os⟩, a, b⟩
end Go.Proofs.YtcnbifdlkalimabGreat

/-
  The plain mathematics of sources, sixth part: a statement, as the program reads it and as the document does; no condition but those that stand in each lemma.
-/
namespace Go.Proofs.YtcnbifdlkalimabGreat
open Go.RowKit
set_option linter.unusedVariables false

theorem set_mid (A B : List Int) (a b v : Int) (i : Nat) (hi : i = A.length + 1) : (A ++ [a, b] ++ B).set i v = A ++ [a, v] ++ B := by
  subst hi
  rw [List.append_assoc, List.set_append_right _ _ (by omega), show A.length + 1 - A.length = 1 from by omega, List.append_assoc]
  rfl

theorem ass_sim (s : ByteArray) (q : Tq) (p : Rs) (x : Sq) (a : Nat) (hA : Ag q p) : SimS s q p (assQ s q x) (assP s p a).1 ∧ OneS q p (assQ s q x) (assP s p a) := by
  unfold assQ assP
  dsimp only
  rw [hA.r, hA.ls]
  have h1 := rem_varR s p.r p.ls
  have h2 := rem_tk s (varR s p.r p.ls) 61
  have hI := ex_sim s ({ q with r := tk s (varR s p.r p.ls) 61, ls := p.ls }, { x with k := 1, ta := lvOf { q with ls := p.ls } (varI s p.r p.ls) }) { p with r := tk s (varR s p.r p.ls) 61 } ⟨rfl, hA.n, rfl, hA.vs⟩
  rw [show lvOf { q with ls := p.ls } (varI s p.r p.ls) = lvOf q (varI s p.r p.ls) from rfl] at hI
  generalize exQ s ({ q with r := tk s (varR s p.r p.ls) 61, ls := p.ls }, { x with k := 1, ta := lvOf q (varI s p.r p.ls) }) = y at *
  generalize exP s { p with r := tk s (varR s p.r p.ls) 61 } = z at *
  have h3 := rem_tk s z.1.r 59
  have h4 := hI.le
  have c : rem s ({ p with r := tk s (varR s p.r p.ls) 61 } : Rs).r = rem s (tk s (varR s p.r p.ls) 61) := rfl
  refine ⟨⟨by show tk s y.1.r 59 = tk s z.1.r 59; rw [hI.r], by show rem s (tk s z.1.r 59) ≤ _; omega, fun h => (varR_er (tk_er (hI.bad (tk_er h)))).1, ⟨hI.fq.n, hI.fq.pn, hI.fq.pr, by show y.1.ls = _; rw [hI.fq.ls]; exact hA.ls.symm, hI.fq.vs⟩, ⟨hI.fp.n, hI.fp.ls, hI.fp.vs⟩⟩, fun h hE hM hc => ?_⟩
  obtain ⟨m, e1, o1, l1, c1⟩ := hI.ok (tk_er h) hE
  have es : z.1.sm = p.sm := hI.sm
  have hM1 : SmOk z.1.ex z.1.sm := by rw [es, e1]; exact hM.more m
  refine ⟨⟨⟨m, e1⟩, ⟨[_], by show z.1.sm ++ [_] = p.sm ++ _; rw [es]⟩, o1, hM1.add l1 (by simp) (by simp)⟩, by simp [stoP], ?_⟩
  show y.1.cd ++ _ = q.cd ++ one z.1.ex (z.1.sm ++ [_]) z.1.sm.length _
  rw [one_new o1 hM1 l1 (by simp) (by simp), c1]
  simp

theorem wri_sim (s : ByteArray) (q : Tq) (p : Rs) (x : Sq) (a : Nat) (hA : Ag q p) : SimS s q p (wriQ s q x) (wriP s p a).1 ∧ OneS q p (wriQ s q x) (wriP s p a) := by
  unfold wriQ wriP
  dsimp only
  rw [hA.r, hA.n]
  have h1 := rem_digR s (tk s p.r 62) 0 (p.n - 1)
  have h2 := rem_tk s p.r 62
  have hI := ex_sim s ({ q with r := digR s (tk s p.r 62) 0 (p.n - 1), n := p.n }, { x with k := 2, ta := dig s (tk s p.r 62) 0 (p.n - 1) }) { p with r := digR s (tk s p.r 62) 0 (p.n - 1) } ⟨rfl, rfl, hA.ls, hA.vs⟩
  generalize exQ s ({ q with r := digR s (tk s p.r 62) 0 (p.n - 1), n := p.n }, { x with k := 2, ta := dig s (tk s p.r 62) 0 (p.n - 1) }) = y at *
  generalize exP s { p with r := digR s (tk s p.r 62) 0 (p.n - 1) } = z at *
  have h3 := rem_tk s z.1.r 59
  have h4 := hI.le
  have c : rem s ({ p with r := digR s (tk s p.r 62) 0 (p.n - 1) } : Rs).r = rem s (digR s (tk s p.r 62) 0 (p.n - 1)) := rfl
  refine ⟨⟨by show tk s y.1.r 59 = tk s z.1.r 59; rw [hI.r], by show rem s (tk s z.1.r 59) ≤ _; omega, fun h => tk_er (digR_er (hI.bad (tk_er h))), ⟨by show y.1.n = _; rw [hI.fq.n]; exact hA.n.symm, hI.fq.pn, hI.fq.pr, hI.fq.ls, hI.fq.vs⟩, ⟨hI.fp.n, hI.fp.ls, hI.fp.vs⟩⟩, fun h hE hM hc => ?_⟩
  obtain ⟨m, e1, o1, l1, c1⟩ := hI.ok (tk_er h) hE
  have es : z.1.sm = p.sm := hI.sm
  have hM1 : SmOk z.1.ex z.1.sm := by rw [es, e1]; exact hM.more m
  refine ⟨⟨⟨m, e1⟩, ⟨[_], by show z.1.sm ++ [_] = p.sm ++ _; rw [es]⟩, o1, hM1.add l1 (by simp) (by simp)⟩, by simp [stoP], ?_⟩
  show y.1.cd ++ _ = q.cd ++ one z.1.ex (z.1.sm ++ [_]) z.1.sm.length _
  rw [one_new o1 hM1 l1 (by simp) (by simp), c1]
  simp

/-- the expression of a choice or of a loop, and the first block -/
theorem part_sim (s : ByteArray) (K : Nat) (ih : ∀ (ou : Int) (q : Tq) (p : Rs), Ag q p → rem s p.r < K + 1 → SimS s q p (stmQ s (K + 1) ou q) (stmP s (K + 1) p).1 ∧ OneS q p (stmQ s (K + 1) ou q) (stmP s (K + 1) p)) (q : Tq) (p : Rs) (x : Sq) (ch : Int) (hA : Ag q p) (hK : rem s (tk s p.r ch) < K + 1) (y : Tq × Sq) (z : Rs × Nat)
    (hy : exQ s ({ q with r := tk s p.r ch }, x) = y) (hz : exP s { p with r := tk s p.r ch } = z) :
    SimS s q p (blkQ s (stmQ s (K + 1) y.1.ss.length) (K + 1) (emitQ (addQ y.1 y.2) 9 0)) (blkP s (stmP s (K + 1)) (K + 1) z.1).1 ∧
    ((blkP s (stmP s (K + 1)) (K + 1) z.1).1.r.er = 0 → ExOk p.ex → SmOk p.ex p.sm → q.cd.length % 2 = 0 → Mo p (blkP s (stmP s (K + 1)) (K + 1) z.1).1 ∧ (∀ n, n ∈ (blkP s (stmP s (K + 1)) (K + 1) z.1).2 → n < (blkP s (stmP s (K + 1)) (K + 1) z.1).1.sm.length) ∧ z.2 < (blkP s (stmP s (K + 1)) (K + 1) z.1).1.ex.length ∧
      (plQ y.1 = q.cd.length / 2 + (cod (blkP s (stmP s (K + 1)) (K + 1) z.1).1.ex z.2).length / 2) ∧
      (blkQ s (stmQ s (K + 1) y.1.ss.length) (K + 1) (emitQ (addQ y.1 y.2) 9 0)).cd = q.cd ++ cod (blkP s (stmP s (K + 1)) (K + 1) z.1).1.ex z.2 ++ [9, 0] ++ als (blkP s (stmP s (K + 1)) (K + 1) z.1).1.ex (blkP s (stmP s (K + 1)) (K + 1) z.1).1.sm (blkP s (stmP s (K + 1)) (K + 1) z.1).2 (q.cd.length / 2 + (cod (blkP s (stmP s (K + 1)) (K + 1) z.1).1.ex z.2).length / 2 + 1)) := by
  have hI := ex_sim s ({ q with r := tk s p.r ch }, x) { p with r := tk s p.r ch } ⟨rfl, hA.n, hA.ls, hA.vs⟩
  rw [hy, hz] at hI
  have c : rem s ({ p with r := tk s p.r ch } : Rs).r = rem s (tk s p.r ch) := rfl
  have h4 := hI.le
  have hr := rem_tk s p.r ch
  have hA1 : Ag (emitQ (addQ y.1 y.2) 9 0) z.1 := ⟨hI.r, by show y.1.n = _; rw [hI.fq.n, hI.fp.n]; exact hA.n, by show y.1.ls = _; rw [hI.fq.ls, hI.fp.ls]; exact hA.ls, by show y.1.vs = _; rw [hI.fq.vs, hI.fp.vs]; exact hA.vs⟩
  obtain ⟨hB, hB2⟩ := blk_sim s K y.1.ss.length (ih _) (K + 1) (emitQ (addQ y.1 y.2) 9 0) z.1 hA1 (by omega)
  generalize blkQ s (stmQ s (K + 1) y.1.ss.length) (K + 1) (emitQ (addQ y.1 y.2) 9 0) = u at *
  generalize blkP s (stmP s (K + 1)) (K + 1) z.1 = v at *
  have h5 := hB.le
  refine ⟨⟨hB.r, by omega, fun h => tk_er (hI.bad (hB.bad h)), ⟨by rw [hB.fq.n]; exact hI.fq.n, by rw [hB.fq.pn]; exact hI.fq.pn, by rw [hB.fq.pr]; exact hI.fq.pr, by rw [hB.fq.ls]; exact hI.fq.ls, by rw [hB.fq.vs]; exact hI.fq.vs⟩, ⟨by rw [hB.fp.n]; exact hI.fp.n, by rw [hB.fp.ls]; exact hI.fp.ls, by rw [hB.fp.vs]; exact hI.fp.vs⟩⟩, fun h hE hM hc => ?_⟩
  obtain ⟨m, e1, o1, l1, c1⟩ := hI.ok (hB.bad h) hE
  have es : z.1.sm = p.sm := hI.sm
  have e1 : z.1.ex = p.ex ++ m := e1
  have hM1 : SmOk z.1.ex z.1.sm := by rw [es, e1]; exact hM.more m
  have c1 : y.1.cd = q.cd ++ cod z.1.ex z.2 := c1
  have ev := cod_even z.1.ex z.2
  have ce : (emitQ (addQ y.1 y.2) 9 0).cd = q.cd ++ cod z.1.ex z.2 ++ [9, 0] := by show y.1.cd ++ [9, 0 % 256] = _; rw [c1]; rfl
  have cl : (emitQ (addQ y.1 y.2) 9 0).cd.length = q.cd.length + (cod z.1.ex z.2).length + 2 := by rw [ce]; simp only [List.length_append, List.length_cons, List.length_nil]
  obtain ⟨M, a1, b1⟩ := hB2 h o1 hM1 (by omega)
  have ec : cod v.1.ex z.2 = cod z.1.ex z.2 := M.cod o1 l1
  rw [ec]
  refine ⟨Mo.trans ⟨⟨m, e1⟩, ⟨[], by rw [es]; simp⟩, o1, hM1⟩ M, a1, M.lte l1, ?_, ?_⟩
  · unfold plQ
    rw [c1, List.length_append]
    omega
  · rw [b1, show (emitQ (addQ y.1 y.2) 9 0).cd.length / 2 = q.cd.length / 2 + (cod z.1.ex z.2).length / 2 + 1 from by omega, ce]

theorem rep_sim (s : ByteArray) (K : Nat) (ih : ∀ (ou : Int) (q : Tq) (p : Rs), Ag q p → rem s p.r < K + 1 → SimS s q p (stmQ s (K + 1) ou q) (stmP s (K + 1) p).1 ∧ OneS q p (stmQ s (K + 1) ou q) (stmP s (K + 1) p)) (q : Tq) (p : Rs) (x : Sq) (a : Nat) (hA : Ag q p) (hK : rem s (tk s p.r 64) < K + 1) :
    SimS s q p (repQ s (stmQ s (K + 1)) (K + 1) q x) (repP s (stmP s (K + 1)) (K + 1) p a).1 ∧ OneS q p (repQ s (stmQ s (K + 1)) (K + 1) q x) (repP s (stmP s (K + 1)) (K + 1) p a) := by
  have hP := part_sim s K ih q p { x with k := 4 } 64 hA hK _ _ rfl rfl
  unfold repQ repP
  dsimp only
  rw [hA.r]
  generalize exQ s ({ q with r := tk s p.r 64 }, { x with k := 4 }) = y at *
  generalize exP s { p with r := tk s p.r 64 } = z at *
  generalize blkQ s (stmQ s (K + 1) y.1.ss.length) (K + 1) (emitQ (addQ y.1 y.2) 9 0) = u at *
  generalize blkP s (stmP s (K + 1)) (K + 1) z.1 = v at *
  obtain ⟨hB, hB2⟩ := hP
  refine ⟨⟨hB.r, hB.le, hB.bad, ⟨hB.fq.n, hB.fq.pn, hB.fq.pr, hB.fq.ls, hB.fq.vs⟩, ⟨hB.fp.n, hB.fp.ls, hB.fp.vs⟩⟩, fun h hE hM hc => ?_⟩
  obtain ⟨M, a1, l1, p1, c1⟩ := hB2 h hE hM hc
  obtain ⟨m1, e1⟩ := M.sm
  refine ⟨⟨M.ex, ⟨m1 ++ [_], by show v.1.sm ++ [_] = _; rw [e1, List.append_assoc]⟩, M.oe, M.os.add l1 a1 (by simp)⟩, by simp [stoP], ?_⟩
  show (aimQ (emitQ u 8 (plQ q)) (plQ y.1)).cd = q.cd ++ one v.1.ex (v.1.sm ++ [_]) v.1.sm.length _
  rw [one_new M.oe M.os l1 a1 (by simp)]
  dsimp only
  rw [if_neg (by omega), if_neg (by omega), if_pos rfl]
  have ev := cod_even v.1.ex z.2
  have ev2 := all_even v.1.ex v.1.sm v.2 (q.cd.length / 2 + (cod v.1.ex z.2).length / 2 + 1)
  generalize als v.1.ex v.1.sm v.2 (q.cd.length / 2 + (cod v.1.ex z.2).length / 2 + 1) = B at *
  generalize cod v.1.ex z.2 = E at *
  show (u.cd ++ [8, (plQ q : Int) % 256]).set (2 * plQ y.1 + 1) ((((u.cd ++ [8, (plQ q : Int) % 256]).length / 2 : Nat) : Int) % 256) = _
  have hl : (u.cd ++ [8, (plQ q : Int) % 256]).length / 2 = q.cd.length / 2 + E.length / 2 + 1 + B.length / 2 + 1 := by
    rw [c1]
    simp only [List.length_append, List.length_cons, List.length_nil]
    omega
  rw [hl, c1, List.append_assoc (q.cd ++ E ++ [9, 0]) B, set_mid _ _ _ _ _ _ (by rw [p1, List.length_append]; omega)]
  unfold plQ
  simp

theorem cho_sim (s : ByteArray) (K : Nat) (ih : ∀ (ou : Int) (q : Tq) (p : Rs), Ag q p → rem s p.r < K + 1 → SimS s q p (stmQ s (K + 1) ou q) (stmP s (K + 1) p).1 ∧ OneS q p (stmQ s (K + 1) ou q) (stmP s (K + 1) p)) (q : Tq) (p : Rs) (x : Sq) (a : Nat) (hA : Ag q p) (hK : rem s (tk s p.r 63) < K + 1) :
    SimS s q p (choQ s (stmQ s (K + 1)) (K + 1) q x) (choP s (stmP s (K + 1)) (K + 1) p a).1 ∧ OneS q p (choQ s (stmQ s (K + 1)) (K + 1) q x) (choP s (stmP s (K + 1)) (K + 1) p a) := by
  have hP := part_sim s K ih q p { x with k := 3 } 63 hA hK _ _ rfl rfl
  unfold choQ choP
  dsimp only
  rw [hA.r]
  generalize exQ s ({ q with r := tk s p.r 63 }, { x with k := 3 }) = y at *
  have hz : ∃ z, exP s { p with r := tk s p.r 63 } = z := ⟨_, rfl⟩
  obtain ⟨z, hz⟩ := hz
  have hz1 := (ex_sim s ({ q with r := tk s p.r 63 }, x) { p with r := tk s p.r 63 } ⟨rfl, hA.n, hA.ls, hA.vs⟩).le
  rw [hz] at hz1
  rw [hz] at hP ⊢
  generalize hu : blkQ s (stmQ s (K + 1) y.1.ss.length) (K + 1) (emitQ (addQ y.1 y.2) 9 0) = u at *
  generalize hv : blkP s (stmP s (K + 1)) (K + 1) z.1 = v at *
  obtain ⟨hB, hB2⟩ := hP
  rw [hB.r]
  by_cases ht : tok s v.1.r = 58
  · rw [if_pos ht, if_pos ht]
    have hlt := rem_tok (s := s) (r := v.1.r) (by omega)
    have hle := hB.le
    have hrk := rem_tk s p.r 63
    have hAv := hA.go hB.fq hB.fp hB.r
    have hvr : rem s v.1.r < K + 1 := by
      have c : rem s ({ p with r := tk s p.r 63 } : Rs).r = rem s (tk s p.r 63) := rfl
      have := (blk_sim s K y.1.ss.length (ih _) (K + 1) ⟨z.1.r, z.1.n, 0, fun _ _ => false, z.1.ls, z.1.vs, [], 0, 0, []⟩ z.1 ⟨rfl, rfl, rfl, rfl⟩ (by omega)).1.le
      rw [hv] at this
      omega
    have hO := blk_sim s K y.1.ss.length (ih _) (K + 1) (aimQ (emitQ { u with r := nx (adv s v.1.r) } 8 0) (plQ y.1)) { v.1 with r := nx (adv s v.1.r) } ⟨rfl, hAv.n, hAv.ls, hAv.vs⟩ (by show rem s (nx (adv s v.1.r)) < _; omega)
    have er1 : v.1.r.er = 0 := (tok_pos (s := s) (r := v.1.r) (by omega)).1
    have hcd : (aimQ (emitQ { u with r := nx (adv s v.1.r) } 8 0) (plQ y.1)).cd = (u.cd ++ [8, 0]).set (2 * plQ y.1 + 1) ((((u.cd ++ [8, 0]).length / 2 : Nat) : Int) % 256) := rfl
    have hfr : FrQ u (aimQ (emitQ { u with r := nx (adv s v.1.r) } 8 0) (plQ y.1)) := ⟨rfl, rfl, rfl, rfl, rfl⟩
    generalize aimQ (emitQ { u with r := nx (adv s v.1.r) } 8 0) (plQ y.1) = u1 at *
    generalize blkQ s (stmQ s (K + 1) y.1.ss.length) (K + 1) u1 = u2 at *
    generalize blkP s (stmP s (K + 1)) (K + 1) { v.1 with r := nx (adv s v.1.r) } = c at *
    obtain ⟨hO1, hO2⟩ := hO
    have hle3 := hO1.le
    have hle4 : rem s ({ v.1 with r := nx (adv s v.1.r) } : Rs).r = rem s (nx (adv s v.1.r)) := rfl
    refine ⟨⟨hO1.r, by show rem s c.1.r ≤ _; omega, fun h => hB.bad er1, ?_, ?_⟩, fun h hE hM hc => ?_⟩
    · have f1 := hB.fq.trans (hfr.trans hO1.fq)
      exact ⟨f1.n, f1.pn, f1.pr, f1.ls, f1.vs⟩
    · have f1 : FrP v.1 c.1 := ⟨hO1.fp.n, hO1.fp.ls, hO1.fp.vs⟩
      have f2 := hB.fp.trans f1
      exact ⟨f2.n, f2.ls, f2.vs⟩
    obtain ⟨M, a1, l1, p1, c1⟩ := hB2 er1 hE hM hc
    have ev := cod_even v.1.ex z.2
    have ev2 := all_even v.1.ex v.1.sm v.2 (q.cd.length / 2 + (cod v.1.ex z.2).length / 2 + 1)
    have hul : u.cd.length = q.cd.length + (cod v.1.ex z.2).length + 2 + (als v.1.ex v.1.sm v.2 (q.cd.length / 2 + (cod v.1.ex z.2).length / 2 + 1)).length := by
      rw [c1]
      simp only [List.length_append, List.length_cons, List.length_nil]
    have hu1 : u1.cd.length = u.cd.length + 2 := by rw [hcd, List.length_set, List.length_append]; rfl
    obtain ⟨M2, a2, b2⟩ := hO2 h M.oe M.os (by omega)
    have M2 : Mo v.1 c.1 := ⟨M2.ex, M2.sm, M2.oe, M2.os⟩
    obtain ⟨m1, e1⟩ := (M.trans M2).sm
    have lc : z.2 < c.1.ex.length := M2.lte l1
    have ac : ∀ m, m ∈ v.2 → m < c.1.sm.length := fun m hm => M2.lt (a1 m hm)
    refine ⟨⟨(M.trans M2).ex, ⟨m1 ++ [_], by show c.1.sm ++ [_] = _; rw [e1, List.append_assoc]⟩, M2.oe, M2.os.add lc ac a2⟩, by simp [stoP], ?_⟩
    show (aimQ u2 (plQ u)).cd = q.cd ++ one c.1.ex (c.1.sm ++ [_]) c.1.sm.length _
    rw [one_new M2.oe M2.os lc ac a2]
    dsimp only
    rw [if_neg (by omega), if_neg (by omega), if_neg (by omega), if_neg (by simp)]
    rw [M2.cod M.oe l1, M2.all M.oe M.os a1]
    have ev3 := all_even c.1.ex c.1.sm c.2 (q.cd.length / 2 + (cod v.1.ex z.2).length / 2 + 1 + (als v.1.ex v.1.sm v.2 (q.cd.length / 2 + (cod v.1.ex z.2).length / 2 + 1)).length / 2 + 1)
    have hpl : u1.cd.length / 2 = q.cd.length / 2 + (cod v.1.ex z.2).length / 2 + 1 + (als v.1.ex v.1.sm v.2 (q.cd.length / 2 + (cod v.1.ex z.2).length / 2 + 1)).length / 2 + 1 := by omega
    rw [hpl] at b2
    generalize als c.1.ex c.1.sm c.2 (q.cd.length / 2 + (cod v.1.ex z.2).length / 2 + 1 + (als v.1.ex v.1.sm v.2 (q.cd.length / 2 + (cod v.1.ex z.2).length / 2 + 1)).length / 2 + 1) = O at *
    generalize als v.1.ex v.1.sm v.2 (q.cd.length / 2 + (cod v.1.ex z.2).length / 2 + 1) = B at *
    generalize cod v.1.ex z.2 = E at *
    have hcd2 : u1.cd = q.cd ++ E ++ [9, ((q.cd.length / 2 + E.length / 2 + 1 + B.length / 2 + 1 : Nat) : Int) % 256] ++ B ++ [8, 0] := by
      rw [hcd, show (u.cd ++ ([8, 0] : List Int)).length / 2 = q.cd.length / 2 + E.length / 2 + 1 + B.length / 2 + 1 from by rw [List.length_append]; simp only [List.length_cons, List.length_nil]; omega, c1, List.append_assoc (q.cd ++ E ++ [9, 0]) B, set_mid _ _ _ _ _ _ (by rw [p1, List.length_append]; omega)]
      simp
    show u2.cd.set (2 * plQ u + 1) (((u2.cd.length / 2 : Nat) : Int) % 256) = _
    have hl2 : u2.cd.length / 2 = q.cd.length / 2 + E.length / 2 + 1 + B.length / 2 + 1 + O.length / 2 := by
      rw [b2, List.length_append]
      omega
    rw [hl2, b2, hcd2, set_mid _ _ _ _ _ _ (by unfold plQ; simp only [List.length_append, List.length_cons, List.length_nil]; omega)]
    simp
  · rw [if_neg ht, if_neg ht]
    refine ⟨⟨rfl, Nat.le_trans (rem_adv _ _) hB.le, fun h => hB.bad (by rw [← adv_er s]; exact h), ⟨hB.fq.n, hB.fq.pn, hB.fq.pr, hB.fq.ls, hB.fq.vs⟩, ⟨hB.fp.n, hB.fp.ls, hB.fp.vs⟩⟩, fun h hE hM hc => ?_⟩
    obtain ⟨M, a1, l1, p1, c1⟩ := hB2 (by rw [← adv_er s]; exact h) hE hM hc
    obtain ⟨m1, e1⟩ := M.sm
    refine ⟨⟨M.ex, ⟨m1 ++ [_], by show v.1.sm ++ [_] = _; rw [e1, List.append_assoc]⟩, M.oe, M.os.add l1 a1 (by simp)⟩, by simp [stoP], ?_⟩
    show (aimQ { u with r := adv s v.1.r } (plQ y.1)).cd = q.cd ++ one v.1.ex (v.1.sm ++ [_]) v.1.sm.length _
    rw [one_new M.oe M.os l1 a1 (by simp)]
    dsimp only
    rw [if_neg (by omega), if_neg (by omega), if_neg (by omega), if_pos rfl]
    have ev := cod_even v.1.ex z.2
    have ev2 := all_even v.1.ex v.1.sm v.2 (q.cd.length / 2 + (cod v.1.ex z.2).length / 2 + 1)
    generalize als v.1.ex v.1.sm v.2 (q.cd.length / 2 + (cod v.1.ex z.2).length / 2 + 1) = B at *
    generalize cod v.1.ex z.2 = E at *
    show u.cd.set (2 * plQ y.1 + 1) (((u.cd.length / 2 : Nat) : Int) % 256) = _
    have hl : u.cd.length / 2 = q.cd.length / 2 + E.length / 2 + 1 + B.length / 2 := by
      rw [c1]
      simp only [List.length_append, List.length_cons, List.length_nil]
      omega
    rw [hl, c1, set_mid _ _ _ _ _ _ (by rw [p1, List.length_append]; omega)]
    simp

theorem stm_sim (s : ByteArray) : ∀ (k : Nat) (ou : Int) (q : Tq) (p : Rs), Ag q p → rem s p.r < k → SimS s q p (stmQ s k ou q) (stmP s k p).1 ∧ OneS q p (stmQ s k ou q) (stmP s k p)
  | 0, ou, q, p, hA, hk => by omega
  | k + 1, ou, q, p, hA, hk => by
    have hA1 : Ag { q with r := adv s p.r } { p with r := adv s p.r } := ⟨rfl, hA.n, hA.ls, hA.vs⟩
    have hrd := rem_adv s p.r
    have fin : ∀ (y : Tq) (z : Rs × Nat), (SimS s { q with r := adv s p.r } { p with r := adv s p.r } y z.1 ∧ OneS { q with r := adv s p.r } { p with r := adv s p.r } y z) → SimS s q p y z.1 ∧ OneS q p y z := fun y z h => ⟨⟨h.1.r, Nat.le_trans h.1.le hrd, fun e => by have := h.1.bad e; rw [← adv_er s]; exact this, ⟨h.1.fq.n, h.1.fq.pn, h.1.fq.pr, h.1.fq.ls, h.1.fq.vs⟩, ⟨h.1.fp.n, h.1.fp.ls, h.1.fp.vs⟩⟩, fun e hE hM hc => by obtain ⟨M, a, b⟩ := h.2 e hE hM hc; exact ⟨⟨M.ex, M.sm, M.oe, M.os⟩, a, b⟩⟩
    simp only [stmQ, stmP]
    rw [hA.r]
    by_cases h1 : tok s p.r = 62
    · rw [if_pos h1, if_pos h1]
      exact fin _ _ (wri_sim s _ _ _ _ hA1)
    · rw [if_neg h1, if_neg h1]
      by_cases h2 : tok s p.r = 63
      · rw [if_pos h2, if_pos h2]
        have hlt := rem_tok (s := s) (r := p.r) (by omega)
        have e1 : tk s (adv s p.r) 63 = nx (adv s p.r) := by rw [← h2]; exact tok_idem (by omega)
        obtain ⟨K, rfl⟩ : ∃ K, k = K + 1 := ⟨k - 1, by omega⟩
        exact fin _ _ (cho_sim s K (stm_sim s (K + 1)) _ _ _ _ hA1 (by show rem s (tk s (adv s p.r) 63) < _; rw [e1]; omega))
      · rw [if_neg h2, if_neg h2]
        by_cases h3 : tok s p.r = 64
        · rw [if_pos h3, if_pos h3]
          have hlt := rem_tok (s := s) (r := p.r) (by omega)
          have e1 : tk s (adv s p.r) 64 = nx (adv s p.r) := by rw [← h3]; exact tok_idem (by omega)
          obtain ⟨K, rfl⟩ : ∃ K, k = K + 1 := ⟨k - 1, by omega⟩
          exact fin _ _ (rep_sim s K (stm_sim s (K + 1)) _ _ _ _ hA1 (by show rem s (tk s (adv s p.r) 64) < _; rw [e1]; omega))
        · rw [if_neg h3, if_neg h3]
          exact fin _ _ (ass_sim s _ _ _ _ hA1)
end Go.Proofs.YtcnbifdlkalimabGreat

/-
  The plain mathematics of sources, seventh part: what stands ahead of the statements, the order that follows from pairs, and a source as a whole; no condition but those that stand in each lemma.
-/
namespace Go.Proofs.YtcnbifdlkalimabGreat
open Go.RowKit
set_option linter.unusedVariables false

/-! ## The order that follows from pairs -/

/-- by so many pairs at most -/
theorem hop_up (l : List Int) : ∀ (k : Nat) (a b : Int), hopF l k a b = true → hopF l (k + 1) a b = true
  | 0, a, b, h => by
    simp only [hopF] at h ⊢
    simp [h]
  | k + 1, a, b, h => by
    rw [hopF] at h ⊢
    rw [Bool.or_eq_true] at h ⊢
    rcases h with h | h
    · exact .inl h
    · rw [List.any_eq_true] at h ⊢
      obtain ⟨i, hi, h⟩ := h
      rw [Bool.and_eq_true] at h
      exact .inr ⟨i, hi, by rw [Bool.and_eq_true]; exact ⟨h.1, hop_up l k _ _ h.2⟩⟩
theorem hop_mono {l : List Int} {k k' : Nat} {a b : Int} (h : hopF l k a b = true) (hk : k ≤ k') : hopF l k' a b = true := by
  induction k' with
  | zero => have : k = 0 := by omega
            rw [this] at h; exact h
  | succ j ih =>
    by_cases e : k = j + 1
    · rw [e] at h; exact h
    · exact hop_up l j a b (ih (by omega))
theorem hop_self (l : List Int) (k : Nat) (a : Int) : hopF l k a a = true := by cases k <;> simp [hopF]

/-- there is a pair from a to b -/
def Pr (l : List Int) (a b : Int) : Prop := ∃ i : Nat, 2 * i + 1 < l.length ∧ l.getD (2 * i) 0 = a ∧ l.getD (2 * i + 1) 0 = b
theorem hop_succ {l : List Int} {k : Nat} {a b : Int} : hopF l (k + 1) a b = true ↔ a = b ∨ ∃ c, Pr l a c ∧ hopF l k c b = true := by
  rw [hopF, Bool.or_eq_true, beq_iff_eq, List.any_eq_true]
  constructor
  · rintro (h | ⟨i, hi, h⟩)
    · exact .inl h
    · rw [Bool.and_eq_true, beq_iff_eq] at h
      rw [List.mem_range] at hi
      exact .inr ⟨_, ⟨i, by omega, h.1, rfl⟩, h.2⟩
  · rintro (h | ⟨c, ⟨i, hi, h1, h2⟩, h3⟩)
    · exact .inl h
    · exact .inr ⟨i, by rw [List.mem_range]; omega, by rw [Bool.and_eq_true, beq_iff_eq]; exact ⟨h1, by rw [h2]; exact h3⟩⟩
/-- one can come from a to b -/
def Way (l : List Int) (a b : Int) : Prop := ∃ k, hopF l k a b = true
theorem Way.refl (l : List Int) (a : Int) : Way l a a := ⟨0, hop_self l 0 a⟩
theorem Way.head {l : List Int} {a b c : Int} (h : Pr l a b) (k : Way l b c) : Way l a c := by
  obtain ⟨j, k⟩ := k
  exact ⟨j + 1, hop_succ.2 (.inr ⟨b, h, k⟩)⟩
theorem Way.ind {l : List Int} {b : Int} (P : Int → Prop) (h0 : P b) (h1 : ∀ a c, Pr l a c → P c → P a) {a : Int} (h : Way l a b) : P a := by
  obtain ⟨k, h⟩ := h
  induction k generalizing a with
  | zero => simp [hopF] at h; rw [h]; exact h0
  | succ k ih =>
    rcases hop_succ.1 h with h | ⟨c, hc, h⟩
    · rw [h]; exact h0
    · exact h1 a c hc (ih h)
theorem Way.trans {l : List Int} {a b c : Int} (h : Way l a b) (k : Way l b c) : Way l a c := Way.ind (fun x => Way l x c) k (fun a c hc h => h.head hc) h

/-- the levels that lie within n: a way between them needs at most n - 1 pairs -/
def In (l : List Int) (n : Nat) : Prop := ∀ i : Nat, i < l.length → 0 ≤ l.getD i 0 ∧ l.getD i 0 < n
/-- how far it is to b: those within k pairs, counted -/
def cntH (l : List Int) (b : Int) (k : Nat) : Nat → Nat
  | 0 => 0
  | n + 1 => cntH l b k n + if hopF l k n b = true then 1 else 0
theorem cntH_le (l : List Int) (b : Int) (k : Nat) : ∀ n, cntH l b k n ≤ n
  | 0 => Nat.le_refl _
  | n + 1 => by
    have := cntH_le l b k n
    simp only [cntH]
    split <;> omega
theorem cntH_mono (l : List Int) (b : Int) (k : Nat) : ∀ n, cntH l b k n ≤ cntH l b (k + 1) n
  | 0 => Nat.le_refl _
  | n + 1 => by
    have := cntH_mono l b k n
    simp only [cntH]
    by_cases h : hopF l k n b = true
    · rw [if_pos h, if_pos (hop_up l k _ _ h)]; omega
    · rw [if_neg h]; omega
theorem cntH_same (l : List Int) (b : Int) (k : Nat) : ∀ n, cntH l b k n = cntH l b (k + 1) n → ∀ a : Nat, a < n → hopF l (k + 1) a b = true → hopF l k a b = true
  | 0, _, a, ha, _ => by omega
  | n + 1, h, a, ha, hh => by
    have m := cntH_mono l b k n
    simp only [cntH] at h
    by_cases e : a = n
    · subst e
      by_cases h1 : hopF l k a b = true
      · exact h1
      · rw [if_neg h1, if_pos hh] at h
        omega
    · refine cntH_same l b k n ?_ a (by omega) hh
      by_cases h1 : hopF l k n b = true
      · rw [if_pos h1, if_pos (hop_up l k _ _ h1)] at h; omega
      · rw [if_neg h1] at h
        split at h <;> omega
theorem hop_fix {l : List Int} {n : Nat} (hI : In l n) {b : Nat} {k : Nat} (h : ∀ a : Nat, a < n → hopF l (k + 1) a b = true → hopF l k a b = true) : ∀ (j : Nat) (a : Nat), a < n → hopF l (k + j) a b = true → hopF l k a b = true
  | 0, a, ha, h1 => h1
  | j + 1, a, ha, h1 => by
    rcases hop_succ.1 (show hopF l (k + j + 1) a b = true from h1) with e | ⟨c, hc, h2⟩
    · rw [e]; exact hop_self l k _
    · obtain ⟨i, hi, e1, e2⟩ := id hc
      have hcn := hI (2 * i + 1) hi
      rw [e2] at hcn
      obtain ⟨cn, rfl⟩ : ∃ cn : Nat, c = cn := ⟨c.toNat, by omega⟩
      have := hop_fix hI h j cn (by omega) h2
      exact h a ha (hop_succ.2 (.inr ⟨_, hc, this⟩))
theorem hop_enough {l : List Int} {n : Nat} (hI : In l n) {a b : Nat} (ha : a < n) (hb : b < n) (h : Way l a b) : hopF l (n - 1) a b = true := by
  -- either the count still grows at each step up to k, or it stands still from some step on
  have key : ∀ k, (k + 1 ≤ cntH l b k n) ∨ (∃ j, j < k ∧ ∀ a : Nat, a < n → hopF l (j + 1) a b = true → hopF l j a b = true) := by
    intro k
    induction k with
    | zero =>
      refine .inl ?_
      have : ∀ m, b < m → 1 ≤ cntH l b 0 m := by
        intro m
        induction m with
        | zero => intro h; omega
        | succ m ih =>
          intro h
          simp only [cntH]
          by_cases e : b = m
          · subst e; rw [if_pos (hop_self l 0 _)]; omega
          · have := ih (by omega); omega
      exact this n hb
    | succ k ih =>
      rcases ih with ih | ⟨j, hj, ih⟩
      · by_cases e : cntH l b k n = cntH l b (k + 1) n
        · exact .inr ⟨k, by omega, cntH_same l b k n e⟩
        · have := cntH_mono l b k n
          exact .inl (by omega)
      · exact .inr ⟨j, by omega, ih⟩
  obtain ⟨K, hK⟩ := h
  rcases key n with h1 | ⟨j, hj, h1⟩
  · have := cntH_le l b n n; omega
  · have h2 := hop_fix hI h1 K a ha (hop_mono hK (by omega))
    exact hop_mono h2 (by omega)

/-- one pair more -/
theorem pr_add {l : List Int} (hl : l.length % 2 = 0) {x y a b : Int} : Pr (l ++ [x, y]) a b ↔ Pr l a b ∨ (a = x ∧ b = y) := by
  have g : ∀ i, i < l.length → (l ++ [x, y]).getD i 0 = l.getD i 0 := fun i hi => by rw [List.getD_eq_getElem?_getD, List.getD_eq_getElem?_getD, List.getElem?_append_left hi]
  have g0 : (l ++ [x, y]).getD l.length 0 = x := by rw [List.getD_eq_getElem?_getD, List.getElem?_append_right (Nat.le_refl _)]; simp
  have g1 : (l ++ [x, y]).getD (l.length + 1) 0 = y := by rw [List.getD_eq_getElem?_getD, List.getElem?_append_right (by omega)]; simp
  constructor
  · rintro ⟨i, hi, h1, h2⟩
    rw [List.length_append] at hi
    have hi : 2 * i + 1 < l.length + 2 := hi
    by_cases c : 2 * i + 1 < l.length
    · rw [g _ (by omega)] at h1
      rw [g _ c] at h2
      exact .inl ⟨i, c, h1, h2⟩
    · have e : 2 * i = l.length := by omega
      rw [e] at h1 h2
      rw [g0] at h1
      rw [g1] at h2
      exact .inr ⟨h1.symm, h2.symm⟩
  · rintro (⟨i, hi, h1, h2⟩ | ⟨h1, h2⟩)
    · exact ⟨i, by rw [List.length_append]; omega, by rw [g _ (by omega)]; exact h1, by rw [g _ hi]; exact h2⟩
    · have e : 2 * (l.length / 2) = l.length := by omega
      exact ⟨l.length / 2, by rw [List.length_append]; show _ < l.length + 2; omega, by rw [e, g0, h1], by rw [e, g1, h2]⟩
theorem way_add {l : List Int} (hl : l.length % 2 = 0) {x y a b : Int} : Way (l ++ [x, y]) a b ↔ Way l a b ∨ (Way l a x ∧ Way l y b) := by
  constructor
  · intro h
    refine Way.ind (fun a => Way l a b ∨ (Way l a x ∧ Way l y b)) (.inl (Way.refl l b)) ?_ h
    intro a c hc hP
    rcases (pr_add hl).1 hc with h1 | ⟨h1, h2⟩
    · rcases hP with h | ⟨h, k⟩
      · exact .inl (h.head h1)
      · exact .inr ⟨h.head h1, k⟩
    · rw [h1]
      rw [h2] at hP
      rcases hP with h | ⟨h, k⟩
      · exact .inr ⟨Way.refl l x, h⟩
      · exact .inr ⟨Way.refl l x, k⟩
  · have up : ∀ {a b : Int}, Way l a b → Way (l ++ [x, y]) a b := fun h => Way.ind (fun a => Way (l ++ [x, y]) a _) (Way.refl _ _) (fun a c hc h => h.head ((pr_add hl).2 (.inl hc))) h
    rintro (h | ⟨h, k⟩)
    · exact up h
    · exact (up h).trans ((up k).head ((pr_add hl).2 (.inr ⟨rfl, rfl⟩)))
end Go.Proofs.YtcnbifdlkalimabGreat

/-
  The plain mathematics of sources, eighth part: a source as a whole, as the program reads it and as the document does; no condition but those that stand in each lemma.
-/
namespace Go.Proofs.YtcnbifdlkalimabGreat
open Go.RowKit
set_option linter.unusedVariables false

theorem ex_rem (s : ByteArray) (x : Tq × Sq) : rem s (exQ s x).1.r ≤ rem s x.1.r := by
  have h := ex_sim s x ⟨x.1.r, x.1.n, x.1.ls, x.1.vs, [], []⟩ ⟨rfl, rfl, rfl, rfl⟩
  rw [h.r]
  exact h.le
theorem blk_rem (s : ByteArray) (K k : Nat) (ou : Int) (q : Tq) (hK : rem s q.r < K + 1) : rem s (blkQ s (stmQ s (K + 1) ou) k q).r ≤ rem s q.r := by
  have h := (blk_sim s K ou (stm_sim s (K + 1) ou) k q ⟨q.r, q.n, q.ls, q.vs, [], []⟩ ⟨rfl, rfl, rfl, rfl⟩ hK).1
  rw [h.r]
  exact h.le
theorem stm_le (s : ByteArray) (k : Nat) (ou : Int) (q : Tq) (hK : rem s q.r < k) : rem s (stmQ s k ou q).r ≤ rem s q.r := by
  have h := (stm_sim s k ou q ⟨q.r, q.n, q.ls, q.vs, [], []⟩ ⟨rfl, rfl, rfl, rfl⟩ hK).1
  rw [h.r]
  exact h.le
/-- a statement takes a token at least -/
theorem stm_lt (s : ByteArray) (k : Nat) (ou : Int) (q : Tq) (hK : rem s q.r < k) (ht : tok s q.r ≠ 0) : rem s (stmQ s k ou q).r < rem s q.r := by
  obtain ⟨k, rfl⟩ : ∃ j, k = j + 1 := ⟨k - 1, by omega⟩
  have hlt := rem_tok ht
  have e1 : ∀ c, tok s q.r = c → tk s (adv s q.r) c = nx (adv s q.r) := fun c h => by rw [← h]; exact tok_idem ht
  simp only [stmQ]
  by_cases h1 : tok s q.r = 62
  · rw [if_pos h1]
    unfold wriQ
    dsimp only
    rw [e1 62 h1]
    refine Nat.lt_of_le_of_lt (Nat.le_trans (rem_tk _ _ _) (Nat.le_trans (ex_rem _ _) (rem_digR _ _ _ _))) hlt
  · rw [if_neg h1]
    by_cases h2 : tok s q.r = 63
    · rw [if_pos h2]
      obtain ⟨K, rfl⟩ : ∃ K, k = K + 1 := ⟨k - 1, by omega⟩
      unfold choQ
      dsimp only
      rw [e1 63 h2]
      have hx := ex_rem s ({ q with r := nx (adv s q.r) }, { k := 3, pl := ((adv s q.r).a : Int), ou := ou, ta := 0, rd := none6, tp := none6 })
      generalize exQ s ({ q with r := nx (adv s q.r) }, { k := 3, pl := ((adv s q.r).a : Int), ou := ou, ta := 0, rd := none6, tp := none6 }) = y at *
      have hx : rem s y.1.r ≤ rem s (nx (adv s q.r)) := hx
      have hb := blk_rem s K (K + 1) y.1.ss.length (emitQ (addQ y.1 y.2) 9 0) (by show rem s y.1.r < _; omega)
      generalize blkQ s (stmQ s (K + 1) y.1.ss.length) (K + 1) (emitQ (addQ y.1 y.2) 9 0) = u at *
      have hb : rem s u.r ≤ rem s y.1.r := hb
      split
      · have h5 := Nat.le_trans (rem_nx_le s (adv s u.r)) (rem_adv s u.r)
        have hb2 := blk_rem s K (K + 1) y.1.ss.length (aimQ (emitQ { u with r := nx (adv s u.r) } 8 0) (plQ y.1)) (by show rem s (nx (adv s u.r)) < _; omega)
        have hb2 : rem s (blkQ s (stmQ s (K + 1) y.1.ss.length) (K + 1) (aimQ (emitQ { u with r := nx (adv s u.r) } 8 0) (plQ y.1))).r ≤ rem s (nx (adv s u.r)) := hb2
        show rem s (blkQ s (stmQ s (K + 1) y.1.ss.length) (K + 1) (aimQ (emitQ { u with r := nx (adv s u.r) } 8 0) (plQ y.1))).r < _
        omega
      · have := rem_adv s u.r
        show rem s (adv s u.r) < _
        omega
    · rw [if_neg h2]
      by_cases h3 : tok s q.r = 64
      · rw [if_pos h3]
        obtain ⟨K, rfl⟩ : ∃ K, k = K + 1 := ⟨k - 1, by omega⟩
        unfold repQ
        dsimp only
        rw [e1 64 h3]
        have hx := ex_rem s ({ q with r := nx (adv s q.r) }, { k := 4, pl := ((adv s q.r).a : Int), ou := ou, ta := 0, rd := none6, tp := none6 })
        generalize exQ s ({ q with r := nx (adv s q.r) }, { k := 4, pl := ((adv s q.r).a : Int), ou := ou, ta := 0, rd := none6, tp := none6 }) = y at *
        have hx : rem s y.1.r ≤ rem s (nx (adv s q.r)) := hx
        have hb := blk_rem s K (K + 1) y.1.ss.length (emitQ (addQ y.1 y.2) 9 0) (by show rem s y.1.r < _; omega)
        have hb : rem s (blkQ s (stmQ s (K + 1) y.1.ss.length) (K + 1) (emitQ (addQ y.1 y.2) 9 0)).r ≤ rem s y.1.r := hb
        show rem s (blkQ s (stmQ s (K + 1) y.1.ss.length) (K + 1) (emitQ (addQ y.1 y.2) 9 0)).r < _
        omega
      · rw [if_neg h3]
        unfold assQ
        dsimp only
        rw [varR_adv]
        have hv : rem s (varR s q.r q.ls) < rem s q.r := by
          cases h : varOk s q.r q.ls with
          | true => exact rem_tkIf_lt h ht
          | false =>
            unfold varR tkIf
            rw [h, if_neg (by simp), rem_rfs (by split <;> omega)]
            omega
        refine Nat.lt_of_le_of_lt (Nat.le_trans (rem_tk _ _ _) (Nat.le_trans (ex_rem _ _) (rem_tk _ _ _))) hv

/-! ## Ahead of the statements -/

theorem digR_no {s : ByteArray} {r : Rd} {n : Int} (hn : n ≤ 6) (h : ¬ (48 ≤ tok s r ∧ tok s r ≤ 57)) : digR s r 0 (n - 1) = rfs (adv s r) 11 := by
  unfold digR tkIf
  rw [if_neg]
  unfold isD
  rw [decide_eq_true_eq]
  omega
theorem dig_in {s : ByteArray} {r : Rd} {n : Int} (hn : 1 ≤ n) : 0 ≤ dig s r 0 (n - 1) ∧ dig s r 0 (n - 1) < n := by
  unfold dig
  split
  · rename_i h
    have := of_decide_eq_true h
    omega
  · omega
theorem digR_adv (s : ByteArray) (r : Rd) (a b : Int) : digR s (adv s r) a b = digR s r a b := by unfold digR isD; rw [tkIf_adv, tok_adv]
theorem dig_adv (s : ByteArray) (r : Rd) (a b : Int) : dig s (adv s r) a b = dig s r a b := by unfold dig isD; rw [tok_adv]

/-- what follows from the pairs -/
def PrOk (pr : Nat → Nat → Bool) (l : List Int) : Prop := ∀ i j : Nat, pr i j = true ↔ Way l i j

theorem PrOk.add {pr : Nat → Nat → Bool} {l : List Int} (h : PrOk pr l) (hl : l.length % 2 = 0) (a b : Nat) : PrOk (fun i j => pr i j || (pr i a && pr b j)) (l ++ [(a : Int), (b : Int)]) := by
  intro i j
  show (pr i j || (pr i a && pr b j)) = true ↔ _
  rw [way_add hl, Bool.or_eq_true, Bool.and_eq_true, h i j, h i a, h b j]

theorem In.add {l : List Int} {n : Nat} (h : In l n) {a b : Int} (ha : 0 ≤ a ∧ a < n) (hb : 0 ≤ b ∧ b < n) : In (l ++ [a, b]) n := by
  intro i hi
  rw [List.length_append] at hi
  have hi : i < l.length + 2 := hi
  by_cases c : i < l.length
  · rw [List.getD_eq_getElem?_getD, List.getElem?_append_left c, ← List.getD_eq_getElem?_getD]
    exact h i c
  · rw [List.getD_eq_getElem?_getD, List.getElem?_append_right (by omega)]
    by_cases e : i = l.length
    · rw [e]; simpa using ha
    · rw [show i - l.length = 1 from by omega]; simpa using hb

/-- what both have made of the pairs -/
structure PrsS (s : ByteArray) (n : Int) (q : Tq) (y : Tq) (z : Rd × List Int) : Prop where
  e : tk s y.r 46 = tk s z.1 46
  ok : (tk s z.1 46).er = 0 → PrOk y.pr z.2 ∧ In z.2 n.toNat
  n : y.n = q.n
  pn : y.pn = q.pn
  ls : y.ls = q.ls
  vs : y.vs = q.vs
  cd : y.cd = q.cd
  h : y.h = q.h
  hi : y.hi = q.hi
  ss : y.ss = q.ss
theorem prs_sim (s : ByteArray) : ∀ (k : Nat) (q : Tq) (l : List Int), 1 ≤ q.n → q.n ≤ 6 → PrOk q.pr l → In l q.n.toNat → l.length % 2 = 0 → PrsS s q.n q (prsQ s k q) (prsP s q.n k q.r l)
  | 0, q, l, h1, h6, hP, hI, hl => ⟨rfl, fun _ => ⟨hP, hI⟩, rfl, rfl, rfl, rfl, rfl, rfl, rfl, rfl⟩
  | k + 1, q, l, h1, h6, hP, hI, hl => by
    simp only [prsQ, prsP]
    by_cases hd : 48 ≤ tok s q.r ∧ tok s q.r ≤ 57
    · rw [if_pos hd, if_pos ⟨(tok_pos (s := s) (r := q.r) (by omega)).1, by omega⟩]
      obtain ⟨a, ha⟩ : ∃ a : Nat, dig s (adv s q.r) 0 (q.n - 1) = a := ⟨(dig s (adv s q.r) 0 (q.n - 1)).toNat, by have := dig_in (s := s) (r := adv s q.r) h1; omega⟩
      obtain ⟨b, hb⟩ : ∃ b : Nat, dig s (digR s (adv s q.r) 0 (q.n - 1)) 0 (q.n - 1) = b := ⟨(dig s (digR s (adv s q.r) 0 (q.n - 1)) 0 (q.n - 1)).toNat, by have := dig_in (s := s) (r := digR s (adv s q.r) 0 (q.n - 1)) h1; omega⟩
      have da := dig_in (s := s) (r := adv s q.r) h1
      have db := dig_in (s := s) (r := digR s (adv s q.r) 0 (q.n - 1)) h1
      rw [ha] at da ⊢
      rw [hb] at db ⊢
      have hR := prs_sim s k (pairQ { q with r := digR s (digR s (adv s q.r) 0 (q.n - 1)) 0 (q.n - 1) } a b) (l ++ [(a : Int), (b : Int)]) h1 h6 (hP.add hl a b) (hI.add (by show _ ∧ _ < ((q.n.toNat : Nat) : Int); omega) (by show _ ∧ _ < ((q.n.toNat : Nat) : Int); omega)) (by rw [List.length_append]; show (l.length + 2) % 2 = 0; omega)
      exact ⟨hR.e, hR.ok, hR.n, hR.pn, hR.ls, hR.vs, hR.cd, hR.h, hR.hi, hR.ss⟩
    · rw [if_neg hd]
      by_cases hq : q.r.er = 0 ∧ tok s q.r ≠ 46
      · rw [if_pos hq]
        have hd2 : ¬ (48 ≤ tok s (adv s q.r) ∧ tok s (adv s q.r) ≤ 57) := by rw [tok_adv]; exact hd
        rw [digR_no h6 hd2, adv_adv]
        have hb : (rfs (adv s q.r) 11).er ≠ 0 := rfs_er (by omega)
        have e2 : digR s (rfs (adv s q.r) 11) 0 (q.n - 1) = rfs (adv s q.r) 11 := tkIf_bad hb
        rw [e2]
        generalize dig s (adv s q.r) 0 (q.n - 1) = a
        generalize dig s (rfs (adv s q.r) 11) 0 (q.n - 1) = b
        have hy : ∀ (y : Tq), y.r = rfs (adv s q.r) 11 → prsQ s k y = y := fun y hy => by
          cases k with
          | zero => simp only [prsQ]; rw [adv_bad (by rw [hy]; exact hb)]
          | succ k => simp only [prsQ]; rw [if_neg (fun c => hb (by rw [← hy]; exact c.1)), adv_bad (by rw [hy]; exact hb)]
        rw [hy _ rfl]
        refine ⟨?_, fun h => ?_, rfl, rfl, rfl, rfl, rfl, rfl, rfl, rfl⟩
        · show tk s (rfs (adv s q.r) 11) 46 = tk s (adv s q.r) 46
          rw [tk_bad hb]
          unfold tk tkIf
          rw [tok_adv, if_neg (by rw [beq_iff_eq]; exact hq.2), adv_adv]
        · have := (tkIf_er (by omega) h).2
          rw [tok_adv, beq_iff_eq] at this
          exact absurd this hq.2
      · rw [if_neg hq]
        exact ⟨rfl, fun _ => ⟨hP, hI⟩, rfl, rfl, rfl, rfl, rfl, rfl, rfl, rfl⟩

/-- what both have made of the variables -/
structure DecS (s : ByteArray) (q : Tq) (y : Tq) (z : Rd × List Int × List Int) : Prop where
  e : tk s y.r 46 = tk s z.1 46
  ok : (tk s z.1 46).er = 0 → y.ls = z.2.1 ∧ y.vs = z.2.2
  n : y.n = q.n
  pn : y.pn = q.pn
  pr : y.pr = q.pr
  cd : y.cd = q.cd
  h : y.h = q.h
  hi : y.hi = q.hi
  ss : y.ss = q.ss
theorem decs_sim (s : ByteArray) : ∀ (k : Nat) (q : Tq), DecS s q (decsQ s k q) (decsP s q.n k q.r q.ls q.vs)
  | 0, q => ⟨rfl, fun _ => ⟨rfl, rfl⟩, rfl, rfl, rfl, rfl, rfl, rfl, rfl⟩
  | k + 1, q => by
    have hy : ∀ (e : Int) (y : Tq), e ≠ 0 → y.r = rfs (adv s q.r) e → decsQ s k y = y := fun e y he hy => by
      have hb : y.r.er ≠ 0 := by rw [hy]; exact rfs_er he
      cases k with
      | zero => simp only [decsQ]; rw [adv_bad hb]
      | succ k => simp only [decsQ]; rw [if_neg (fun c => hb c.1), adv_bad hb]
    simp only [decsQ, decsP, decQ]
    rw [tok_adv, adv_adv]
    cases hL : isL (tok s q.r) with
    | true =>
      have ht : 97 ≤ tok s q.r ∧ tok s q.r ≤ 104 := by unfold isL at hL; exact of_decide_eq_true hL
      rw [if_pos ⟨(tok_pos (s := s) (r := q.r) (by omega)).1, by omega⟩, if_pos rfl, if_neg (by simp)]
      by_cases hf : fnd (tok s q.r) q.ls < q.ls.length
      · rw [if_pos hf, if_pos hf, hy 12 _ (by omega) rfl]
        refine ⟨rfl, fun h => ?_, rfl, rfl, rfl, rfl, rfl, rfl, rfl⟩
        exact absurd (tk_er h) (rfs_er (by omega))
      · rw [if_neg hf, if_neg hf]
        have hR := decs_sim s k { q with r := digR s (nx (adv s q.r)) 0 (q.n - 1), ls := q.ls ++ [tok s q.r], vs := q.vs ++ [dig s (nx (adv s q.r)) 0 (q.n - 1)] }
        exact ⟨hR.e, hR.ok, hR.n, hR.pn, hR.pr, hR.cd, hR.h, hR.hi, hR.ss⟩
    | false =>
      rw [if_neg (show ¬ (false = true) from by simp)]
      by_cases hq : q.r.er = 0 ∧ tok s q.r ≠ 46
      · rw [if_pos hq, if_pos rfl, hy 11 _ (by omega) rfl]
        have hb : (rfs (adv s q.r) 11).er ≠ 0 := rfs_er (by omega)
        refine ⟨?_, fun h => ?_, rfl, rfl, rfl, rfl, rfl, rfl, rfl⟩
        · show tk s (rfs (adv s q.r) 11) 46 = tk s (adv s q.r) 46
          rw [tk_bad hb]
          unfold tk tkIf
          rw [tok_adv, if_neg (by rw [beq_iff_eq]; exact hq.2), adv_adv]
        · have := (tkIf_er (by omega) h).2
          rw [tok_adv, beq_iff_eq] at this
          exact absurd this hq.2
      · rw [if_neg hq]
        exact ⟨rfl, fun _ => ⟨rfl, rfl⟩, rfl, rfl, rfl, rfl, rfl, rfl, rfl⟩

theorem prsQ_bad {s : ByteArray} {q : Tq} (h : q.r.er ≠ 0) (k : Nat) : prsQ s k q = q := by
  cases k with
  | zero => simp only [prsQ]; rw [adv_bad h]
  | succ k => simp only [prsQ]; rw [if_neg (fun c => h c.1), adv_bad h]
theorem decsQ_bad {s : ByteArray} {q : Tq} (h : q.r.er ≠ 0) (k : Nat) : decsQ s k q = q := by
  cases k with
  | zero => simp only [decsQ]; rw [adv_bad h]
  | succ k => simp only [decsQ]; rw [if_neg (fun c => h c.1), adv_bad h]
theorem prsP_bad {s : ByteArray} {n : Int} {r : Rd} {l : List Int} (h : r.er ≠ 0) (k : Nat) : prsP s n k r l = (r, l) := by
  cases k with
  | zero => simp only [prsP]; rw [adv_bad h]
  | succ k => simp only [prsP]; rw [tok_bad h, if_neg (by omega), adv_bad h]
theorem decsP_bad {s : ByteArray} {n : Int} {r : Rd} {ls vs : List Int} (h : r.er ≠ 0) (k : Nat) : decsP s n k r ls vs = (r, ls, vs) := by
  cases k with
  | zero => simp only [decsP]; rw [adv_bad h]
  | succ k => simp only [decsP]; rw [tok_bad h, if_neg (by unfold isL; simp), adv_bad h]

/-- both have read the head -/
structure HeadS (s : ByteArray) : Prop where
  r : (headQ s startQ).r = (headP s).r
  ok : (headP s).r.er = 0 → Ag (headQ s startQ) (headP s) ∧ (headQ s startQ).pn = nP s ∧ PrOk (headQ s startQ).pr (prP s).2 ∧ In (prP s).2 (nP s).toNat ∧ 1 ≤ nP s ∧ nP s ≤ 6
  cd : (headQ s startQ).cd = []
  h : (headQ s startQ).h = 0
  hi : (headQ s startQ).hi = 0
  ss : (headQ s startQ).ss = []

theorem head_sim (s : ByteArray) : HeadS s := by
  cases hd : isD s ⟨0, 0⟩ 1 6 with
  | true =>
    have hn : nP s = dig s ⟨0, 0⟩ 1 6 := by unfold nP; rw [if_pos hd]
    have hb : 1 ≤ nP s ∧ nP s ≤ 6 := by
      rw [hn]
      unfold dig
      rw [if_pos hd]
      have := of_decide_eq_true hd
      omega
    have hp := prs_sim s (s.size + 1) { startQ with r := digR s ⟨0, 0⟩ 1 6, n := nP s, pn := nP s, pr := fun i j => decide (i = j) } [] hb.1 hb.2 (by
      intro i j
      rw [decide_eq_true_eq]
      constructor
      · rintro rfl; exact Way.refl _ _
      · intro h
        have : ((i : Nat) : Int) = j := Way.ind (l := []) (b := (j : Int)) (fun a => a = j) rfl (fun a c hc _ => by obtain ⟨i, hi, _⟩ := hc; simp at hi) h
        omega) (fun i hi => by simp at hi) rfl
    have e1 : (headQ s startQ) = { decsQ s (s.size + 1) { prsQ s (s.size + 1) { startQ with r := digR s ⟨0, 0⟩ 1 6, n := nP s, pn := nP s, pr := fun i j => decide (i = j) } with r := tk s (prsQ s (s.size + 1) { startQ with r := digR s ⟨0, 0⟩ 1 6, n := nP s, pn := nP s, pr := fun i j => decide (i = j) }).r 46 } with r := tk s (decsQ s (s.size + 1) { prsQ s (s.size + 1) { startQ with r := digR s ⟨0, 0⟩ 1 6, n := nP s, pn := nP s, pr := fun i j => decide (i = j) } with r := tk s (prsQ s (s.size + 1) { startQ with r := digR s ⟨0, 0⟩ 1 6, n := nP s, pn := nP s, pr := fun i j => decide (i = j) }).r 46 }).r 46 } := by
      rw [hn]; rfl
    have hp : PrsS s (nP s) _ _ (prP s) := hp
    generalize prsQ s (s.size + 1) { startQ with r := digR s ⟨0, 0⟩ 1 6, n := nP s, pn := nP s, pr := fun i j => decide (i = j) } = y at *
    have hdc := decs_sim s (s.size + 1) { y with r := tk s y.r 46 }
    have e3 : decsP s y.n (s.size + 1) (tk s y.r 46) y.ls y.vs = dcP s := by
      show _ = decsP s (nP s) (s.size + 1) (tk s (prP s).1 46) [] []
      rw [hp.e, hp.ls, hp.vs, hp.n]
      rfl
    have hdc : DecS s _ _ (decsP s y.n (s.size + 1) (tk s y.r 46) y.ls y.vs) := hdc
    rw [e3] at hdc
    generalize decsQ s (s.size + 1) { y with r := tk s y.r 46 } = u at *
    have hQ : headQ s startQ = { u with r := tk s u.r 46 } := e1
    refine ⟨by rw [hQ]; exact hdc.e, fun h => ?_, by rw [hQ]; exact hdc.cd.trans hp.cd, by rw [hQ]; exact hdc.h.trans hp.h, by rw [hQ]; exact hdc.hi.trans hp.hi, by rw [hQ]; exact hdc.ss.trans hp.ss⟩
    rw [hQ]
    have h : (tk s (dcP s).1 46).er = 0 := h
    obtain ⟨k1, k2⟩ := hdc.ok h
    have hpe : (tk s (prP s).1 46).er = 0 := by
      have h2 := tk_er h
      by_cases c : (tk s (prP s).1 46).er = 0
      · exact c
      · exfalso
        have : dcP s = (tk s (prP s).1 46, [], []) := decsP_bad c _
        rw [this] at h2
        exact c h2
    obtain ⟨k3, k4⟩ := hp.ok hpe
    refine ⟨⟨hdc.e, hdc.n.trans hp.n, k1, k2⟩, hdc.pn.trans hp.pn, ?_, k4, hb.1, hb.2⟩
    show PrOk u.pr _
    rw [hdc.pr]
    exact k3
  | false =>
    have e0 : digR s ⟨0, 0⟩ 1 6 = rfs (adv s ⟨0, 0⟩) 11 := by unfold digR tkIf; rw [if_neg (by rw [hd]; simp)]
    have hb : (rfs (adv s ⟨0, 0⟩) 11).er ≠ 0 := rfs_er (by omega)
    have eP : prP s = (rfs (adv s ⟨0, 0⟩) 11, []) := by
      unfold prP
      rw [e0]
      exact prsP_bad hb _
    have eD : dcP s = (rfs (adv s ⟨0, 0⟩) 11, [], []) := by
      unfold dcP
      rw [eP, tk_bad hb]
      exact decsP_bad hb _
    have eH : (headP s).r = rfs (adv s ⟨0, 0⟩) 11 := by
      show tk s (dcP s).1 46 = _
      rw [eD, tk_bad hb]
    have eQ : headQ s startQ = { startQ with r := rfs (adv s ⟨0, 0⟩) 11, n := dig s ⟨0, 0⟩ 1 6, pn := dig s ⟨0, 0⟩ 1 6, pr := fun i j => decide (i = j) } := by
      unfold headQ
      dsimp only
      rw [show digR s startQ.r 1 6 = rfs (adv s ⟨0, 0⟩) 11 from e0, prsQ_bad hb, tk_bad (by exact hb)]
      rw [decsQ_bad (by exact hb), tk_bad (by exact hb)]
      rfl
    refine ⟨by rw [eQ, eH], fun h => absurd h (by rw [eH]; exact hb), by rw [eQ]; rfl, by rw [eQ]; rfl, by rw [eQ]; rfl, by rw [eQ]; rfl⟩
end Go.Proofs.YtcnbifdlkalimabGreat

/-
  The plain mathematics of sources, tenth part: how much the program lays down at most, and what it keeps; no condition but those that stand in each lemma.
-/
namespace Go.Proofs.YtcnbifdlkalimabGreat
open Go.RowKit
set_option linter.unusedVariables false

/-- what is laid down, and what there is still to read -/
def pot (s : ByteArray) (q : Tq) : Nat := q.cd.length + q.ss.length + 8 * rem s q.r + (if q.r.er = 0 then 12 else 0)
def potR (s : ByteArray) (r : Rd) : Nat := 8 * rem s r + (if r.er = 0 then 12 else 0)
theorem pot_r (s : ByteArray) (q : Tq) : pot s q = q.cd.length + q.ss.length + potR s q.r := by unfold pot potR; omega

theorem potR_er {s : ByteArray} {r r' : Rd} (h : rem s r' ≤ rem s r) (he : r'.er = 0 → r.er = 0) : potR s r' ≤ potR s r := by
  unfold potR
  by_cases h1 : r'.er = 0
  · rw [if_pos h1, if_pos (he h1)]; omega
  · rw [if_neg h1]; split <;> omega
theorem potR_adv (s : ByteArray) (r : Rd) : potR s (adv s r) ≤ potR s r := potR_er (rem_adv s r) (fun h => by rw [adv_er] at h; exact h)
theorem potR_tk (s : ByteArray) (r : Rd) (c : Int) : potR s (tk s r c) ≤ potR s r := potR_er (rem_tk s r c) tk_er
theorem potR_digR (s : ByteArray) (r : Rd) (a b : Int) : potR s (digR s r a b) ≤ potR s r := potR_er (rem_digR s r a b) digR_er
theorem potR_varR (s : ByteArray) (r : Rd) (ls : List Int) : potR s (varR s r ls) ≤ potR s r := potR_er (rem_varR s r ls) fun h => (varR_er h).1
theorem potR_num (s : ByteArray) (r : Rd) : potR s (num s r).2 ≤ potR s r := potR_er (numF_rem _ _ _) (numF_er _ _ _)
theorem potR_tok {s : ByteArray} {r : Rd} (h : tok s r ≠ 0) : potR s (nx (adv s r)) + 8 ≤ potR s r := by
  have := rem_tok h
  have he := (tok_pos h).1
  unfold potR
  rw [nx_er, adv_er, if_pos he]
  omega
theorem potR_bad {s : ByteArray} {r : Rd} (h : r.er ≠ 0) : potR s r = 0 := by unfold potR; rw [rem_bad h, if_neg h]

theorem pot_term (s : ByteArray) (ex : Tq × Sq → Tq × Sq) (hx : ∀ x, pot s (ex x).1 ≤ pot s x.1 + 2) (x : Tq × Sq) : pot s (termQ s ex x).1 ≤ pot s x.1 + 2 := by
  have ha := potR_adv s x.1.r
  unfold termQ
  split
  · rw [pot_r, pot_r]
    have := potR_num s (adv s x.1.r)
    show (x.1.cd ++ _).length + x.1.ss.length + potR s (num s (adv s x.1.r)).2 ≤ _
    rw [List.length_append]
    simp only [List.length_cons, List.length_nil]
    omega
  · split
    · rw [pot_r, pot_r]
      unfold tapeQ
      have h1 := potR_digR s (tk s (adv s x.1.r) 36) 0 (x.1.n - 1)
      have h2 := potR_tk s (adv s x.1.r) 36
      show (x.1.cd ++ _).length + x.1.ss.length + potR s (digR s (tk s (adv s x.1.r) 36) 0 (x.1.n - 1)) ≤ _
      rw [List.length_append]
      simp only [List.length_cons, List.length_nil]
      omega
    · split
      · rename_i h1 h2 h3
        have h4 := potR_tok (s := s) (r := x.1.r) (by omega)
        have h5 := hx ({ x.1 with r := nx (adv s x.1.r) }, x.2)
        have h6 : pot s ({ x.1 with r := nx (adv s x.1.r) } : Tq) = x.1.cd.length + x.1.ss.length + potR s (nx (adv s x.1.r)) := pot_r _ _
        have h7 := potR_tk s (ex ({ x.1 with r := nx (adv s x.1.r) }, x.2)).1.r 41
        have h8 := pot_r s (ex ({ x.1 with r := nx (adv s x.1.r) }, x.2)).1
        rw [pot_r, pot_r]
        show (ex ({ x.1 with r := nx (adv s x.1.r) }, x.2)).1.cd.length + (ex ({ x.1 with r := nx (adv s x.1.r) }, x.2)).1.ss.length + potR s (tk s (ex ({ x.1 with r := nx (adv s x.1.r) }, x.2)).1.r 41) ≤ _
        have h5 : pot s (ex ({ x.1 with r := nx (adv s x.1.r) }, x.2)).1 ≤ pot s ({ x.1 with r := nx (adv s x.1.r) } : Tq) + 2 := h5
        omega
      · rw [pot_r, pot_r]
        unfold lettQ
        have h1 := potR_varR s (adv s x.1.r) x.1.ls
        show (x.1.cd ++ _).length + x.1.ss.length + potR s (varR s (adv s x.1.r) x.1.ls) ≤ _
        rw [List.length_append]
        simp only [List.length_cons, List.length_nil]
        omega
theorem pot_emit (s : ByteArray) (q : Tq) (a b : Int) : pot s (emitQ q a b) = pot s q + 2 := by
  rw [pot_r, pot_r]
  show (q.cd ++ _).length + q.ss.length + potR s q.r = _
  rw [List.length_append]
  simp only [List.length_cons, List.length_nil]
  omega
theorem pot_add (s : ByteArray) (q : Tq) (x : Sq) : pot s (addQ q x) = pot s q + 1 := by
  rw [pot_r, pot_r]
  show q.cd.length + (q.ss ++ [x]).length + potR s q.r = _
  rw [List.length_append]
  simp only [List.length_cons, List.length_nil]
  omega
theorem pot_aim (s : ByteArray) (q : Tq) (z : Nat) : pot s (aimQ q z) = pot s q := by
  rw [pot_r, pot_r]
  show (q.cd.set _ _).length + q.ss.length + potR s q.r = _
  rw [List.length_set]
theorem pot_with (s : ByteArray) (q : Tq) (r : Rd) : pot s { q with r := r } = q.cd.length + q.ss.length + potR s r := pot_r _ _
theorem pot_to {s : ByteArray} {q : Tq} {r : Rd} (h : potR s r ≤ potR s q.r) : pot s { q with r := r } ≤ pot s q := by rw [pot_with, pot_r]; omega

theorem pot_more (s : ByteArray) (tm : Tq × Sq → Tq × Sq) (hx : ∀ x, pot s (tm x).1 ≤ pot s x.1 + 2) : ∀ (k : Nat) (x : Tq × Sq), pot s (moreQ s tm k x).1 ≤ pot s x.1
  | 0, x => pot_to (potR_adv _ _)
  | k + 1, x => by
    simp only [moreQ]
    split
    · exact pot_to (potR_adv _ _)
    · rename_i h0
      have hp := opOf_pos h0
      have h4 := potR_tok (s := s) (r := x.1.r) hp.1
      refine Nat.le_trans (pot_more s tm hx k _) ?_
      show pot s (emitQ (tm ({ x.1 with r := nx (adv s x.1.r) }, x.2)).1 (opOf (tok s x.1.r)) 0) ≤ _
      rw [pot_emit]
      have h6 : pot s (tm ({ x.1 with r := nx (adv s x.1.r) }, x.2)).1 ≤ x.1.cd.length + x.1.ss.length + potR s (nx (adv s x.1.r)) + 2 := Nat.le_trans (hx ({ x.1 with r := nx (adv s x.1.r) }, x.2)) (Nat.le_of_eq (congrArg (· + 2) (pot_with s x.1 _)))
      rw [pot_r s x.1]
      generalize pot s (tm ({ x.1 with r := nx (adv s x.1.r) }, x.2)).1 = pz at *
      omega
theorem pot_expr (s : ByteArray) : ∀ (k : Nat) (x : Tq × Sq), pot s (exprQ s k x).1 ≤ pot s x.1 + 2
  | 0, x => by simp only [exprQ]; omega
  | k + 1, x => by
    simp only [exprQ]
    exact Nat.le_trans (pot_more s _ (pot_term s _ (pot_expr s k)) k _) (pot_term s _ (pot_expr s k) x)
theorem pot_ex (s : ByteArray) (x : Tq × Sq) : pot s (exQ s x).1 ≤ pot s x.1 + 2 := pot_expr s _ x

theorem pot_loop (s : ByteArray) (f : Tq → Tq) (hf : ∀ q, q.r.er = 0 → pot s (f q) ≤ pot s q) : ∀ (k : Nat) (q : Tq), pot s (loopQ s f k q) ≤ pot s q
  | 0, q => pot_to (potR_adv _ _)
  | k + 1, q => by
    simp only [loopQ]
    split
    · rename_i h
      have h1 := pot_loop s f hf k (f { q with r := adv s q.r })
      have h2 := hf { q with r := adv s q.r } (by show (adv s q.r).er = 0; rw [adv_er]; exact h.1)
      have h3 := pot_to (q := q) (potR_adv s q.r)
      omega
    · exact pot_to (potR_adv _ _)
theorem pot_blk (s : ByteArray) (f : Tq → Tq) (hf : ∀ q, q.r.er = 0 → pot s (f q) ≤ pot s q) (k : Nat) (q : Tq) : pot s (blkQ s f k q) ≤ pot s q := by
  have h1 := pot_to (q := q) (potR_tk s q.r 123)
  have h2 := pot_loop s f hf k { q with r := tk s q.r 123 }
  have h3 := pot_to (q := loopQ s f k { q with r := tk s q.r 123 }) (potR_tk s (loopQ s f k { q with r := tk s q.r 123 }).r 125)
  exact Nat.le_trans h3 (Nat.le_trans h2 h1)
theorem pot_stm (s : ByteArray) : ∀ (k : Nat) (ou : Int) (q : Tq), q.r.er = 0 → pot s (stmQ s k ou q) ≤ pot s q
  | 0, ou, q, he => Nat.le_refl _
  | k + 1, ou, q, he => by
    have e1 : ∀ c, tok s q.r = c → c ≠ 0 → tk s (adv s q.r) c = nx (adv s q.r) := fun c h hc => by rw [← h]; exact tok_idem (by rw [h]; exact hc)
    have hq := pot_r s q
    simp only [stmQ]
    by_cases h1 : tok s q.r = 62
    · rw [if_pos h1]
      unfold wriQ
      dsimp only
      rw [e1 62 h1 (by omega), pot_add, pot_emit]
      have h4 := potR_tok (s := s) (r := q.r) (by omega)
      have h5 := pot_ex s ({ q with r := digR s (nx (adv s q.r)) 0 (q.n - 1) }, { k := 2, pl := ((adv s q.r).a : Int), ou := ou, ta := dig s (nx (adv s q.r)) 0 (q.n - 1), rd := none6, tp := none6 })
      have h6 := pot_with s q (digR s (nx (adv s q.r)) 0 (q.n - 1))
      have h7 := potR_digR s (nx (adv s q.r)) 0 (q.n - 1)
      generalize exQ s ({ q with r := digR s (nx (adv s q.r)) 0 (q.n - 1) }, { k := 2, pl := ((adv s q.r).a : Int), ou := ou, ta := dig s (nx (adv s q.r)) 0 (q.n - 1), rd := none6, tp := none6 }) = y at *
      have h8 := pot_to (q := y.1) (potR_tk s y.1.r 59)
      have h5 : pot s y.1 ≤ pot s ({ q with r := digR s (nx (adv s q.r)) 0 (q.n - 1) } : Tq) + 2 := h5
      rw [h6] at h5
      refine Nat.le_trans (Nat.add_le_add_right (Nat.add_le_add_right h8 2) 1) ?_
      omega
    · rw [if_neg h1]
      by_cases h2 : tok s q.r = 63
      · rw [if_pos h2]
        unfold choQ
        dsimp only
        rw [e1 63 h2 (by omega)]
        have h4 := potR_tok (s := s) (r := q.r) (by omega)
        have h5 := pot_ex s ({ q with r := nx (adv s q.r) }, { k := 3, pl := ((adv s q.r).a : Int), ou := ou, ta := 0, rd := none6, tp := none6 })
        have h6 := pot_with s q (nx (adv s q.r))
        generalize exQ s ({ q with r := nx (adv s q.r) }, { k := 3, pl := ((adv s q.r).a : Int), ou := ou, ta := 0, rd := none6, tp := none6 }) = y at *
        have h5 : pot s y.1 ≤ pot s ({ q with r := nx (adv s q.r) } : Tq) + 2 := h5
        rw [h6] at h5
        have h7 := pot_blk s (stmQ s k y.1.ss.length) (pot_stm s k _) k (emitQ (addQ y.1 y.2) 9 0)
        rw [pot_emit, pot_add] at h7
        generalize blkQ s (stmQ s k y.1.ss.length) k (emitQ (addQ y.1 y.2) 9 0) = u at *
        split
        · rename_i h8
          have h9 := potR_tok (s := s) (r := u.r) (by omega)
          have h10 := pot_blk s (stmQ s k y.1.ss.length) (pot_stm s k _) k (aimQ (emitQ { u with r := nx (adv s u.r) } 8 0) (plQ y.1))
          rw [pot_aim, pot_emit, pot_with s u (nx (adv s u.r))] at h10
          rw [pot_aim]
          have h11 := pot_r s u
          refine Nat.le_trans h10 ?_
          omega
        · rw [pot_aim]
          have h9 := pot_to (q := u) (potR_adv s u.r)
          refine Nat.le_trans h9 ?_
          omega
      · rw [if_neg h2]
        by_cases h3 : tok s q.r = 64
        · rw [if_pos h3]
          unfold repQ
          dsimp only
          rw [e1 64 h3 (by omega)]
          have h4 := potR_tok (s := s) (r := q.r) (by omega)
          have h5 := pot_ex s ({ q with r := nx (adv s q.r) }, { k := 4, pl := ((adv s q.r).a : Int), ou := ou, ta := 0, rd := none6, tp := none6 })
          have h6 := pot_with s q (nx (adv s q.r))
          generalize exQ s ({ q with r := nx (adv s q.r) }, { k := 4, pl := ((adv s q.r).a : Int), ou := ou, ta := 0, rd := none6, tp := none6 }) = y at *
          have h5 : pot s y.1 ≤ pot s ({ q with r := nx (adv s q.r) } : Tq) + 2 := h5
          rw [h6] at h5
          have h7 := pot_blk s (stmQ s k y.1.ss.length) (pot_stm s k _) k (emitQ (addQ y.1 y.2) 9 0)
          rw [pot_emit, pot_add] at h7
          rw [pot_aim, pot_emit]
          refine Nat.le_trans (Nat.add_le_add_right h7 2) ?_
          omega
        · rw [if_neg h3]
          unfold assQ
          dsimp only
          rw [varR_adv, pot_add, pot_emit]
          have hv : potR s (varR s q.r q.ls) + 8 ≤ potR s q.r := by
            cases h : varOk s q.r q.ls with
            | true =>
              have : varR s q.r q.ls = nx (adv s q.r) := by unfold varR tkIf; rw [if_pos h]
              rw [this]
              exact potR_tok (varOk_pos h)
            | false =>
              have : varR s q.r q.ls = rfs (adv s q.r) (if isL (tok s q.r) = true then 12 else 11) := by unfold varR tkIf; rw [if_neg (by rw [h]; simp)]
              rw [this, potR_bad (rfs_er (by split <;> omega))]
              unfold potR
              rw [if_pos he]
              omega
          have h7 := potR_tk s (varR s q.r q.ls) 61
          have h5 := pot_ex s ({ q with r := tk s (varR s q.r q.ls) 61 }, { k := 1, pl := ((adv s q.r).a : Int), ou := ou, ta := lvOf { q with r := adv s q.r } (varI s (adv s q.r) q.ls), rd := none6, tp := none6 })
          have h6 := pot_with s q (tk s (varR s q.r q.ls) 61)
          generalize exQ s ({ q with r := tk s (varR s q.r q.ls) 61 }, { k := 1, pl := ((adv s q.r).a : Int), ou := ou, ta := lvOf { q with r := adv s q.r } (varI s (adv s q.r) q.ls), rd := none6, tp := none6 }) = y at *
          have h8 := pot_to (q := y.1) (potR_tk s y.1.r 59)
          have h5 : pot s y.1 ≤ pot s ({ q with r := tk s (varR s q.r q.ls) 61 } : Tq) + 2 := h5
          rw [h6] at h5
          refine Nat.le_trans (Nat.add_le_add_right (Nat.add_le_add_right h8 2) 1) ?_
          omega
end Go.Proofs.YtcnbifdlkalimabGreat

/-
  The plain mathematics of sources, eleventh part: what the program keeps while it reads; no condition but those that stand in each lemma.
-/
namespace Go.Proofs.YtcnbifdlkalimabGreat
open Go.RowKit
set_option linter.unusedVariables false

/-- what holds of the translator all the time -/
structure Gd (s : ByteArray) (q : Tq) : Prop where
  le : q.r.a ≤ s.size
  n0 : 0 ≤ q.n
  n6 : q.n ≤ 6
  vb : ∀ x, x ∈ q.vs → 0 ≤ x ∧ x < 6
  ll : q.ls.length ≤ 1000
  vl : q.vs.length = q.ls.length
  h0 : -(q.cd.length : Int) ≤ q.h
  h1 : q.h ≤ q.cd.length
  ev : q.cd.length % 2 = 0

theorem tg_bd (op : Int) : (0 ≤ givesF op ∧ givesF op ≤ 1) ∧ (0 ≤ takesF op ∧ takesF op ≤ 2) := by
  constructor
  · unfold givesF; split <;> omega
  · unfold takesF
    split
    · omega
    · split <;> omega
theorem Gd.emit {s : ByteArray} {q : Tq} (G : Gd s q) (op x : Int) : Gd s (emitQ q op x) := by
  obtain ⟨⟨a, b⟩, c, d⟩ := tg_bd op
  have h0 := G.h0
  have h1 := G.h1
  have ev := G.ev
  have hl : (emitQ q op x).cd.length = q.cd.length + 2 := by show (q.cd ++ _).length = _; rw [List.length_append]; rfl
  exact ⟨G.le, G.n0, G.n6, G.vb, G.ll, G.vl, by rw [hl]; show _ ≤ q.h + givesF op - takesF op; omega, by rw [hl]; show q.h + givesF op - takesF op ≤ _; omega, by rw [hl]; omega⟩
theorem Gd.r {s : ByteArray} {q : Tq} (G : Gd s q) {r : Rd} (h : r.a ≤ s.size) : Gd s { q with r := r } := ⟨h, G.n0, G.n6, G.vb, G.ll, G.vl, G.h0, G.h1, G.ev⟩
theorem Gd.aim {s : ByteArray} {q : Tq} (G : Gd s q) (z : Nat) : Gd s (aimQ q z) := by
  have hl : (aimQ q z).cd.length = q.cd.length := by show (q.cd.set _ _).length = _; rw [List.length_set]
  exact ⟨G.le, G.n0, G.n6, G.vb, G.ll, G.vl, by rw [hl]; exact G.h0, by rw [hl]; exact G.h1, by rw [hl]; exact G.ev⟩
theorem Gd.add {s : ByteArray} {q : Tq} (G : Gd s q) (x : Sq) : Gd s (addQ q x) := ⟨G.le, G.n0, G.n6, G.vb, G.ll, G.vl, G.h0, G.h1, G.ev⟩

theorem digR_le {s : ByteArray} {r : Rd} {a b : Int} (ha : 0 ≤ a) (h : r.a ≤ s.size) : (digR s r a b).a ≤ s.size := tkIf_le h (fun k => isD_pos ha k)
theorem varR_le {s : ByteArray} {r : Rd} {ls : List Int} (h : r.a ≤ s.size) : (varR s r ls).a ≤ s.size := tkIf_le h varOk_pos
theorem nxt_le {s : ByteArray} {r : Rd} (h : tok s r ≠ 0) : (nx (adv s r)).a ≤ s.size := nx_le h

theorem gd_term {s : ByteArray} {ex : Tq × Sq → Tq × Sq} (hx : ∀ x, Gd s x.1 → Gd s (ex x).1) {x : Tq × Sq} (G : Gd s x.1) : Gd s (termQ s ex x).1 := by
  unfold termQ
  split
  · exact (G.r (numF_le _ _ _ (adv_le G.le))).emit _ _
  · split
    · exact (G.r (r := digR s (tk s (adv s x.1.r) 36) 0 (x.1.n - 1)) (digR_le (by omega) (tk_le (adv_le G.le) (by omega)))).emit _ _
    · split
      · have h1 := hx ({ x.1 with r := nx (adv s x.1.r) }, x.2) (G.r (nxt_le (by omega)))
        exact h1.r (tk_le h1.le (by omega))
      · exact (G.r (r := varR s (adv s x.1.r) x.1.ls) (varR_le (adv_le G.le))).emit _ _
theorem gd_more {s : ByteArray} {tm : Tq × Sq → Tq × Sq} (hx : ∀ x, Gd s x.1 → Gd s (tm x).1) : ∀ (k : Nat) (x : Tq × Sq), Gd s x.1 → Gd s (moreQ s tm k x).1
  | 0, x, G => G.r (adv_le G.le)
  | k + 1, x, G => by
    simp only [moreQ]
    split
    · exact G.r (adv_le G.le)
    · rename_i h0
      exact gd_more hx k _ ((hx ({ x.1 with r := nx (adv s x.1.r) }, x.2) (G.r (nxt_le (opOf_pos h0).1))).emit _ _)
theorem gd_expr {s : ByteArray} : ∀ (k : Nat) (x : Tq × Sq), Gd s x.1 → Gd s (exprQ s k x).1
  | 0, x, G => G
  | k + 1, x, G => by
    simp only [exprQ]
    exact gd_more (fun x G => gd_term (gd_expr k) G) k _ (gd_term (gd_expr k) G)
theorem gd_ex {s : ByteArray} {x : Tq × Sq} (G : Gd s x.1) : Gd s (exQ s x).1 := gd_expr _ x G

theorem gd_loop {s : ByteArray} {f : Tq → Tq} (hf : ∀ q, Gd s q → Gd s (f q)) : ∀ (k : Nat) (q : Tq), Gd s q → Gd s (loopQ s f k q)
  | 0, q, G => G.r (adv_le G.le)
  | k + 1, q, G => by
    simp only [loopQ]
    split
    · exact gd_loop hf k _ (hf _ (G.r (adv_le G.le)))
    · exact G.r (adv_le G.le)
theorem gd_blk {s : ByteArray} {f : Tq → Tq} (hf : ∀ q, Gd s q → Gd s (f q)) (k : Nat) {q : Tq} (G : Gd s q) : Gd s (blkQ s f k q) := by
  have h1 := gd_loop hf k _ (G.r (r := tk s q.r 123) (tk_le G.le (by omega)))
  exact h1.r (tk_le h1.le (by omega))
theorem gd_stm {s : ByteArray} : ∀ (k : Nat) (ou : Int) (q : Tq), Gd s q → Gd s (stmQ s k ou q)
  | 0, ou, q, G => G
  | k + 1, ou, q, G => by
    have Ga := G.r (adv_le G.le)
    simp only [stmQ]
    split
    · unfold wriQ
      have h1 := gd_ex (s := s) (x := ({ q with r := digR s (tk s (adv s q.r) 62) 0 (q.n - 1) }, { k := 2, pl := ((adv s q.r).a : Int), ou := ou, ta := dig s (tk s (adv s q.r) 62) 0 (q.n - 1), rd := none6, tp := none6 })) (G.r (digR_le (by omega) (tk_le (adv_le G.le) (by omega))))
      exact ((h1.r (tk_le h1.le (by omega))).emit _ _).add _
    · split
      · unfold choQ
        have h1 := gd_ex (s := s) (x := ({ q with r := tk s (adv s q.r) 63 }, { k := 3, pl := ((adv s q.r).a : Int), ou := ou, ta := 0, rd := none6, tp := none6 })) (G.r (tk_le (adv_le G.le) (by omega)))
        generalize exQ s ({ q with r := tk s (adv s q.r) 63 }, { k := 3, pl := ((adv s q.r).a : Int), ou := ou, ta := 0, rd := none6, tp := none6 }) = y at *
        have h2 := gd_blk (gd_stm k y.1.ss.length) k ((h1.add y.2).emit 9 0)
        dsimp only
        generalize blkQ s (stmQ s k y.1.ss.length) k (emitQ (addQ y.1 y.2) 9 0) = u at *
        split
        · rename_i h3
          exact (gd_blk (gd_stm k y.1.ss.length) k (((h2.r (nxt_le (s := s) (r := u.r) (by omega))).emit 8 0).aim _)).aim _
        · exact (h2.r (adv_le h2.le)).aim _
      · split
        · unfold repQ
          have h1 := gd_ex (s := s) (x := ({ q with r := tk s (adv s q.r) 64 }, { k := 4, pl := ((adv s q.r).a : Int), ou := ou, ta := 0, rd := none6, tp := none6 })) (G.r (tk_le (adv_le G.le) (by omega)))
          generalize exQ s ({ q with r := tk s (adv s q.r) 64 }, { k := 4, pl := ((adv s q.r).a : Int), ou := ou, ta := 0, rd := none6, tp := none6 }) = y at *
          have h2 := gd_blk (gd_stm k y.1.ss.length) k ((h1.add y.2).emit 9 0)
          exact (h2.emit _ _).aim _
        · unfold assQ
          have h1 := gd_ex (s := s) (x := ({ q with r := tk s (varR s (adv s q.r) q.ls) 61 }, { k := 1, pl := ((adv s q.r).a : Int), ou := ou, ta := lvOf { q with r := adv s q.r } (varI s (adv s q.r) q.ls), rd := none6, tp := none6 })) (G.r (tk_le (varR_le (adv_le G.le)) (by omega)))
          exact ((h1.r (tk_le h1.le (by omega))).emit _ _).add _

/-- the code only grows -/
theorem len_expr (s : ByteArray) : ∀ (k : Nat) (x : Tq × Sq), x.1.cd.length ≤ (exprQ s k x).1.cd.length
  | 0, x => Nat.le_refl _
  | k + 1, x => by
    have ht : ∀ x : Tq × Sq, x.1.cd.length ≤ (termQ s (exprQ s k) x).1.cd.length := by
      intro x
      unfold termQ
      split
      · show _ ≤ (x.1.cd ++ _).length; rw [List.length_append]; omega
      · split
        · show _ ≤ (x.1.cd ++ _).length; rw [List.length_append]; omega
        · split
          · exact len_expr s k ({ x.1 with r := nx (adv s x.1.r) }, x.2)
          · show _ ≤ (x.1.cd ++ _).length; rw [List.length_append]; omega
    have hm : ∀ (j : Nat) (x : Tq × Sq), x.1.cd.length ≤ (moreQ s (termQ s (exprQ s k)) j x).1.cd.length := by
      intro j
      induction j with
      | zero => intro x; exact Nat.le_refl _
      | succ j ih =>
        intro x
        simp only [moreQ]
        split
        · exact Nat.le_refl _
        · refine Nat.le_trans ?_ (ih _)
          have := ht ({ x.1 with r := nx (adv s x.1.r) }, x.2)
          show _ ≤ ((termQ s (exprQ s k) ({ x.1 with r := nx (adv s x.1.r) }, x.2)).1.cd ++ _).length
          rw [List.length_append]
          exact Nat.le_trans this (Nat.le_add_right _ _)
    simp only [exprQ]
    exact Nat.le_trans (ht x) (hm k _)
theorem len_loop (s : ByteArray) (f : Tq → Tq) (hf : ∀ q, q.cd.length ≤ (f q).cd.length) : ∀ (k : Nat) (q : Tq), q.cd.length ≤ (loopQ s f k q).cd.length
  | 0, q => Nat.le_refl _
  | k + 1, q => by
    simp only [loopQ]
    split
    · exact Nat.le_trans (hf { q with r := adv s q.r }) (len_loop s f hf k _)
    · exact Nat.le_refl _
theorem len_blk (s : ByteArray) (f : Tq → Tq) (hf : ∀ q, q.cd.length ≤ (f q).cd.length) (k : Nat) (q : Tq) : q.cd.length ≤ (blkQ s f k q).cd.length := len_loop s f hf k { q with r := tk s q.r 123 }
theorem len_stm (s : ByteArray) : ∀ (k : Nat) (ou : Int) (q : Tq), q.cd.length ≤ (stmQ s k ou q).cd.length
  | 0, ou, q => Nat.le_refl _
  | k + 1, ou, q => by
    have ex : ∀ (r : Rd) (x : Sq), q.cd.length ≤ (exQ s ({ q with r := r }, x)).1.cd.length := fun r x => len_expr s _ ({ q with r := r }, x)
    have em : ∀ (q : Tq) (a b : Int), q.cd.length ≤ (emitQ q a b).cd.length := fun q a b => by show _ ≤ (q.cd ++ _).length; rw [List.length_append]; omega
    have ai : ∀ (q : Tq) (z : Nat), q.cd.length ≤ (aimQ q z).cd.length := fun q z => by show _ ≤ (q.cd.set _ _).length; rw [List.length_set]; exact Nat.le_refl _
    simp only [stmQ]
    split
    · exact Nat.le_trans (ex _ _) (em _ _ _)
    · split
      · unfold choQ
        dsimp only
        have h1 := ex (tk s (adv s q.r) 63) { k := 3, pl := ((adv s q.r).a : Int), ou := ou, ta := 0, rd := none6, tp := none6 }
        generalize exQ s ({ q with r := tk s (adv s q.r) 63 }, { k := 3, pl := ((adv s q.r).a : Int), ou := ou, ta := 0, rd := none6, tp := none6 }) = y at *
        have h2 := Nat.le_trans (em (addQ y.1 y.2) 9 0) (len_blk s (stmQ s k y.1.ss.length) (len_stm s k _) k (emitQ (addQ y.1 y.2) 9 0))
        generalize blkQ s (stmQ s k y.1.ss.length) k (emitQ (addQ y.1 y.2) 9 0) = u at *
        split
        · have h3 := Nat.le_trans (Nat.le_trans (em { u with r := nx (adv s u.r) } 8 0) (ai _ (plQ y.1))) (len_blk s (stmQ s k y.1.ss.length) (len_stm s k _) k _)
          exact Nat.le_trans (Nat.le_trans (Nat.le_trans h1 h2) h3) (ai _ _)
        · exact Nat.le_trans (Nat.le_trans h1 h2) (ai { u with r := adv s u.r } _)
      · split
        · unfold repQ
          dsimp only
          have h1 := ex (tk s (adv s q.r) 64) { k := 4, pl := ((adv s q.r).a : Int), ou := ou, ta := 0, rd := none6, tp := none6 }
          generalize exQ s ({ q with r := tk s (adv s q.r) 64 }, { k := 4, pl := ((adv s q.r).a : Int), ou := ou, ta := 0, rd := none6, tp := none6 }) = y at *
          have h2 := Nat.le_trans (em (addQ y.1 y.2) 9 0) (len_blk s (stmQ s k y.1.ss.length) (len_stm s k _) k (emitQ (addQ y.1 y.2) 9 0))
          exact Nat.le_trans (Nat.le_trans h1 h2) (Nat.le_trans (em _ 8 _) (ai _ _))
        · exact Nat.le_trans (ex _ _) (em _ _ _)
end Go.Proofs.YtcnbifdlkalimabGreat

/-
  The plain mathematics of sources, twelfth part: how much the document's reading lays down at most, and what it keeps; no condition but those that stand in each lemma.
-/
namespace Go.Proofs.YtcnbifdlkalimabGreat
open Go.RowKit
set_option linter.unusedVariables false

/-- what is laid down, and what there is still to read -/
def potP (s : ByteArray) (p : Rs) : Nat := p.ex.length + p.sm.length + potR s p.r
theorem potP_with (s : ByteArray) (p : Rs) (r : Rd) : potP s { p with r := r } = p.ex.length + p.sm.length + potR s r := rfl
theorem potP_to {s : ByteArray} {p : Rs} {r : Rd} (h : potR s r ≤ potR s p.r) : potP s { p with r := r } ≤ potP s p := by unfold potP; exact Nat.add_le_add_left h _
theorem potP_nod (s : ByteArray) (p : Rs) (r : Rd) (x : Ex) : potP s (nodP p r x).1 = p.ex.length + p.sm.length + potR s r + 1 := by
  show (p.ex ++ [x]).length + p.sm.length + potR s r = _
  rw [List.length_append]
  simp only [List.length_cons, List.length_nil]
  omega
theorem potP_sto (s : ByteArray) (p : Rs) (r : Rd) (x : Sm) : potP s (stoP p r x).1 = p.ex.length + p.sm.length + potR s r + 1 := by
  show p.ex.length + (p.sm ++ [x]).length + potR s r = _
  rw [List.length_append]
  simp only [List.length_cons, List.length_nil]
  omega

theorem potP_term (s : ByteArray) (ex : Rs → Rs × Nat) (hx : ∀ p, potP s (ex p).1 ≤ potP s p + 1) (p : Rs) : potP s (termP s ex p).1 ≤ potP s p + 1 := by
  have ha := potR_adv s p.r
  have hq : potP s p = p.ex.length + p.sm.length + potR s p.r := rfl
  unfold termP
  split
  · rw [potP_nod]
    have := potR_num s (adv s p.r)
    omega
  · split
    · rename_i h1 h2
      rw [potP_nod]
      have h4 := potR_tok (s := s) (r := p.r) (by omega)
      have h5 := potR_digR s (nx (adv s p.r)) 0 (p.n - 1)
      omega
    · split
      · rename_i h1 h2 h3
        have h4 := potR_tok (s := s) (r := p.r) (by omega)
        have h5 := hx { p with r := nx (adv s p.r) }
        rw [potP_with s p (nx (adv s p.r))] at h5
        generalize ex { p with r := nx (adv s p.r) } = y at *
        have h7 := potP_to (p := y.1) (potR_tk s y.1.r 41)
        refine Nat.le_trans h7 ?_
        omega
      · rw [potP_nod]
        have h1 := potR_varR s p.r p.ls
        omega
theorem potP_more (s : ByteArray) (tm : Rs → Rs × Nat) (hx : ∀ p, potP s (tm p).1 ≤ potP s p + 1) : ∀ (k : Nat) (x : Rs × Nat), potP s (moreP s tm k x).1 ≤ potP s x.1
  | 0, x => potP_to (potR_adv _ _)
  | k + 1, x => by
    simp only [moreP]
    split
    · exact potP_to (potR_adv _ _)
    · rename_i h0
      have hp := opOf_pos h0
      have h4 := potR_tok (s := s) (r := x.1.r) hp.1
      have h5 := hx { x.1 with r := nx (adv s x.1.r) }
      rw [potP_with s x.1 (nx (adv s x.1.r))] at h5
      have hq : potP s x.1 = x.1.ex.length + x.1.sm.length + potR s x.1.r := rfl
      generalize tm { x.1 with r := nx (adv s x.1.r) } = y at *
      refine Nat.le_trans (potP_more s tm hx k _) ?_
      rw [potP_nod]
      have h6 : potP s y.1 = y.1.ex.length + y.1.sm.length + potR s y.1.r := rfl
      omega
theorem potP_expr (s : ByteArray) : ∀ (k : Nat) (p : Rs), potP s (exprP s k p).1 ≤ potP s p + 1
  | 0, p => by simp only [exprP]; omega
  | k + 1, p => by
    simp only [exprP]
    exact Nat.le_trans (potP_more s _ (potP_term s _ (potP_expr s k)) k _) (potP_term s _ (potP_expr s k) p)
theorem potP_ex (s : ByteArray) (p : Rs) : potP s (exP s p).1 ≤ potP s p + 1 := potP_expr s _ p

theorem isS_pos {t : Int} (h : isS t = true) : t ≠ 0 := by
  intro e
  rw [e] at h
  exact absurd h (by decide)
theorem potP_loop (s : ByteArray) (f : Rs → Rs × Nat) (hf : ∀ p, p.r.er = 0 → potP s (f p).1 ≤ potP s p) : ∀ (k : Nat) (p : Rs) (l : List Nat), potP s (loopP s f k p l).1 ≤ potP s p
  | 0, p, l => potP_to (potR_adv _ _)
  | k + 1, p, l => by
    simp only [loopP]
    split
    · rename_i h
      have h1 := potP_loop s f hf k (f { p with r := adv s p.r }).1 (l ++ [(f { p with r := adv s p.r }).2])
      have h2 := hf { p with r := adv s p.r } (by show (adv s p.r).er = 0; rw [adv_er]; exact (tok_pos (isS_pos h)).1)
      have h3 := potP_to (p := p) (potR_adv s p.r)
      omega
    · exact potP_to (potR_adv _ _)
theorem potP_blk (s : ByteArray) (f : Rs → Rs × Nat) (hf : ∀ p, p.r.er = 0 → potP s (f p).1 ≤ potP s p) (k : Nat) (p : Rs) : potP s (blkP s f k p).1 ≤ potP s p := by
  have h1 := potP_to (p := p) (potR_tk s p.r 123)
  have h2 := potP_loop s f hf k { p with r := tk s p.r 123 } []
  unfold blkP
  generalize loopP s f k { p with r := tk s p.r 123 } [] = y at *
  have h3 := potP_to (p := y.1) (potR_tk s y.1.r 125)
  exact Nat.le_trans h3 (Nat.le_trans h2 h1)
theorem potP_stm (s : ByteArray) : ∀ (k : Nat) (p : Rs), p.r.er = 0 → potP s (stmP s k p).1 ≤ potP s p
  | 0, p, he => Nat.le_refl _
  | k + 1, p, he => by
    have e1 : ∀ c, tok s p.r = c → c ≠ 0 → tk s (adv s p.r) c = nx (adv s p.r) := fun c h hc => by rw [← h]; exact tok_idem (by rw [h]; exact hc)
    have hq : potP s p = p.ex.length + p.sm.length + potR s p.r := rfl
    simp only [stmP]
    by_cases h1 : tok s p.r = 62
    · rw [if_pos h1]
      unfold wriP
      dsimp only
      rw [e1 62 h1 (by omega), potP_sto]
      have h4 := potR_tok (s := s) (r := p.r) (by omega)
      have h5 := potP_ex s { p with r := digR s (nx (adv s p.r)) 0 (p.n - 1) }
      rw [potP_with s p (digR s (nx (adv s p.r)) 0 (p.n - 1))] at h5
      have h7 := potR_digR s (nx (adv s p.r)) 0 (p.n - 1)
      generalize exP s { p with r := digR s (nx (adv s p.r)) 0 (p.n - 1) } = y at *
      have h8 := potR_tk s y.1.r 59
      have h9 : potP s y.1 = y.1.ex.length + y.1.sm.length + potR s y.1.r := rfl
      omega
    · rw [if_neg h1]
      by_cases h2 : tok s p.r = 63
      · rw [if_pos h2]
        unfold choP
        dsimp only
        rw [e1 63 h2 (by omega)]
        have h4 := potR_tok (s := s) (r := p.r) (by omega)
        have h5 := potP_ex s { p with r := nx (adv s p.r) }
        rw [potP_with s p (nx (adv s p.r))] at h5
        generalize exP s { p with r := nx (adv s p.r) } = y at *
        have h7 := potP_blk s (stmP s k) (potP_stm s k) k y.1
        generalize blkP s (stmP s k) k y.1 = u at *
        have h9 : potP s u.1 = u.1.ex.length + u.1.sm.length + potR s u.1.r := rfl
        split
        · rename_i h8
          have h8 := potR_tok (s := s) (r := u.1.r) (by omega)
          have h10 := potP_blk s (stmP s k) (potP_stm s k) k { u.1 with r := nx (adv s u.1.r) }
          rw [potP_with s u.1 (nx (adv s u.1.r))] at h10
          generalize blkP s (stmP s k) k { u.1 with r := nx (adv s u.1.r) } = v at *
          rw [potP_sto]
          have h11 : potP s v.1 = v.1.ex.length + v.1.sm.length + potR s v.1.r := rfl
          omega
        · rw [potP_sto]
          have h10 := potR_adv s u.1.r
          omega
      · rw [if_neg h2]
        by_cases h3 : tok s p.r = 64
        · rw [if_pos h3]
          unfold repP
          dsimp only
          rw [e1 64 h3 (by omega)]
          have h4 := potR_tok (s := s) (r := p.r) (by omega)
          have h5 := potP_ex s { p with r := nx (adv s p.r) }
          rw [potP_with s p (nx (adv s p.r))] at h5
          generalize exP s { p with r := nx (adv s p.r) } = y at *
          have h7 := potP_blk s (stmP s k) (potP_stm s k) k y.1
          generalize blkP s (stmP s k) k y.1 = u at *
          rw [potP_sto]
          have h9 : potP s u.1 = u.1.ex.length + u.1.sm.length + potR s u.1.r := rfl
          omega
        · rw [if_neg h3]
          unfold assP
          dsimp only
          rw [varR_adv, potP_sto]
          have hv : potR s (varR s p.r p.ls) + 8 ≤ potR s p.r := by
            cases h : varOk s p.r p.ls with
            | true =>
              have : varR s p.r p.ls = nx (adv s p.r) := by unfold varR tkIf; rw [if_pos h]
              rw [this]
              exact potR_tok (varOk_pos h)
            | false =>
              have : varR s p.r p.ls = rfs (adv s p.r) (if isL (tok s p.r) = true then 12 else 11) := by unfold varR tkIf; rw [if_neg (by rw [h]; simp)]
              rw [this, potR_bad (rfs_er (by split <;> omega))]
              unfold potR
              rw [if_pos he]
              omega
          have h7 := potR_tk s (varR s p.r p.ls) 61
          have h5 := potP_ex s { p with r := tk s (varR s p.r p.ls) 61 }
          rw [potP_with s p (tk s (varR s p.r p.ls) 61)] at h5
          generalize exP s { p with r := tk s (varR s p.r p.ls) 61 } = y at *
          have h8 := potR_tk s y.1.r 59
          have h9 : potP s y.1 = y.1.ex.length + y.1.sm.length + potR s y.1.r := rfl
          omega

/-- what holds of the reading all the time -/
structure Gp (s : ByteArray) (p : Rs) : Prop where
  le : p.r.a ≤ s.size
  n1 : 1 ≤ p.n
  n6 : p.n ≤ 6
  ll : p.ls.length ≤ 8
  lb : ∀ x ∈ p.ls, 97 ≤ x ∧ x ≤ 104
theorem Gp.r {s : ByteArray} {p : Rs} (G : Gp s p) {r : Rd} (h : r.a ≤ s.size) : Gp s { p with r := r } := ⟨h, G.n1, G.n6, G.ll, G.lb⟩
theorem Gp.nod {s : ByteArray} {p : Rs} (G : Gp s p) {r : Rd} (h : r.a ≤ s.size) (x : Ex) : Gp s (nodP p r x).1 := ⟨h, G.n1, G.n6, G.ll, G.lb⟩
theorem Gp.sto {s : ByteArray} {p : Rs} (G : Gp s p) {r : Rd} (h : r.a ≤ s.size) (x : Sm) : Gp s (stoP p r x).1 := ⟨h, G.n1, G.n6, G.ll, G.lb⟩

theorem gp_term {s : ByteArray} {ex : Rs → Rs × Nat} (hx : ∀ p, Gp s p → Gp s (ex p).1) {p : Rs} (G : Gp s p) : Gp s (termP s ex p).1 := by
  unfold termP
  split
  · exact G.nod (numF_le _ _ _ (adv_le G.le)) _
  · split
    · exact G.nod (digR_le (by omega) (nxt_le (by omega))) _
    · split
      · have h1 := hx { p with r := nx (adv s p.r) } (G.r (nxt_le (by omega)))
        exact h1.r (tk_le h1.le (by omega))
      · exact G.nod (varR_le G.le) _
theorem gp_more {s : ByteArray} {tm : Rs → Rs × Nat} (hx : ∀ p, Gp s p → Gp s (tm p).1) : ∀ (k : Nat) (x : Rs × Nat), Gp s x.1 → Gp s (moreP s tm k x).1
  | 0, x, G => G.r (adv_le G.le)
  | k + 1, x, G => by
    simp only [moreP]
    split
    · exact G.r (adv_le G.le)
    · rename_i h0
      have h1 := hx { x.1 with r := nx (adv s x.1.r) } (G.r (nxt_le (opOf_pos h0).1))
      exact gp_more hx k _ (h1.nod h1.le _)
theorem gp_expr {s : ByteArray} : ∀ (k : Nat) (p : Rs), Gp s p → Gp s (exprP s k p).1
  | 0, p, G => G
  | k + 1, p, G => by
    simp only [exprP]
    exact gp_more (fun p G => gp_term (gp_expr k) G) k _ (gp_term (gp_expr k) G)
theorem gp_ex {s : ByteArray} {p : Rs} (G : Gp s p) : Gp s (exP s p).1 := gp_expr _ p G
theorem gp_loop {s : ByteArray} {f : Rs → Rs × Nat} (hf : ∀ p, Gp s p → Gp s (f p).1) : ∀ (k : Nat) (p : Rs) (l : List Nat), Gp s p → Gp s (loopP s f k p l).1
  | 0, p, l, G => G.r (adv_le G.le)
  | k + 1, p, l, G => by
    simp only [loopP]
    split
    · exact gp_loop hf k _ _ (hf _ (G.r (adv_le G.le)))
    · exact G.r (adv_le G.le)
theorem gp_blk {s : ByteArray} {f : Rs → Rs × Nat} (hf : ∀ p, Gp s p → Gp s (f p).1) (k : Nat) {p : Rs} (G : Gp s p) : Gp s (blkP s f k p).1 := by
  have h1 := gp_loop hf k _ [] (G.r (r := tk s p.r 123) (tk_le G.le (by omega)))
  exact h1.r (tk_le h1.le (by omega))
theorem gp_stm {s : ByteArray} : ∀ (k : Nat) (p : Rs), Gp s p → Gp s (stmP s k p).1
  | 0, p, G => G
  | k + 1, p, G => by
    have Ga := G.r (adv_le G.le)
    simp only [stmP]
    split
    · unfold wriP
      have h1 := gp_ex (s := s) (G.r (r := digR s (tk s (adv s p.r) 62) 0 (p.n - 1)) (digR_le (by omega) (tk_le (adv_le G.le) (by omega))))
      exact h1.sto (tk_le h1.le (by omega)) _
    · split
      · unfold choP
        have h1 := gp_ex (s := s) (G.r (r := tk s (adv s p.r) 63) (tk_le (adv_le G.le) (by omega)))
        dsimp only
        generalize exP s { p with r := tk s (adv s p.r) 63 } = y at *
        have h2 := gp_blk (gp_stm k) k h1
        generalize blkP s (stmP s k) k y.1 = u at *
        split
        · have h3 := gp_blk (gp_stm k) k (h2.r (r := nx (adv s u.1.r)) (nxt_le (by omega)))
          exact h3.sto h3.le _
        · exact h2.sto (adv_le h2.le) _
      · split
        · unfold repP
          have h1 := gp_ex (s := s) (G.r (r := tk s (adv s p.r) 64) (tk_le (adv_le G.le) (by omega)))
          have h2 := gp_blk (gp_stm k) k h1
          exact h2.sto h2.le _
        · unfold assP
          have h1 := gp_ex (s := s) (G.r (r := tk s (varR s (adv s p.r) p.ls) 61) (tk_le (varR_le (adv_le G.le)) (by omega)))
          exact h1.sto (tk_le h1.le (by omega)) _

/-- a translator that agrees -/
def mkQ (p : Rs) : Tq := ⟨p.r, p.n, 0, fun _ _ => false, p.ls, p.vs, [], 0, 0, []⟩
theorem mkQ_ag (p : Rs) : Ag (mkQ p) p := ⟨rfl, rfl, rfl, rfl⟩
theorem remP_term (s : ByteArray) (k : Nat) (p : Rs) (hk : rem s p.r ≤ k) : rem s (termP s (exprP s k) p).1.r ≤ rem s p.r :=
  (term_sim s k (expr_sim s k) (mkQ p, ⟨0, 0, 0, 0, none6, none6⟩) p (mkQ_ag p) hk).le
theorem remP_expr (s : ByteArray) (k : Nat) (p : Rs) (hk : rem s p.r < k) : rem s (exprP s k p).1.r ≤ rem s p.r :=
  (expr_sim s k (mkQ p, ⟨0, 0, 0, 0, none6, none6⟩) p (mkQ_ag p) hk).le
theorem remP_ex (s : ByteArray) (p : Rs) : rem s (exP s p).1.r ≤ rem s p.r := (ex_sim s (mkQ p, ⟨0, 0, 0, 0, none6, none6⟩) p (mkQ_ag p)).le
theorem remP_stm (s : ByteArray) (k : Nat) (p : Rs) (hk : rem s p.r < k) : rem s (stmP s k p).1.r ≤ rem s p.r := (stm_sim s k 0 (mkQ p) p (mkQ_ag p) hk).1.le
theorem remP_lt (s : ByteArray) (k : Nat) (p : Rs) (hk : rem s p.r < k) (ht : tok s p.r ≠ 0) : rem s (stmP s k p).1.r < rem s p.r := by
  have h1 := (stm_sim s k 0 (mkQ p) p (mkQ_ag p) hk).1.r
  have h2 := stm_lt s k 0 (mkQ p) hk ht
  rw [h1] at h2
  exact h2
theorem remP_blk (s : ByteArray) (K k : Nat) (p : Rs) (hk : rem s p.r < K + 1) : rem s (blkP s (stmP s (K + 1)) k p).1.r ≤ rem s p.r :=
  (blk_sim s K 0 (fun q p => stm_sim s (K + 1) 0 q p) k (mkQ p) p (mkQ_ag p) hk).1.le
end Go.Proofs.YtcnbifdlkalimabGreat

/-
  The plain mathematics of sources, ninth part: what is read of a whole source, and the file of it; no condition but those that stand in each lemma.
-/
namespace Go.Proofs.YtcnbifdlkalimabGreat
open Go.RowKit
set_option linter.unusedVariables false

/-- where both come out -/
structure BodyS (s : ByteArray) (q0 : Tq) (p0 : Rs) (y : Tq) (z : Rs × List Nat) : Prop where
  e : y.r = if z.1.r.er = 0 ∧ z.1.r.a < s.size then rfs z.1.r 11 else z.1.r
  fq : FrQ q0 y
  fp : FrP p0 z.1
  ok : y.r.er = 0 → AllS q0 p0 y z

theorem body_sim (s : ByteArray) : ∀ (k : Nat) (q0 : Tq) (p0 : Rs) (q : Tq) (p : Rs) (l : List Nat), Ag q0 p0 → SimS s q0 p0 q p → AllS q0 p0 q (p, l) → rem s p.r < k → BodyS s q0 p0 (bodyQ s k q) (loopP s (stmP s (s.size + 2)) k p l)
  | 0, q0, p0, q, p, l, hA, hS, hL, hk => by omega
  | k + 1, q0, p0, q, p, l, hA, hS, hL, hk => by
    have fin : ∀ {y : Tq} {r : Rd}, y = { q with r := r } → r.er = p.r.er → AllS q0 p0 y ({ p with r := r }, l) := by
      intro y r hy hr h hE hM hc
      subst hy
      obtain ⟨M, a, b⟩ := hL (by have h : r.er = 0 := h; rw [hr] at h; exact h) hE hM hc
      exact ⟨⟨M.ex, M.sm, M.oe, M.os⟩, a, b⟩
    simp only [bodyQ, loopP]
    rw [hS.r]
    cases h : isS (tok s p.r) with
    | true =>
      have hn : tok s p.r ≠ 0 := by
        unfold isS isL at h
        simp only [Bool.or_eq_true, decide_eq_true_eq, beq_iff_eq] at h
        omega
      have he := tok_pos hn
      rw [if_pos he, if_pos rfl]
      have hA1 := hA.go hS.fq hS.fp hS.r
      have hrd := rem_adv s p.r
      have hz := rem_le s (adv s p.r)
      obtain ⟨h1, h2⟩ := stm_sim s (s.size + 2) (-1) { q with r := adv s p.r } { p with r := adv s p.r } ⟨rfl, hA1.n, hA1.ls, hA1.vs⟩ (by show rem s (adv s p.r) < _; omega)
      have hlt := stm_lt s (s.size + 2) (-1) { q with r := adv s p.r } (by show rem s (adv s p.r) < _; omega) (by show tok s (adv s p.r) ≠ 0; rw [tok_adv]; exact hn)
      rw [h1.r] at hlt
      have hlt : rem s (stmP s (s.size + 2) { p with r := adv s p.r }).1.r < rem s (adv s p.r) := hlt
      have he0 := he.1
      refine body_sim s k q0 p0 _ _ _ hA (hS.trans ⟨h1.r, Nat.le_trans h1.le hrd, fun e => he0, ⟨h1.fq.n, h1.fq.pn, h1.fq.pr, h1.fq.ls, h1.fq.vs⟩, ⟨h1.fp.n, h1.fp.ls, h1.fp.vs⟩⟩) ?_ (by omega)
      intro h hE hM hc
      generalize stmQ s (s.size + 2) (-1) { q with r := adv s p.r } = y at *
      generalize stmP s (s.size + 2) { p with r := adv s p.r } = z at *
      obtain ⟨M, a, b⟩ := hL he0 hE hM hc
      have hcq : q.cd.length % 2 = 0 := by
        have : (q.cd).length = (q0.cd ++ als p.ex p.sm l (q0.cd.length / 2)).length := congrArg List.length b
        rw [List.length_append] at this
        have := all_even p.ex p.sm l (q0.cd.length / 2)
        omega
      obtain ⟨M2, a2, b2⟩ := h2 h M.oe M.os hcq
      have M2 : Mo p z.1 := ⟨M2.ex, M2.sm, M2.oe, M2.os⟩
      have b2 : y.cd = q.cd ++ one z.1.ex z.1.sm z.2 (q.cd.length / 2) := b2
      have b : q.cd = q0.cd ++ als p.ex p.sm l (q0.cd.length / 2) := b
      refine ⟨M.trans M2, fun n hn => ?_, ?_⟩
      · rw [List.mem_append, List.mem_singleton] at hn
        rcases hn with hn | hn
        · exact M2.lt (a n hn)
        · rw [hn]; exact a2
      · rw [b2]
        show _ = q0.cd ++ allG (one z.1.ex z.1.sm) (l ++ [z.2]) (q0.cd.length / 2)
        rw [allG_add _ _ _ _ (one_even _ _)]
        have e1 : allG (one z.1.ex z.1.sm) l (q0.cd.length / 2) = als p.ex p.sm l (q0.cd.length / 2) := M2.all M.oe M.os a _
        rw [e1]
        have hl2 : q.cd.length / 2 = q0.cd.length / 2 + (als p.ex p.sm l (q0.cd.length / 2)).length / 2 := by
          have h1 := all_even p.ex p.sm l (q0.cd.length / 2)
          rw [b, List.length_append]
          omega
        rw [hl2, b, List.append_assoc]
    | false =>
      rw [if_neg (show ¬ (false = true) from by simp)]
      have e1 : (adv s p.r).er = p.r.er := adv_er s p.r
      by_cases hq : p.r.er = 0 ∧ (adv s p.r).a < s.size
      · rw [if_pos hq]
        have hd := stm_dead (s := s) (k := s.size + 1) (ou := -1) (q := { q with r := adv s p.r }) (by show isS (tok s (adv s p.r)) = false; rw [tok_adv]; exact h)
        have hr : (stmQ s (s.size + 2) (-1) { q with r := adv s p.r }).r = rfs (adv s p.r) 11 := by rw [hd.1]; show rfs (adv s (adv s p.r)) 11 = _; rw [adv_adv]
        have hb : (rfs (adv s p.r) 11).er ≠ 0 := rfs_er (by omega)
        have hf := hd.2
        generalize stmQ s (s.size + 2) (-1) { q with r := adv s p.r } = y at *
        have hy : bodyQ s k y = y := by
          cases k with
          | zero => simp only [bodyQ]; rw [adv_bad (by rw [hr]; exact hb)]
          | succ k => simp only [bodyQ]; rw [if_neg (fun c => hb (by rw [← hr]; exact c.1)), adv_bad (by rw [hr]; exact hb)]
        rw [hy]
        have hfq : FrQ q y := ⟨hf.n, hf.pn, hf.pr, hf.ls, hf.vs⟩
        refine ⟨?_, hS.fq.trans hfq, ⟨hS.fp.n, hS.fp.ls, hS.fp.vs⟩, fun e => absurd (by rw [← hr]; exact e) hb⟩
        show y.r = if (adv s p.r).er = 0 ∧ (adv s p.r).a < s.size then _ else _
        rw [if_pos ⟨by rw [e1]; exact hq.1, hq.2⟩]
        exact hr
      · rw [if_neg hq]
        refine ⟨?_, ⟨hS.fq.n, hS.fq.pn, hS.fq.pr, hS.fq.ls, hS.fq.vs⟩, ⟨hS.fp.n, hS.fp.ls, hS.fp.vs⟩, fun _ => fin rfl e1⟩
        show adv s p.r = if (adv s p.r).er = 0 ∧ (adv s p.r).a < s.size then _ else _
        rw [if_neg (by rw [e1]; exact hq)]

/-- what both have read -/
structure ReadS (s : ByteArray) : Prop where
  r : (readQ s).r = endP s
  ok : (endP s).er = 0 → (readQ s).n = nP s ∧ (readQ s).pn = nP s ∧ (readQ s).vs = (headP s).vs ∧ PrOk (readQ s).pr (prP s).2 ∧ In (prP s).2 (nP s).toNat ∧ 1 ≤ nP s ∧ nP s ≤ 6 ∧
    ExOk (readP s).1.ex ∧ SmOk (readP s).1.ex (readP s).1.sm ∧ (∀ n, n ∈ (readP s).2 → n < (readP s).1.sm.length) ∧ (readQ s).cd = als (readP s).1.ex (readP s).1.sm (readP s).2 0
  p : (readP s).1.n = nP s ∧ (readP s).1.ls = (headP s).ls ∧ (readP s).1.vs = (headP s).vs

theorem loopP_bad {s : ByteArray} {f : Rs → Rs × Nat} {p : Rs} {l : List Nat} (h : p.r.er ≠ 0) (k : Nat) : loopP s f k p l = (p, l) := by
  cases k with
  | zero => simp only [loopP]; rw [adv_bad h]
  | succ k => simp only [loopP]; rw [tok_bad h, if_neg (by unfold isS isL; simp), adv_bad h]
theorem bodyQ_bad {s : ByteArray} {q : Tq} (h : q.r.er ≠ 0) (k : Nat) : bodyQ s k q = q := by
  cases k with
  | zero => simp only [bodyQ]; rw [adv_bad h]
  | succ k => simp only [bodyQ]; rw [if_neg (fun c => h c.1), adv_bad h]

theorem read_sim (s : ByteArray) : ReadS s := by
  have hH := head_sim s
  by_cases he : (headP s).r.er = 0
  · obtain ⟨hA, hpn, hPr, hIn, n1, n6⟩ := hH.ok he
    have hB := body_sim s (s.size + 1) (headQ s startQ) (headP s) (headQ s startQ) (headP s) [] hA (SimS.refl hA.r) (fun _ hE hM _ => ⟨⟨⟨[], by simp⟩, ⟨[], by simp⟩, hE, hM⟩, fun n hn => by simp at hn, by simp [als, allG]⟩) (by have := rem_le s (headP s).r; omega)
    have hB : BodyS s (headQ s startQ) (headP s) (readQ s) (readP s) := hB
    have hr : (readQ s).r = endP s := hB.e
    refine ⟨hr, fun h => ?_, ⟨hB.fp.n, hB.fp.ls, hB.fp.vs⟩⟩
    have h0 : (readP s).1.r.er = 0 := by
      unfold endP at h
      split at h
      · exact absurd h (rfs_er (by omega))
      · exact h
    obtain ⟨M, a, b⟩ := hB.ok (by rw [hr]; exact h) h0 (fun e x hx => by simp [headP] at hx) (fun e x hx => by simp [headP] at hx) (by rw [hH.cd]; rfl)
    rw [hH.cd] at b
    refine ⟨by rw [hB.fq.n]; exact hA.n, by rw [hB.fq.pn]; exact hpn, by rw [hB.fq.vs]; exact hA.vs, by rw [hB.fq.pr]; exact hPr, hIn, n1, n6, M.oe, M.os, a, b⟩
  · have e1 : readP s = (headP s, []) := loopP_bad he _
    have e2 : readQ s = headQ s startQ := bodyQ_bad (by rw [hH.r]; exact he) _
    have e3 : endP s = (headP s).r := by
      unfold endP
      rw [e1, if_neg (fun c => he c.1)]
    refine ⟨by rw [e2, e3]; exact hH.r, fun h => absurd (by rw [← e3]; exact h) he, by rw [e1]; exact ⟨rfl, rfl, rfl⟩⟩

/-- the bytes of a table -/
def cells (f : Nat → Nat → Bool) (n : Nat) : List Int := (List.range (n * n)).map fun i => if f (i / n) (i % n) = true then 49 else 48
theorem cells_congr {f g : Nat → Nat → Bool} {n : Nat} (h : ∀ i j, i < n → j < n → f i j = g i j) : cells f n = cells g n := by
  unfold cells
  apply List.map_congr_left
  intro i hi
  rw [List.mem_range] at hi
  have hn : 0 < n := by
    rcases Nat.eq_zero_or_pos n with h | h
    · rw [h] at hi; simp at hi
    · exact h
  rw [h _ _ (Nat.div_lt_of_lt_mul hi) (Nat.mod_lt _ hn)]
theorem cells_len (f : Nat → Nat → Bool) (n : Nat) : (cells f n).length = n * n := by simp [cells]
/-- the table of the order that follows from pairs -/
def tabP (s : ByteArray) : ByteArray := bs (cells (fun i j => hopF (prP s).2 ((nP s).toNat - 1) i j) (nP s).toNat)
theorem tab_pr {l : List Int} {n : Nat} {pr : Nat → Nat → Bool} (h : PrOk pr l) (hI : In l n) : cells pr n = cells (fun i j => hopF l (n - 1) i j) n := by
  refine cells_congr fun i j hi hj => ?_
  have : pr i j = true ↔ hopF l (n - 1) i j = true := by
    rw [h i j]
    exact ⟨fun w => hop_enough hI hi hj w, fun w => ⟨_, w⟩⟩
  cases h1 : pr i j <;> cases h2 : hopF l (n - 1) i j <;> simp_all

/-- the code -/
def codP (s : ByteArray) : List Int := als (readP s).1.ex (readP s).1.sm (readP s).2 0
/-- the file -/
def fileP (s : ByteArray) : ByteArray := bs [83, nP s] ++ tabP s ++ bs [((headP s).vs.length : Int) % 256] ++ bs (headP s).vs ++ bs [((codP s).length / 2 : Nat) % 256] ++ bs (codP s)
/-- what Translate answers: the file, the place, the error -/
def transF (s : ByteArray) : ByteArray := if 300 < s.size ∨ (endP s).er ≠ 0 ∨ levE (tabP s) ≠ 0 ∨ 200 < (codP s).length / 2 then bs [] else fileP s
def transA (s : ByteArray) : Int := if 300 < s.size then 0 else if (endP s).er ≠ 0 then (endP s).a else 0
def transE (s : ByteArray) : Int := if 300 < s.size then 1 else if (endP s).er ≠ 0 then (endP s).er else if levE (tabP s) ≠ 0 then levE (tabP s) else if 200 < (codP s).length / 2 then 13 else 0
end Go.Proofs.YtcnbifdlkalimabGreat

/-
  The plain mathematics of sources: how far one has come behind the head, and its letters; no condition but those that stand in each lemma.
-/
namespace Go.Proofs.YtcnbifdlkalimabGreat
open Go.RowKit
set_option linter.unusedVariables false

/-- letters -/
def Lets (ls : List Int) : Prop := ls.length ≤ 8 ∧ ∀ x ∈ ls, 97 ≤ x ∧ x ≤ 104
theorem nP_bd (s : ByteArray) : 1 ≤ nP s ∧ nP s ≤ 6 := by
  unfold nP dig
  split
  · rename_i h
    have := of_decide_eq_true h
    omega
  · omega

/-- letters: how many there are at most -/
def hasL (ls : List Int) (c : Int) : Nat := if c ∈ ls then 1 else 0
def cntL (ls : List Int) : Nat := hasL ls 97 + hasL ls 98 + hasL ls 99 + hasL ls 100 + hasL ls 101 + hasL ls 102 + hasL ls 103 + hasL ls 104
theorem hasL_le (ls : List Int) (c : Int) : hasL ls c ≤ 1 := by unfold hasL; split <;> omega
theorem cntL_le (ls : List Int) : cntL ls ≤ 8 := by
  unfold cntL
  have := hasL_le ls 97
  have := hasL_le ls 98
  have := hasL_le ls 99
  have := hasL_le ls 100
  have := hasL_le ls 101
  have := hasL_le ls 102
  have := hasL_le ls 103
  have := hasL_le ls 104
  omega
theorem hasL_add {ls : List Int} {t : Int} (h : ¬ t ∈ ls) (c : Int) : hasL (ls ++ [t]) c = hasL ls c + (if c = t then 1 else 0) := by
  unfold hasL
  by_cases e : c = t
  · subst e
    rw [if_pos (by simp), if_neg h, if_pos rfl]
  · rw [if_neg e]
    by_cases m : c ∈ ls
    · rw [if_pos (by simp [m]), if_pos m]
    · rw [if_neg (by simp [m, e]), if_neg m]
theorem cntL_add {ls : List Int} {t : Int} (h : ¬ t ∈ ls) (h0 : 97 ≤ t) (h1 : t ≤ 104) : cntL (ls ++ [t]) = cntL ls + 1 := by
  unfold cntL
  rw [hasL_add h, hasL_add h, hasL_add h, hasL_add h, hasL_add h, hasL_add h, hasL_add h, hasL_add h]
  have hc : t = 97 ∨ t = 98 ∨ t = 99 ∨ t = 100 ∨ t = 101 ∨ t = 102 ∨ t = 103 ∨ t = 104 := by omega
  rcases hc with rfl | rfl | rfl | rfl | rfl | rfl | rfl | rfl <;> simp <;> omega
/-- letters, each once -/
def Let1 (ls : List Int) : Prop := ls.length = cntL ls ∧ ∀ x ∈ ls, 97 ≤ x ∧ x ≤ 104
theorem Let1.nil : Let1 [] := ⟨rfl, fun x hx => by cases hx⟩
theorem Let1.lets {ls : List Int} (h : Let1 ls) : Lets ls := ⟨by rw [h.1]; exact cntL_le ls, h.2⟩
theorem Let1.add {ls : List Int} {t : Int} (h : Let1 ls) (ht : ¬ fnd t ls < ls.length) (h0 : 97 ≤ t) (h1 : t ≤ 104) : Let1 (ls ++ [t]) := by
  have hm : ¬ t ∈ ls := fun hm => by
    obtain ⟨i, hi, e⟩ := List.mem_iff_getElem.1 hm
    have hle := fnd_le t ls
    exact fnd_before (c := t) (l := ls) (j := i) (by omega) (by rw [List.getElem?_eq_getElem hi, e])
  refine ⟨by rw [List.length_append, cntL_add hm h0 h1, h.1]; rfl, fun x hx => ?_⟩
  rcases List.mem_append.1 hx with c | c
  · exact h.2 x c
  · rw [List.mem_singleton.1 c]; exact ⟨h0, h1⟩
theorem prs_le (s : ByteArray) (n : Int) : ∀ (k : Nat) (r : Rd) (l : List Int), r.a ≤ s.size → (prsP s n k r l).1.a ≤ s.size
  | 0, r, l, h => adv_le h
  | k + 1, r, l, h => by
    simp only [prsP]
    split
    · exact prs_le s n k _ _ (digR_le (by omega) (digR_le (by omega) (adv_le h)))
    · exact adv_le h
theorem dec_le (s : ByteArray) (n : Int) : ∀ (k : Nat) (r : Rd) (ls vs : List Int), r.a ≤ s.size → (decsP s n k r ls vs).1.a ≤ s.size
  | 0, r, ls, vs, h => adv_le h
  | k + 1, r, ls, vs, h => by
    simp only [decsP]
    split
    · rename_i hi
      split
      · show (rfs (adv s r) 12).a ≤ s.size
        rw [rfs_a]; exact adv_le h
      · exact dec_le s n k _ _ _ (digR_le (by omega) (nxt_le (by have := of_decide_eq_true hi; omega)))
    · exact adv_le h
theorem dec_let (s : ByteArray) (n : Int) : ∀ (k : Nat) (r : Rd) (ls vs : List Int), Let1 ls → Let1 (decsP s n k r ls vs).2.1
  | 0, r, ls, vs, h => h
  | k + 1, r, ls, vs, h => by
    simp only [decsP]
    split
    · rename_i hi
      have := of_decide_eq_true hi
      split
      · exact h
      · rename_i ho
        exact dec_let s n k _ _ _ (h.add ho this.1 this.2)
    · exact h
theorem head_gp (s : ByteArray) : Gp s (headP s) := by
  have h1 : (prP s).1.a ≤ s.size := prs_le s _ _ _ _ (digR_le (by omega) (Nat.zero_le _))
  have h2 : (dcP s).1.a ≤ s.size := dec_le s _ _ _ _ _ (tk_le h1 (by omega))
  have h3 := (dec_let s (nP s) (s.size + 1) (tk s (prP s).1 46) [] [] Let1.nil).lets
  exact ⟨tk_le h2 (by omega), (nP_bd s).1, (nP_bd s).2, h3.1, h3.2⟩
end Go.Proofs.YtcnbifdlkalimabGreat
