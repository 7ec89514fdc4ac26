/-
  The plain mathematics of sources, second part: what the program lays down while it reads; no condition but those that stand in each lemma.
-/
import Derived.Test.YtcnbifdlkalimabGreatSrc1
import Derived.Test.YtcnbifdlkalimabGreatPlain7
namespace Go.Proofs.YtcnbifdlkalimabGreat
open Go.RowKit

/-- a statement, as the program notes it -/
structure Sq where
  k : Int
  pl : Int
  ou : Int
  ta : Int
  rd : Nat → Bool
  tp : Nat → Bool

/-- the translator -/
structure Tq where
  r : Rd
  n : Int
  pn : Int
  pr : Nat → Nat → Bool
  ls : List Int
  vs : List Int
  cd : List Int
  h : Int
  hi : Int
  ss : List Sq

/-- a level more in a set -/
def addL (m : Nat → Bool) (p : Int) : Nat → Bool := fun j => if (j : Int) = p then true else m j

/-- an instruction more -/
def emitQ (q : Tq) (op x : Int) : Tq :=
  { q with cd := q.cd ++ [op, x % 256], h := q.h + givesF op - takesF op, hi := max q.hi (q.h + givesF op - takesF op) }
/-- where the next one will stand -/
def plQ (q : Tq) : Nat := q.cd.length / 2
/-- an earlier one goes on at the next place -/
def aimQ (q : Tq) (z : Nat) : Tq := { q with cd := q.cd.set (2 * z + 1) ((plQ q : Int) % 256) }
/-- a statement more -/
def addQ (q : Tq) (x : Sq) : Tq := { q with ss := q.ss ++ [x] }

/-- the level of a variable -/
def lvOf (q : Tq) (v : Nat) : Int := q.vs.getD v 0

/-- '$' and a level -/
def tapeQ (s : ByteArray) (x : Tq × Sq) : Tq × Sq :=
  (emitQ { x.1 with r := digR s (tk s x.1.r 36) 0 (x.1.n - 1) } 10 (dig s (tk s x.1.r 36) 0 (x.1.n - 1)),
    { x.2 with rd := addL x.2.rd (dig s (tk s x.1.r 36) 0 (x.1.n - 1)), tp := addL x.2.tp (dig s (tk s x.1.r 36) 0 (x.1.n - 1)) })
/-- a letter -/
def lettQ (s : ByteArray) (x : Tq × Sq) : Tq × Sq :=
  (emitQ { x.1 with r := varR s x.1.r x.1.ls } 1 (varI s x.1.r x.1.ls), { x.2 with rd := addL x.2.rd (lvOf x.1 (varI s x.1.r x.1.ls)) })
/-- a term, whatever an expression is -/
def termQ (s : ByteArray) (ex : Tq × Sq → Tq × Sq) (x : Tq × Sq) : Tq × Sq :=
  if 48 ≤ tok s x.1.r ∧ tok s x.1.r ≤ 57 then (emitQ { x.1 with r := (num s (adv s x.1.r)).2 } 0 (num s (adv s x.1.r)).1, x.2)
  else if tok s x.1.r = 36 then tapeQ s ({ x.1 with r := adv s x.1.r }, x.2)
  else if tok s x.1.r = 40 then
    ({ (ex ({ x.1 with r := nx (adv s x.1.r) }, x.2)).1 with r := tk s (ex ({ x.1 with r := nx (adv s x.1.r) }, x.2)).1.r 41 }, (ex ({ x.1 with r := nx (adv s x.1.r) }, x.2)).2)
  else lettQ s ({ x.1 with r := adv s x.1.r }, x.2)
/-- the operators and terms behind the first -/
def moreQ (s : ByteArray) (tm : Tq × Sq → Tq × Sq) : Nat → Tq × Sq → Tq × Sq
  | 0, x => ({ x.1 with r := adv s x.1.r }, x.2)
  | k + 1, x => if opOf (tok s x.1.r) = 0 then ({ x.1 with r := adv s x.1.r }, x.2)
      else moreQ s tm k (emitQ (tm ({ x.1 with r := nx (adv s x.1.r) }, x.2)).1 (opOf (tok s x.1.r)) 0, (tm ({ x.1 with r := nx (adv s x.1.r) }, x.2)).2)
/-- an expression -/
def exprQ (s : ByteArray) : Nat → Tq × Sq → Tq × Sq
  | 0, x => x
  | k + 1, x => moreQ s (termQ s (exprQ s k)) k (termQ s (exprQ s k) x)
/-- enough for any -/
def exQ (s : ByteArray) (x : Tq × Sq) : Tq × Sq := exprQ s (s.size + 1) x

/-- as many statements as there are, up to '}' -/
def loopQ (s : ByteArray) (f : Tq → Tq) : Nat → Tq → Tq
  | 0, q => { q with r := adv s q.r }
  | k + 1, q => if q.r.er = 0 ∧ tok s q.r ≠ 125 then loopQ s f k (f { q with r := adv s q.r }) else { q with r := adv s q.r }
def blkQ (s : ByteArray) (f : Tq → Tq) (k : Nat) (q : Tq) : Tq :=
  { loopQ s f k { q with r := tk s q.r 123 } with r := tk s (loopQ s f k { q with r := tk s q.r 123 }).r 125 }

def assQ (s : ByteArray) (q : Tq) (x : Sq) : Tq :=
  let y := exQ s ({ q with r := tk s (varR s q.r q.ls) 61 }, { x with k := 1, ta := lvOf q (varI s q.r q.ls) })
  addQ (emitQ { y.1 with r := tk s y.1.r 59 } 2 (varI s q.r q.ls)) y.2
def wriQ (s : ByteArray) (q : Tq) (x : Sq) : Tq :=
  let y := exQ s ({ q with r := digR s (tk s q.r 62) 0 (q.n - 1) }, { x with k := 2, ta := dig s (tk s q.r 62) 0 (q.n - 1) })
  addQ (emitQ { y.1 with r := tk s y.1.r 59 } 11 (dig s (tk s q.r 62) 0 (q.n - 1))) y.2
def choQ (s : ByteArray) (f : Int → Tq → Tq) (k : Nat) (q : Tq) (x : Sq) : Tq :=
  let y := exQ s ({ q with r := tk s q.r 63 }, { x with k := 3 })
  let q1 := blkQ s (f y.1.ss.length) k (emitQ (addQ y.1 y.2) 9 0)
  if tok s q1.r = 58 then
    let q2 := blkQ s (f y.1.ss.length) k (aimQ (emitQ { q1 with r := nx (adv s q1.r) } 8 0) (plQ y.1))
    aimQ q2 (plQ q1)
  else aimQ { q1 with r := adv s q1.r } (plQ y.1)
def repQ (s : ByteArray) (f : Int → Tq → Tq) (k : Nat) (q : Tq) (x : Sq) : Tq :=
  let y := exQ s ({ q with r := tk s q.r 64 }, { x with k := 4 })
  let q1 := blkQ s (f y.1.ss.length) k (emitQ (addQ y.1 y.2) 9 0)
  aimQ (emitQ q1 8 (plQ q)) (plQ y.1)

def none6 : Nat → Bool := fun _ => false
/-- a statement that stands in a block of another -/
def stmQ (s : ByteArray) : Nat → Int → Tq → Tq
  | 0, _, q => q
  | k + 1, ou, q =>
    if tok s q.r = 62 then wriQ s { q with r := adv s q.r } ⟨0, (adv s q.r).a, ou, 0, none6, none6⟩
    else if tok s q.r = 63 then choQ s (stmQ s k) k { q with r := adv s q.r } ⟨0, (adv s q.r).a, ou, 0, none6, none6⟩
    else if tok s q.r = 64 then repQ s (stmQ s k) k { q with r := adv s q.r } ⟨0, (adv s q.r).a, ou, 0, none6, none6⟩
    else assQ s { q with r := adv s q.r } ⟨0, (adv s q.r).a, ou, 0, none6, none6⟩

/-- the statements that stand in no block -/
def bodyQ (s : ByteArray) : Nat → Tq → Tq
  | 0, q => { q with r := adv s q.r }
  | k + 1, q => if q.r.er = 0 ∧ (adv s q.r).a < s.size then bodyQ s k (stmQ s (s.size + 2) (-1) { q with r := adv s q.r }) else { q with r := adv s q.r }

/-- one pair more: all that follows -/
def pairQ (q : Tq) (a b : Int) : Tq := { q with pr := fun i j => q.pr i j || (q.pr i a.toNat && q.pr b.toNat j) }
/-- the pairs of levels -/
def prsQ (s : ByteArray) : Nat → Tq → Tq
  | 0, q => { q with r := adv s q.r }
  | k + 1, q => if q.r.er = 0 ∧ tok s q.r ≠ 46 then
      prsQ s k (pairQ { q with r := digR s (digR s (adv s q.r) 0 (q.n - 1)) 0 (q.n - 1) } (dig s (adv s q.r) 0 (q.n - 1)) (dig s (digR s (adv s q.r) 0 (q.n - 1)) 0 (q.n - 1)))
    else { q with r := adv s q.r }
/-- a variable is declared -/
def decQ (s : ByteArray) (q : Tq) : Tq :=
  if isL (tok s q.r) = false then { q with r := rfs (adv s q.r) 11 }
  else if fnd (tok s q.r) q.ls < q.ls.length then { q with r := rfs (adv s q.r) 12 }
  else { q with r := digR s (nx (adv s q.r)) 0 (q.n - 1), ls := q.ls ++ [tok s q.r], vs := q.vs ++ [dig s (nx (adv s q.r)) 0 (q.n - 1)] }
def decsQ (s : ByteArray) : Nat → Tq → Tq
  | 0, q => { q with r := adv s q.r }
  | k + 1, q => if q.r.er = 0 ∧ tok s q.r ≠ 46 then decsQ s k (decQ s { q with r := adv s q.r }) else { q with r := adv s q.r }
/-- what stands ahead of the statements -/
def headQ (s : ByteArray) (q : Tq) : Tq :=
  let n := dig s q.r 1 6
  let q1 := prsQ s (s.size + 1) { q with r := digR s q.r 1 6, n := n, pn := n, pr := fun i j => decide (i = j) }
  let q2 := decsQ s (s.size + 1) { q1 with r := tk s q1.r 46 }
  { q2 with r := tk s q2.r 46 }
def startQ : Tq := ⟨⟨0, 0⟩, 0, 0, fun _ _ => false, [], [], [], 0, 0, []⟩
/-- a source, read -/
def readQ (s : ByteArray) : Tq := bodyQ s (s.size + 1) (headQ s startQ)
end Go.Proofs.YtcnbifdlkalimabGreat
