/-
  No cell of these rows narrows 'for every input' (looked for: loops, veiled, ifaces, maps, wideKeys, modest, calm, conditions, laid).
  DERIVED. THE GIVEN ROWS OF THIS SEAT. 3 by the template 'for every input the law returns true; each argument reads behind the call as it read before'; 0 by the template 'total and deterministic' (their statements: YtcnbifdlkalimabGreatTotals.lean).
  GIVEN WITH THE SEED: the statements are not yours to turn. If you find one false, say at which input.
  Laid BY PROGRAM, IN A SANDBOX (cutbox-rows.mjs): the forced cells as the released guide's own fill.sh prints them over the translation 5dd7ae3dd2481703… (all of the seat's roots in one cut). By AI agents, Wed Nov 11 2026. No macro, syntax, notation, axiom, sorry.
-/
import Derived.Test.YtcnbifdlkalimabGreatChecked
import GoSem.Claim
import GoSem.ClaimJoined
import GoSem.ClaimMapViews
import Derived.JoinedTies
import Derived.KernelRfl
namespace Go.Proofs.YtcnbifdlkalimabGreat
/- THE CELL 'sum', in the pinned program and in every row, IS THE sha256 OF THE DUMP (.gsa) THAT YtcnbifdlkalimabGreatProg.lean LOADS. Nothing in Lean hashes anything: it is a label: what it is worth is what the hold of that sum in a sandbox is worth. -/
noncomputable def Tryz.pinned : Pinned := { name := "ytcnbifdlkalimabgreat", sum := "5dd7ae3dd248170308f013b4ea4b51b91ee50676e7f5bf3668d20decd0c43f0a", checked := Tryz.checked }
namespace Rows
def none {H : Type} : Left H := { results := [], args := [] }

/-- 'sluicelaw.Means': WHATEVER THE INPUT: true; the input reads as it did. -/
def meansSpec : ChangeSpec := { name := "means", fn := fun _ => fun
  | [d1, d2, d3] => { results := [.lit (.bool true)], args := [d1, d2, d3] }
  | _ => none }
def meansRow : OpenClaim := { program := "ytcnbifdlkalimabgreat", sum := "5dd7ae3dd248170308f013b4ea4b51b91ee50676e7f5bf3668d20decd0c43f0a", func := "sluice/sluicelaw.Means", spec := "means", recurses := true, apart := false }
def MeansSaid : Prop := meansRow.holds Tryz.pinned (OpenSpec.ofChange meansSpec)

/-- ITS FALSE NEIGHBOUR: 'it returns false'. Refute it at one input. -/
def meansWrong : ChangeSpec := { name := "means", fn := fun _ => fun
  | [d1, d2, d3] => { results := [.lit (.bool false)], args := [d1, d2, d3] }
  | _ => none }
def MeansWrongFalsely : Prop := meansRow.holds Tryz.pinned (OpenSpec.ofChange meansWrong)

/-- 'sluicekeep.Shut': WHATEVER THE INPUT: true; the input reads as it did. -/
def shutSpec : ChangeSpec := { name := "shut", fn := fun _ => fun
  | [d] => { results := [.lit (.bool true)], args := [d] }
  | _ => none }
def shutRow : OpenClaim := { program := "ytcnbifdlkalimabgreat", sum := "5dd7ae3dd248170308f013b4ea4b51b91ee50676e7f5bf3668d20decd0c43f0a", func := "sluice/sluicekeep.Shut", spec := "shut", recurses := true, apart := false }
def ShutSaid : Prop := shutRow.holds Tryz.pinned (OpenSpec.ofChange shutSpec)

/-- ITS FALSE NEIGHBOUR: 'it returns false'. Refute it at one input. -/
def shutWrong : ChangeSpec := { name := "shut", fn := fun _ => fun
  | [d] => { results := [.lit (.bool false)], args := [d] }
  | _ => none }
def ShutWrongFalsely : Prop := shutRow.holds Tryz.pinned (OpenSpec.ofChange shutWrong)

/-- 'sluicelaw.All': WHATEVER THE INPUT: true; the input reads as it did. -/
def allSpec : ChangeSpec := { name := "all", fn := fun _ => fun
  | [d] => { results := [.lit (.bool true)], args := [d] }
  | _ => none }
def allRow : OpenClaim := { program := "ytcnbifdlkalimabgreat", sum := "5dd7ae3dd248170308f013b4ea4b51b91ee50676e7f5bf3668d20decd0c43f0a", func := "sluice/sluicelaw.All", spec := "all", recurses := true, apart := false }
def AllSaid : Prop := allRow.holds Tryz.pinned (OpenSpec.ofChange allSpec)

/-- ITS FALSE NEIGHBOUR: 'it returns false'. Refute it at one input. -/
def allWrong : ChangeSpec := { name := "all", fn := fun _ => fun
  | [d] => { results := [.lit (.bool false)], args := [d] }
  | _ => none }
def AllWrongFalsely : Prop := allRow.holds Tryz.pinned (OpenSpec.ofChange allWrong)

/- THE SECOND FORM. 'bulk': how many values and letters a reading holds, each counted each time it is reached (what is shared counts as often as it is met; a slice's spare places count too). A statement '..UptoSaid' is the law's where the arguments, and the package variables that the reading takes, are together of bulk at most 1048576: NARROWER than '..Said'. Prove '..Said' where nothing that the law and all that it calls make is longer than what came in: it says more and counts as full. Else prove '..UptoSaid'. A law counts once. -/
mutual
def uptoBulk {H : Type} : DataW H → Nat
  | .lit (.string bytes) => bytes.length + 1
  | .lit _ => 1
  | .nil => 1
  | .ptr d => uptoBulk d + 1
  | .slice elems spare => uptoBulkAll elems + uptoBulkAll spare + 1
  | .agg parts => uptoBulkAll parts + 1
  | .iface _ d => uptoBulk d + 1
  | .map entries => uptoBulkEntries entries + 1
  | .held _ => 1
def uptoBulkAll {H : Type} : List (DataW H) → Nat
  | [] => 0
  | d :: r => uptoBulk d + uptoBulkAll r
def uptoBulkEntries {H : Type} : List (Lit × DataW H) → Nat
  | [] => 0
  | x :: r => uptoBulkEntry x + uptoBulkEntries r
def uptoBulkEntry {H : Type} : Lit × DataW H → Nat
  | (.string bytes, d) => bytes.length + uptoBulk d + 1
  | (_, d) => uptoBulk d + 1
 end
def uptoSmall : (H : Type) → List (DataW H) → Bool := fun _ ds => decide (uptoBulkAll ds ≤ 1048576)
def OpenSpec.upto (s : _root_.Go.ChangeSpec) : _root_.Go.OpenSpec := { _root_.Go.OpenSpec.ofChange s with cond := some uptoSmall }

/-- 'sluicelaw.Means', WHERE WHAT IT READS IS OF BULK AT MOST 1048576: true; the input reads as it did. -/
def meansUptoRow : OpenClaim := { program := "ytcnbifdlkalimabgreat", sum := "5dd7ae3dd248170308f013b4ea4b51b91ee50676e7f5bf3668d20decd0c43f0a", func := "sluice/sluicelaw.Means", spec := "means", recurses := true, apart := false, narrowed := true }
def MeansUptoSaid : Prop := meansUptoRow.holds Tryz.pinned (OpenSpec.upto meansSpec)

/-- 'sluicekeep.Shut', WHERE WHAT IT READS IS OF BULK AT MOST 1048576: true; the input reads as it did. -/
def shutUptoRow : OpenClaim := { program := "ytcnbifdlkalimabgreat", sum := "5dd7ae3dd248170308f013b4ea4b51b91ee50676e7f5bf3668d20decd0c43f0a", func := "sluice/sluicekeep.Shut", spec := "shut", recurses := true, apart := false, narrowed := true }
def ShutUptoSaid : Prop := shutUptoRow.holds Tryz.pinned (OpenSpec.upto shutSpec)

/-- 'sluicelaw.All', WHERE WHAT IT READS IS OF BULK AT MOST 1048576: true; the input reads as it did. -/
def allUptoRow : OpenClaim := { program := "ytcnbifdlkalimabgreat", sum := "5dd7ae3dd248170308f013b4ea4b51b91ee50676e7f5bf3668d20decd0c43f0a", func := "sluice/sluicelaw.All", spec := "all", recurses := true, apart := false, narrowed := true }
def AllUptoSaid : Prop := allUptoRow.holds Tryz.pinned (OpenSpec.upto allSpec)

end Rows
end Go.Proofs.YtcnbifdlkalimabGreat
