/-
  No cell of these rows narrows 'for every input' (looked for: loops, veiled, ifaces, maps, wideKeys, modest, calm, conditions, laid).
  DERIVED. THE GIVEN ROWS OF THIS SEAT. 9 by the template 'for every input the law returns true; each argument reads behind the call as it read before'; 0 by the template 'total and deterministic' (their statements: YtcnbifdlkalimaaTotals.lean).
  GIVEN WITH THE SEED: the statements are not yours to turn. If you find one false, say at which input.
  Laid BY PROGRAM, IN A SANDBOX (cutbox-rows.mjs): the forced cells as the released guide's own fill.sh prints them over the translation 57c375fe0e92545b… (all of the seat's roots in one cut). By AI agents, Wed Nov 11 2026. No macro, syntax, notation, axiom, sorry.
-/
import Derived.Test.YtcnbifdlkalimaaChecked
import GoSem.Claim
import GoSem.ClaimJoined
import GoSem.ClaimMapViews
import Derived.JoinedTies
import Derived.KernelRfl
namespace Go.Proofs.Ytcnbifdlkalimaa
/- THE CELL 'sum', in the pinned program and in every row, IS THE sha256 OF THE DUMP (.gsa) THAT YtcnbifdlkalimaaProg.lean LOADS. Nothing in Lean hashes anything: it is a label: what it is worth is what the hold of that sum in a sandbox is worth. -/
noncomputable def Try.pinned : Pinned := { name := "ytcnbifdlkalimaa", sum := "57c375fe0e92545b639ef0ac5a633064fefc5a1db97c603888972dc84fbf3d9f", checked := Try.checked }
namespace Rows
def none {H : Type} : Left H := { results := [], args := [] }

/-- 'sluicelaw.Orders': WHATEVER THE INPUT: true; the input reads as it did. -/
def ordersSpec : ChangeSpec := { name := "orders", fn := fun _ => fun
  | [d1, d2, d3] => { results := [.lit (.bool true)], args := [d1, d2, d3] }
  | _ => none }
def ordersRow : OpenClaim := { program := "ytcnbifdlkalimaa", sum := "57c375fe0e92545b639ef0ac5a633064fefc5a1db97c603888972dc84fbf3d9f", func := "sluice/sluicelaw.Orders", spec := "orders", apart := false }
def OrdersSaid : Prop := ordersRow.holds Try.pinned (OpenSpec.ofChange ordersSpec)

/-- ITS FALSE NEIGHBOUR: 'it returns false'. Refute it at one input. -/
def ordersWrong : ChangeSpec := { name := "orders", fn := fun _ => fun
  | [d1, d2, d3] => { results := [.lit (.bool false)], args := [d1, d2, d3] }
  | _ => none }
def OrdersWrongFalsely : Prop := ordersRow.holds Try.pinned (OpenSpec.ofChange ordersWrong)

/-- 'sluicelaw.Scans': WHATEVER THE INPUT: true; the input reads as it did. -/
def scansSpec : ChangeSpec := { name := "scans", fn := fun _ => fun
  | [d] => { results := [.lit (.bool true)], args := [d] }
  | _ => none }
def scansRow : OpenClaim := { program := "ytcnbifdlkalimaa", sum := "57c375fe0e92545b639ef0ac5a633064fefc5a1db97c603888972dc84fbf3d9f", func := "sluice/sluicelaw.Scans", spec := "scans", apart := false }
def ScansSaid : Prop := scansRow.holds Try.pinned (OpenSpec.ofChange scansSpec)

/-- ITS FALSE NEIGHBOUR: 'it returns false'. Refute it at one input. -/
def scansWrong : ChangeSpec := { name := "scans", fn := fun _ => fun
  | [d] => { results := [.lit (.bool false)], args := [d] }
  | _ => none }
def ScansWrongFalsely : Prop := scansRow.holds Try.pinned (OpenSpec.ofChange scansWrong)

/-- 'sluicekeep.Lattice': WHATEVER THE INPUT: true; the input reads as it did. -/
def latticeSpec : ChangeSpec := { name := "lattice", fn := fun _ => fun
  | [d1, d2, d3, d4] => { results := [.lit (.bool true)], args := [d1, d2, d3, d4] }
  | _ => none }
def latticeRow : OpenClaim := { program := "ytcnbifdlkalimaa", sum := "57c375fe0e92545b639ef0ac5a633064fefc5a1db97c603888972dc84fbf3d9f", func := "sluice/sluicekeep.Lattice", spec := "lattice", apart := false }
def LatticeSaid : Prop := latticeRow.holds Try.pinned (OpenSpec.ofChange latticeSpec)

/-- ITS FALSE NEIGHBOUR: 'it returns false'. Refute it at one input. -/
def latticeWrong : ChangeSpec := { name := "lattice", fn := fun _ => fun
  | [d1, d2, d3, d4] => { results := [.lit (.bool false)], args := [d1, d2, d3, d4] }
  | _ => none }
def LatticeWrongFalsely : Prop := latticeRow.holds Try.pinned (OpenSpec.ofChange latticeWrong)

/-- 'sluicekeep.Known': WHATEVER THE INPUT: true; the input reads as it did. -/
def knownSpec : ChangeSpec := { name := "known", fn := fun _ => fun
  | [d] => { results := [.lit (.bool true)], args := [d] }
  | _ => none }
def knownRow : OpenClaim := { program := "ytcnbifdlkalimaa", sum := "57c375fe0e92545b639ef0ac5a633064fefc5a1db97c603888972dc84fbf3d9f", func := "sluice/sluicekeep.Known", spec := "known", recurses := true, apart := false }
def KnownSaid : Prop := knownRow.holds Try.pinned (OpenSpec.ofChange knownSpec)

/-- ITS FALSE NEIGHBOUR: 'it returns false'. Refute it at one input. -/
def knownWrong : ChangeSpec := { name := "known", fn := fun _ => fun
  | [d] => { results := [.lit (.bool false)], args := [d] }
  | _ => none }
def KnownWrongFalsely : Prop := knownRow.holds Try.pinned (OpenSpec.ofChange knownWrong)

/-- 'sluicekeep.Secret': WHATEVER THE INPUT: true; the input reads as it did. -/
def secretSpec : ChangeSpec := { name := "secret", fn := fun _ => fun
  | [d1, d2, d3, d4, d5, d6] => { results := [.lit (.bool true)], args := [d1, d2, d3, d4, d5, d6] }
  | _ => none }
def secretRow : OpenClaim := { program := "ytcnbifdlkalimaa", sum := "57c375fe0e92545b639ef0ac5a633064fefc5a1db97c603888972dc84fbf3d9f", func := "sluice/sluicekeep.Secret", spec := "secret", recurses := true, apart := false }
def SecretSaid : Prop := secretRow.holds Try.pinned (OpenSpec.ofChange secretSpec)

/-- ITS FALSE NEIGHBOUR: 'it returns false'. Refute it at one input. -/
def secretWrong : ChangeSpec := { name := "secret", fn := fun _ => fun
  | [d1, d2, d3, d4, d5, d6] => { results := [.lit (.bool false)], args := [d1, d2, d3, d4, d5, d6] }
  | _ => none }
def SecretWrongFalsely : Prop := secretRow.holds Try.pinned (OpenSpec.ofChange secretWrong)

/-- 'sluicekeep.Longer': WHATEVER THE INPUT: true; the input reads as it did. -/
def longerSpec : ChangeSpec := { name := "longer", fn := fun _ => fun
  | [d1, d2, d3, d4] => { results := [.lit (.bool true)], args := [d1, d2, d3, d4] }
  | _ => none }
def longerRow : OpenClaim := { program := "ytcnbifdlkalimaa", sum := "57c375fe0e92545b639ef0ac5a633064fefc5a1db97c603888972dc84fbf3d9f", func := "sluice/sluicekeep.Longer", spec := "longer", recurses := true, apart := false }
def LongerSaid : Prop := longerRow.holds Try.pinned (OpenSpec.ofChange longerSpec)

/-- ITS FALSE NEIGHBOUR: 'it returns false'. Refute it at one input. -/
def longerWrong : ChangeSpec := { name := "longer", fn := fun _ => fun
  | [d1, d2, d3, d4] => { results := [.lit (.bool false)], args := [d1, d2, d3, d4] }
  | _ => none }
def LongerWrongFalsely : Prop := longerRow.holds Try.pinned (OpenSpec.ofChange longerWrong)

/-- 'sluicekeep.Padded': WHATEVER THE INPUT: true; the input reads as it did. -/
def paddedSpec : ChangeSpec := { name := "padded", fn := fun _ => fun
  | [d1, d2, d3, d4, d5, d6] => { results := [.lit (.bool true)], args := [d1, d2, d3, d4, d5, d6] }
  | _ => none }
def paddedRow : OpenClaim := { program := "ytcnbifdlkalimaa", sum := "57c375fe0e92545b639ef0ac5a633064fefc5a1db97c603888972dc84fbf3d9f", func := "sluice/sluicekeep.Padded", spec := "padded", recurses := true, apart := false }
def PaddedSaid : Prop := paddedRow.holds Try.pinned (OpenSpec.ofChange paddedSpec)

/-- ITS FALSE NEIGHBOUR: 'it returns false'. Refute it at one input. -/
def paddedWrong : ChangeSpec := { name := "padded", fn := fun _ => fun
  | [d1, d2, d3, d4, d5, d6] => { results := [.lit (.bool false)], args := [d1, d2, d3, d4, d5, d6] }
  | _ => none }
def PaddedWrongFalsely : Prop := paddedRow.holds Try.pinned (OpenSpec.ofChange paddedWrong)

/-- 'sluicekeep.Renamed': WHATEVER THE INPUT: true; the input reads as it did. -/
def renamedSpec : ChangeSpec := { name := "renamed", fn := fun _ => fun
  | [d1, d2, d3, d4] => { results := [.lit (.bool true)], args := [d1, d2, d3, d4] }
  | _ => none }
def renamedRow : OpenClaim := { program := "ytcnbifdlkalimaa", sum := "57c375fe0e92545b639ef0ac5a633064fefc5a1db97c603888972dc84fbf3d9f", func := "sluice/sluicekeep.Renamed", spec := "renamed", recurses := true, apart := false }
def RenamedSaid : Prop := renamedRow.holds Try.pinned (OpenSpec.ofChange renamedSpec)

/-- ITS FALSE NEIGHBOUR: 'it returns false'. Refute it at one input. -/
def renamedWrong : ChangeSpec := { name := "renamed", fn := fun _ => fun
  | [d1, d2, d3, d4] => { results := [.lit (.bool false)], args := [d1, d2, d3, d4] }
  | _ => none }
def RenamedWrongFalsely : Prop := renamedRow.holds Try.pinned (OpenSpec.ofChange renamedWrong)

/-- 'sluicelaw.Translates': WHATEVER THE INPUT: true; the input reads as it did. -/
def translatesSpec : ChangeSpec := { name := "translates", fn := fun _ => fun
  | [d] => { results := [.lit (.bool true)], args := [d] }
  | _ => none }
def translatesRow : OpenClaim := { program := "ytcnbifdlkalimaa", sum := "57c375fe0e92545b639ef0ac5a633064fefc5a1db97c603888972dc84fbf3d9f", func := "sluice/sluicelaw.Translates", spec := "translates", recurses := true, apart := false }
def TranslatesSaid : Prop := translatesRow.holds Try.pinned (OpenSpec.ofChange translatesSpec)

/-- ITS FALSE NEIGHBOUR: 'it returns false'. Refute it at one input. -/
def translatesWrong : ChangeSpec := { name := "translates", fn := fun _ => fun
  | [d] => { results := [.lit (.bool false)], args := [d] }
  | _ => none }
def TranslatesWrongFalsely : Prop := translatesRow.holds Try.pinned (OpenSpec.ofChange translatesWrong)

/- THE SECOND FORM. 'bulk': how many values and letters a reading holds, each counted each time it is reached (what is shared counts as often as it is met; a slice's spare places count too). A statement '..UptoSaid' is the law's where the arguments, and the package variables that the reading takes, are together of bulk at most 1048576: NARROWER than '..Said'. Prove '..Said' where nothing that the law and all that it calls make is longer than what came in: it says more and counts as full. Else prove '..UptoSaid'. A law counts once. -/
mutual
def uptoBulk {H : Type} : DataW H → Nat
  | .lit (.string bytes) => bytes.length + 1
  | .lit _ => 1
  | .nil => 1
  | .ptr d => uptoBulk d + 1
  | .slice elems spare => uptoBulkAll elems + uptoBulkAll spare + 1
  | .agg parts => uptoBulkAll parts + 1
  | .iface _ d => uptoBulk d + 1
  | .map entries => uptoBulkEntries entries + 1
  | .held _ => 1
def uptoBulkAll {H : Type} : List (DataW H) → Nat
  | [] => 0
  | d :: r => uptoBulk d + uptoBulkAll r
def uptoBulkEntries {H : Type} : List (Lit × DataW H) → Nat
  | [] => 0
  | x :: r => uptoBulkEntry x + uptoBulkEntries r
def uptoBulkEntry {H : Type} : Lit × DataW H → Nat
  | (.string bytes, d) => bytes.length + uptoBulk d + 1
  | (_, d) => uptoBulk d + 1
 end
def uptoSmall : (H : Type) → List (DataW H) → Bool := fun _ ds => decide (uptoBulkAll ds ≤ 1048576)
def OpenSpec.upto (s : _root_.Go.ChangeSpec) : _root_.Go.OpenSpec := { _root_.Go.OpenSpec.ofChange s with cond := some uptoSmall }

/-- 'sluicelaw.Orders', WHERE WHAT IT READS IS OF BULK AT MOST 1048576: true; the input reads as it did. -/
def ordersUptoRow : OpenClaim := { program := "ytcnbifdlkalimaa", sum := "57c375fe0e92545b639ef0ac5a633064fefc5a1db97c603888972dc84fbf3d9f", func := "sluice/sluicelaw.Orders", spec := "orders", apart := false, narrowed := true }
def OrdersUptoSaid : Prop := ordersUptoRow.holds Try.pinned (OpenSpec.upto ordersSpec)

/-- 'sluicelaw.Scans', WHERE WHAT IT READS IS OF BULK AT MOST 1048576: true; the input reads as it did. -/
def scansUptoRow : OpenClaim := { program := "ytcnbifdlkalimaa", sum := "57c375fe0e92545b639ef0ac5a633064fefc5a1db97c603888972dc84fbf3d9f", func := "sluice/sluicelaw.Scans", spec := "scans", apart := false, narrowed := true }
def ScansUptoSaid : Prop := scansUptoRow.holds Try.pinned (OpenSpec.upto scansSpec)

/-- 'sluicekeep.Lattice', WHERE WHAT IT READS IS OF BULK AT MOST 1048576: true; the input reads as it did. -/
def latticeUptoRow : OpenClaim := { program := "ytcnbifdlkalimaa", sum := "57c375fe0e92545b639ef0ac5a633064fefc5a1db97c603888972dc84fbf3d9f", func := "sluice/sluicekeep.Lattice", spec := "lattice", apart := false, narrowed := true }
def LatticeUptoSaid : Prop := latticeUptoRow.holds Try.pinned (OpenSpec.upto latticeSpec)

/-- 'sluicekeep.Known', WHERE WHAT IT READS IS OF BULK AT MOST 1048576: true; the input reads as it did. -/
def knownUptoRow : OpenClaim := { program := "ytcnbifdlkalimaa", sum := "57c375fe0e92545b639ef0ac5a633064fefc5a1db97c603888972dc84fbf3d9f", func := "sluice/sluicekeep.Known", spec := "known", recurses := true, apart := false, narrowed := true }
def KnownUptoSaid : Prop := knownUptoRow.holds Try.pinned (OpenSpec.upto knownSpec)

/-- 'sluicekeep.Secret', WHERE WHAT IT READS IS OF BULK AT MOST 1048576: true; the input reads as it did. -/
def secretUptoRow : OpenClaim := { program := "ytcnbifdlkalimaa", sum := "57c375fe0e92545b639ef0ac5a633064fefc5a1db97c603888972dc84fbf3d9f", func := "sluice/sluicekeep.Secret", spec := "secret", recurses := true, apart := false, narrowed := true }
def SecretUptoSaid : Prop := secretUptoRow.holds Try.pinned (OpenSpec.upto secretSpec)

/-- 'sluicekeep.Longer', WHERE WHAT IT READS IS OF BULK AT MOST 1048576: true; the input reads as it did. -/
def longerUptoRow : OpenClaim := { program := "ytcnbifdlkalimaa", sum := "57c375fe0e92545b639ef0ac5a633064fefc5a1db97c603888972dc84fbf3d9f", func := "sluice/sluicekeep.Longer", spec := "longer", recurses := true, apart := false, narrowed := true }
def LongerUptoSaid : Prop := longerUptoRow.holds Try.pinned (OpenSpec.upto longerSpec)

/-- 'sluicekeep.Padded', WHERE WHAT IT READS IS OF BULK AT MOST 1048576: true; the input reads as it did. -/
def paddedUptoRow : OpenClaim := { program := "ytcnbifdlkalimaa", sum := "57c375fe0e92545b639ef0ac5a633064fefc5a1db97c603888972dc84fbf3d9f", func := "sluice/sluicekeep.Padded", spec := "padded", recurses := true, apart := false, narrowed := true }
def PaddedUptoSaid : Prop := paddedUptoRow.holds Try.pinned (OpenSpec.upto paddedSpec)

/-- 'sluicekeep.Renamed', WHERE WHAT IT READS IS OF BULK AT MOST 1048576: true; the input reads as it did. -/
def renamedUptoRow : OpenClaim := { program := "ytcnbifdlkalimaa", sum := "57c375fe0e92545b639ef0ac5a633064fefc5a1db97c603888972dc84fbf3d9f", func := "sluice/sluicekeep.Renamed", spec := "renamed", recurses := true, apart := false, narrowed := true }
def RenamedUptoSaid : Prop := renamedUptoRow.holds Try.pinned (OpenSpec.upto renamedSpec)

/-- 'sluicelaw.Translates', WHERE WHAT IT READS IS OF BULK AT MOST 1048576: true; the input reads as it did. -/
def translatesUptoRow : OpenClaim := { program := "ytcnbifdlkalimaa", sum := "57c375fe0e92545b639ef0ac5a633064fefc5a1db97c603888972dc84fbf3d9f", func := "sluice/sluicelaw.Translates", spec := "translates", recurses := true, apart := false, narrowed := true }
def TranslatesUptoSaid : Prop := translatesUptoRow.holds Try.pinned (OpenSpec.upto translatesSpec)

end Rows
end Go.Proofs.Ytcnbifdlkalimaa
