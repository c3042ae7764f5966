/-
  No cell of these rows narrows 'for every input' (looked for: loops, veiled, ifaces, maps, wideKeys, modest, calm, conditions, laid).
  DERIVED. THE GIVEN ROWS OF THIS SEAT. 5 by the template 'for every input the law returns true; each argument reads behind the call as it read before'; 0 by the template 'total and deterministic' (their statements: YtnghhhlcifpiaaaTotals.lean).
  GIVEN WITH THE SEED: the statements are not yours to turn. If you find one false, say at which input.
  Laid BY PROGRAM, IN A SANDBOX (cutbox-rows.mjs): the forced cells as the released guide's own fill.sh prints them over the translation 107226ee0333b9ad… (all of the seat's roots in one cut). By AI agents, Wed Nov 11 2026. No macro, syntax, notation, axiom, sorry.
-/
import Derived.Test.YtnghhhlcifpiaaaChecked
import GoSem.Claim
import GoSem.ClaimJoined
import GoSem.ClaimMapViews
import Derived.JoinedTies
import Derived.KernelRfl
namespace Go.Proofs.Ytnghhhlcifpiaaa
/- THE CELL 'sum', in the pinned program and in every row, IS THE sha256 OF THE DUMP (.gsa) THAT YtnghhhlcifpiaaaProg.lean LOADS. Nothing in Lean hashes anything: it is a label: what it is worth is what the hold of that sum in a sandbox is worth. -/
noncomputable def Try.pinned : Pinned := { name := "ytnghhhlcifpiaaa", sum := "107226ee0333b9ad7de5cbe11b8ecd7ebdef66c39e4d9ae1520bc8cba7e51ff2", checked := Try.checked }
namespace Rows
def none {H : Type} : Left H := { results := [], args := [] }

/-- 'ostlerlaw.ShapeMachines': WHATEVER THE INPUT: true; the input reads as it did. -/
def shapeMachinesSpec : ChangeSpec := { name := "shapeMachines", fn := fun _ => fun
  | [d] => { results := [.lit (.bool true)], args := [d] }
  | _ => none }
def shapeMachinesRow : OpenClaim := { program := "ytnghhhlcifpiaaa", sum := "107226ee0333b9ad7de5cbe11b8ecd7ebdef66c39e4d9ae1520bc8cba7e51ff2", func := "ostler/ostlerlaw.ShapeMachines", spec := "shapeMachines", apart := false }
def ShapeMachinesSaid : Prop := shapeMachinesRow.holds Try.pinned (OpenSpec.ofChange shapeMachinesSpec)

/-- ITS FALSE NEIGHBOUR: 'it returns false'. Refute it at one input. -/
def shapeMachinesWrong : ChangeSpec := { name := "shapeMachines", fn := fun _ => fun
  | [d] => { results := [.lit (.bool false)], args := [d] }
  | _ => none }
def ShapeMachinesWrongFalsely : Prop := shapeMachinesRow.holds Try.pinned (OpenSpec.ofChange shapeMachinesWrong)

/-- 'ostlerlaw.ShapeChecks': WHATEVER THE INPUT: true; the input reads as it did. -/
def shapeChecksSpec : ChangeSpec := { name := "shapeChecks", fn := fun _ => fun
  | [d1, d2] => { results := [.lit (.bool true)], args := [d1, d2] }
  | _ => none }
def shapeChecksRow : OpenClaim := { program := "ytnghhhlcifpiaaa", sum := "107226ee0333b9ad7de5cbe11b8ecd7ebdef66c39e4d9ae1520bc8cba7e51ff2", func := "ostler/ostlerlaw.ShapeChecks", spec := "shapeChecks", unfollowed := true, recurses := true, apart := false }
def ShapeChecksSaid : Prop := shapeChecksRow.holds Try.pinned (OpenSpec.ofChange shapeChecksSpec)

/-- ITS FALSE NEIGHBOUR: 'it returns false'. Refute it at one input. -/
def shapeChecksWrong : ChangeSpec := { name := "shapeChecks", fn := fun _ => fun
  | [d1, d2] => { results := [.lit (.bool false)], args := [d1, d2] }
  | _ => none }
def ShapeChecksWrongFalsely : Prop := shapeChecksRow.holds Try.pinned (OpenSpec.ofChange shapeChecksWrong)

/-- 'ostlerkeep.MachineBad': WHATEVER THE INPUT: true; the input reads as it did. -/
def machineBadSpec : ChangeSpec := { name := "machineBad", fn := fun _ => fun
  | [d1, d2] => { results := [.lit (.bool true)], args := [d1, d2] }
  | _ => none }
def machineBadRow : OpenClaim := { program := "ytnghhhlcifpiaaa", sum := "107226ee0333b9ad7de5cbe11b8ecd7ebdef66c39e4d9ae1520bc8cba7e51ff2", func := "ostler/ostlerkeep.MachineBad", spec := "machineBad", apart := false }
def MachineBadSaid : Prop := machineBadRow.holds Try.pinned (OpenSpec.ofChange machineBadSpec)

/-- ITS FALSE NEIGHBOUR: 'it returns false'. Refute it at one input. -/
def machineBadWrong : ChangeSpec := { name := "machineBad", fn := fun _ => fun
  | [d1, d2] => { results := [.lit (.bool false)], args := [d1, d2] }
  | _ => none }
def MachineBadWrongFalsely : Prop := machineBadRow.holds Try.pinned (OpenSpec.ofChange machineBadWrong)

/-- 'ostlerkeep.ShapeGood': WHATEVER THE INPUT: true; the input reads as it did. -/
def shapeGoodSpec : ChangeSpec := { name := "shapeGood", fn := fun _ => fun
  | [d1, d2, d3] => { results := [.lit (.bool true)], args := [d1, d2, d3] }
  | _ => none }
def shapeGoodRow : OpenClaim := { program := "ytnghhhlcifpiaaa", sum := "107226ee0333b9ad7de5cbe11b8ecd7ebdef66c39e4d9ae1520bc8cba7e51ff2", func := "ostler/ostlerkeep.ShapeGood", spec := "shapeGood", unfollowed := true, recurses := true, apart := false }
def ShapeGoodSaid : Prop := shapeGoodRow.holds Try.pinned (OpenSpec.ofChange shapeGoodSpec)

/-- ITS FALSE NEIGHBOUR: 'it returns false'. Refute it at one input. -/
def shapeGoodWrong : ChangeSpec := { name := "shapeGood", fn := fun _ => fun
  | [d1, d2, d3] => { results := [.lit (.bool false)], args := [d1, d2, d3] }
  | _ => none }
def ShapeGoodWrongFalsely : Prop := shapeGoodRow.holds Try.pinned (OpenSpec.ofChange shapeGoodWrong)

/-- 'ostlerkeep.ShapeTwice': WHATEVER THE INPUT: true; the input reads as it did. -/
def shapeTwiceSpec : ChangeSpec := { name := "shapeTwice", fn := fun _ => fun
  | [d1, d2, d3, d4] => { results := [.lit (.bool true)], args := [d1, d2, d3, d4] }
  | _ => none }
def shapeTwiceRow : OpenClaim := { program := "ytnghhhlcifpiaaa", sum := "107226ee0333b9ad7de5cbe11b8ecd7ebdef66c39e4d9ae1520bc8cba7e51ff2", func := "ostler/ostlerkeep.ShapeTwice", spec := "shapeTwice", unfollowed := true, recurses := true, apart := false }
def ShapeTwiceSaid : Prop := shapeTwiceRow.holds Try.pinned (OpenSpec.ofChange shapeTwiceSpec)

/-- ITS FALSE NEIGHBOUR: 'it returns false'. Refute it at one input. -/
def shapeTwiceWrong : ChangeSpec := { name := "shapeTwice", fn := fun _ => fun
  | [d1, d2, d3, d4] => { results := [.lit (.bool false)], args := [d1, d2, d3, d4] }
  | _ => none }
def ShapeTwiceWrongFalsely : Prop := shapeTwiceRow.holds Try.pinned (OpenSpec.ofChange shapeTwiceWrong)

/- THE SECOND FORM. 'bulk': how many values and letters a reading holds, each counted each time it is reached (what is shared counts as often as it is met; a slice's spare places count too). A statement '..UptoSaid' is the law's where the arguments, and the package variables that the reading takes, are together of bulk at most 1048576: NARROWER than '..Said'. Prove '..Said' where nothing that the law and all that it calls make is longer than what came in: it says more and counts as full. Else prove '..UptoSaid'. A law counts once. -/
mutual
def uptoBulk {H : Type} : DataW H → Nat
  | .lit (.string bytes) => bytes.length + 1
  | .lit _ => 1
  | .nil => 1
  | .ptr d => uptoBulk d + 1
  | .slice elems spare => uptoBulkAll elems + uptoBulkAll spare + 1
  | .agg parts => uptoBulkAll parts + 1
  | .iface _ d => uptoBulk d + 1
  | .map entries => uptoBulkEntries entries + 1
  | .held _ => 1
def uptoBulkAll {H : Type} : List (DataW H) → Nat
  | [] => 0
  | d :: r => uptoBulk d + uptoBulkAll r
def uptoBulkEntries {H : Type} : List (Lit × DataW H) → Nat
  | [] => 0
  | x :: r => uptoBulkEntry x + uptoBulkEntries r
def uptoBulkEntry {H : Type} : Lit × DataW H → Nat
  | (.string bytes, d) => bytes.length + uptoBulk d + 1
  | (_, d) => uptoBulk d + 1
 end
def uptoSmall : (H : Type) → List (DataW H) → Bool := fun _ ds => decide (uptoBulkAll ds ≤ 1048576)
def OpenSpec.upto (s : _root_.Go.ChangeSpec) : _root_.Go.OpenSpec := { _root_.Go.OpenSpec.ofChange s with cond := some uptoSmall }

/-- 'ostlerlaw.ShapeMachines', WHERE WHAT IT READS IS OF BULK AT MOST 1048576: true; the input reads as it did. -/
def shapeMachinesUptoRow : OpenClaim := { program := "ytnghhhlcifpiaaa", sum := "107226ee0333b9ad7de5cbe11b8ecd7ebdef66c39e4d9ae1520bc8cba7e51ff2", func := "ostler/ostlerlaw.ShapeMachines", spec := "shapeMachines", apart := false, narrowed := true }
def ShapeMachinesUptoSaid : Prop := shapeMachinesUptoRow.holds Try.pinned (OpenSpec.upto shapeMachinesSpec)

/-- 'ostlerlaw.ShapeChecks', WHERE WHAT IT READS IS OF BULK AT MOST 1048576: true; the input reads as it did. -/
def shapeChecksUptoRow : OpenClaim := { program := "ytnghhhlcifpiaaa", sum := "107226ee0333b9ad7de5cbe11b8ecd7ebdef66c39e4d9ae1520bc8cba7e51ff2", func := "ostler/ostlerlaw.ShapeChecks", spec := "shapeChecks", unfollowed := true, recurses := true, apart := false, narrowed := true }
def ShapeChecksUptoSaid : Prop := shapeChecksUptoRow.holds Try.pinned (OpenSpec.upto shapeChecksSpec)

/-- 'ostlerkeep.MachineBad', WHERE WHAT IT READS IS OF BULK AT MOST 1048576: true; the input reads as it did. -/
def machineBadUptoRow : OpenClaim := { program := "ytnghhhlcifpiaaa", sum := "107226ee0333b9ad7de5cbe11b8ecd7ebdef66c39e4d9ae1520bc8cba7e51ff2", func := "ostler/ostlerkeep.MachineBad", spec := "machineBad", apart := false, narrowed := true }
def MachineBadUptoSaid : Prop := machineBadUptoRow.holds Try.pinned (OpenSpec.upto machineBadSpec)

/-- 'ostlerkeep.ShapeGood', WHERE WHAT IT READS IS OF BULK AT MOST 1048576: true; the input reads as it did. -/
def shapeGoodUptoRow : OpenClaim := { program := "ytnghhhlcifpiaaa", sum := "107226ee0333b9ad7de5cbe11b8ecd7ebdef66c39e4d9ae1520bc8cba7e51ff2", func := "ostler/ostlerkeep.ShapeGood", spec := "shapeGood", unfollowed := true, recurses := true, apart := false, narrowed := true }
def ShapeGoodUptoSaid : Prop := shapeGoodUptoRow.holds Try.pinned (OpenSpec.upto shapeGoodSpec)

/-- 'ostlerkeep.ShapeTwice', WHERE WHAT IT READS IS OF BULK AT MOST 1048576: true; the input reads as it did. -/
def shapeTwiceUptoRow : OpenClaim := { program := "ytnghhhlcifpiaaa", sum := "107226ee0333b9ad7de5cbe11b8ecd7ebdef66c39e4d9ae1520bc8cba7e51ff2", func := "ostler/ostlerkeep.ShapeTwice", spec := "shapeTwice", unfollowed := true, recurses := true, apart := false, narrowed := true }
def ShapeTwiceUptoSaid : Prop := shapeTwiceUptoRow.holds Try.pinned (OpenSpec.upto shapeTwiceSpec)

end Rows
end Go.Proofs.Ytnghhhlcifpiaaa
