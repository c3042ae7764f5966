/-
  No cell of these rows narrows 'for every input' (looked for: loops, veiled, ifaces, maps, wideKeys, modest, calm, conditions, laid).
  DERIVED. THE GIVEN ROWS OF THIS SEAT. 4 by the template 'for every input the law returns true; each argument reads behind the call as it read before'; 0 by the template 'total and deterministic' (their statements: YtanhfkpphdbaaabTotals.lean).
  GIVEN WITH THE SEED: the statements are not yours to turn. If you find one false, say at which input.
  Laid BY PROGRAM, IN A SANDBOX (cutbox-rows.mjs): the forced cells as the released guide's own fill.sh prints them over the translation 3eb7ba60324b8e4f… (all of the seat's roots in one cut). By AI agents, Wed Nov 11 2026. No macro, syntax, notation, axiom, sorry.
-/
import Derived.Test.YtanhfkpphdbaaabChecked
import GoSem.Claim
import GoSem.ClaimJoined
import GoSem.ClaimMapViews
import Derived.JoinedTies
import Derived.KernelRfl
namespace Go.Proofs.Ytanhfkpphdbaaab
/- THE CELL 'sum', in the pinned program and in every row, IS THE sha256 OF THE DUMP (.gsa) THAT YtanhfkpphdbaaabProg.lean LOADS. Nothing in Lean hashes anything: it is a label: what it is worth is what the hold of that sum in a sandbox is worth. -/
noncomputable def Try.pinned : Pinned := { name := "ytanhfkpphdbaaab", sum := "3eb7ba60324b8e4ffa956519930a9a315a6e6e906b6f53756094f22f6c2b2362", checked := Try.checked }
namespace Rows
def none {H : Type} : Left H := { results := [], args := [] }

/-- 'ostlerkeep.IdomAbove': WHATEVER THE INPUT: true; the input reads as it did. -/
def idomAboveSpec : ChangeSpec := { name := "idomAbove", fn := fun _ => fun
  | [d1, d2, d3] => { results := [.lit (.bool true)], args := [d1, d2, d3] }
  | _ => none }
def idomAboveRow : OpenClaim := { program := "ytanhfkpphdbaaab", sum := "3eb7ba60324b8e4ffa956519930a9a315a6e6e906b6f53756094f22f6c2b2362", func := "ostler/ostlerkeep.IdomAbove", spec := "idomAbove", unfollowed := true, recurses := true, apart := false }
def IdomAboveSaid : Prop := idomAboveRow.holds Try.pinned (OpenSpec.ofChange idomAboveSpec)

/-- ITS FALSE NEIGHBOUR: 'it returns false'. Refute it at one input. -/
def idomAboveWrong : ChangeSpec := { name := "idomAbove", fn := fun _ => fun
  | [d1, d2, d3] => { results := [.lit (.bool false)], args := [d1, d2, d3] }
  | _ => none }
def IdomAboveWrongFalsely : Prop := idomAboveRow.holds Try.pinned (OpenSpec.ofChange idomAboveWrong)

/-- 'ostlerkeep.IdomEdges': WHATEVER THE INPUT: true; the input reads as it did. -/
def idomEdgesSpec : ChangeSpec := { name := "idomEdges", fn := fun _ => fun
  | [d1, d2, d3] => { results := [.lit (.bool true)], args := [d1, d2, d3] }
  | _ => none }
def idomEdgesRow : OpenClaim := { program := "ytanhfkpphdbaaab", sum := "3eb7ba60324b8e4ffa956519930a9a315a6e6e906b6f53756094f22f6c2b2362", func := "ostler/ostlerkeep.IdomEdges", spec := "idomEdges", unfollowed := true, recurses := true, apart := false }
def IdomEdgesSaid : Prop := idomEdgesRow.holds Try.pinned (OpenSpec.ofChange idomEdgesSpec)

/-- ITS FALSE NEIGHBOUR: 'it returns false'. Refute it at one input. -/
def idomEdgesWrong : ChangeSpec := { name := "idomEdges", fn := fun _ => fun
  | [d1, d2, d3] => { results := [.lit (.bool false)], args := [d1, d2, d3] }
  | _ => none }
def IdomEdgesWrongFalsely : Prop := idomEdgesRow.holds Try.pinned (OpenSpec.ofChange idomEdgesWrong)

/-- 'ostlerkeep.OrderAll': WHATEVER THE INPUT: true; the input reads as it did. -/
def orderAllSpec : ChangeSpec := { name := "orderAll", fn := fun _ => fun
  | [d1, d2, d3] => { results := [.lit (.bool true)], args := [d1, d2, d3] }
  | _ => none }
def orderAllRow : OpenClaim := { program := "ytanhfkpphdbaaab", sum := "3eb7ba60324b8e4ffa956519930a9a315a6e6e906b6f53756094f22f6c2b2362", func := "ostler/ostlerkeep.OrderAll", spec := "orderAll", unfollowed := true, recurses := true, apart := false }
def OrderAllSaid : Prop := orderAllRow.holds Try.pinned (OpenSpec.ofChange orderAllSpec)

/-- ITS FALSE NEIGHBOUR: 'it returns false'. Refute it at one input. -/
def orderAllWrong : ChangeSpec := { name := "orderAll", fn := fun _ => fun
  | [d1, d2, d3] => { results := [.lit (.bool false)], args := [d1, d2, d3] }
  | _ => none }
def OrderAllWrongFalsely : Prop := orderAllRow.holds Try.pinned (OpenSpec.ofChange orderAllWrong)

/-- 'ostlerkeep.DepthLoops': WHATEVER THE INPUT: true; the input reads as it did. -/
def depthLoopsSpec : ChangeSpec := { name := "depthLoops", fn := fun _ => fun
  | [d1, d2, d3] => { results := [.lit (.bool true)], args := [d1, d2, d3] }
  | _ => none }
def depthLoopsRow : OpenClaim := { program := "ytanhfkpphdbaaab", sum := "3eb7ba60324b8e4ffa956519930a9a315a6e6e906b6f53756094f22f6c2b2362", func := "ostler/ostlerkeep.DepthLoops", spec := "depthLoops", unfollowed := true, recurses := true, apart := false }
def DepthLoopsSaid : Prop := depthLoopsRow.holds Try.pinned (OpenSpec.ofChange depthLoopsSpec)

/-- ITS FALSE NEIGHBOUR: 'it returns false'. Refute it at one input. -/
def depthLoopsWrong : ChangeSpec := { name := "depthLoops", fn := fun _ => fun
  | [d1, d2, d3] => { results := [.lit (.bool false)], args := [d1, d2, d3] }
  | _ => none }
def DepthLoopsWrongFalsely : Prop := depthLoopsRow.holds Try.pinned (OpenSpec.ofChange depthLoopsWrong)

/- THE SECOND FORM. 'bulk': how many values and letters a reading holds, each counted each time it is reached (what is shared counts as often as it is met; a slice's spare places count too). A statement '..UptoSaid' is the law's where the arguments, and the package variables that the reading takes, are together of bulk at most 1048576: NARROWER than '..Said'. Prove '..Said' where nothing that the law and all that it calls make is longer than what came in: it says more and counts as full. Else prove '..UptoSaid'. A law counts once. -/
mutual
def uptoBulk {H : Type} : DataW H → Nat
  | .lit (.string bytes) => bytes.length + 1
  | .lit _ => 1
  | .nil => 1
  | .ptr d => uptoBulk d + 1
  | .slice elems spare => uptoBulkAll elems + uptoBulkAll spare + 1
  | .agg parts => uptoBulkAll parts + 1
  | .iface _ d => uptoBulk d + 1
  | .map entries => uptoBulkEntries entries + 1
  | .held _ => 1
def uptoBulkAll {H : Type} : List (DataW H) → Nat
  | [] => 0
  | d :: r => uptoBulk d + uptoBulkAll r
def uptoBulkEntries {H : Type} : List (Lit × DataW H) → Nat
  | [] => 0
  | x :: r => uptoBulkEntry x + uptoBulkEntries r
def uptoBulkEntry {H : Type} : Lit × DataW H → Nat
  | (.string bytes, d) => bytes.length + uptoBulk d + 1
  | (_, d) => uptoBulk d + 1
 end
def uptoSmall : (H : Type) → List (DataW H) → Bool := fun _ ds => decide (uptoBulkAll ds ≤ 1048576)
def OpenSpec.upto (s : _root_.Go.ChangeSpec) : _root_.Go.OpenSpec := { _root_.Go.OpenSpec.ofChange s with cond := some uptoSmall }

/-- 'ostlerkeep.IdomAbove', WHERE WHAT IT READS IS OF BULK AT MOST 1048576: true; the input reads as it did. -/
def idomAboveUptoRow : OpenClaim := { program := "ytanhfkpphdbaaab", sum := "3eb7ba60324b8e4ffa956519930a9a315a6e6e906b6f53756094f22f6c2b2362", func := "ostler/ostlerkeep.IdomAbove", spec := "idomAbove", unfollowed := true, recurses := true, apart := false, narrowed := true }
def IdomAboveUptoSaid : Prop := idomAboveUptoRow.holds Try.pinned (OpenSpec.upto idomAboveSpec)

/-- 'ostlerkeep.IdomEdges', WHERE WHAT IT READS IS OF BULK AT MOST 1048576: true; the input reads as it did. -/
def idomEdgesUptoRow : OpenClaim := { program := "ytanhfkpphdbaaab", sum := "3eb7ba60324b8e4ffa956519930a9a315a6e6e906b6f53756094f22f6c2b2362", func := "ostler/ostlerkeep.IdomEdges", spec := "idomEdges", unfollowed := true, recurses := true, apart := false, narrowed := true }
def IdomEdgesUptoSaid : Prop := idomEdgesUptoRow.holds Try.pinned (OpenSpec.upto idomEdgesSpec)

/-- 'ostlerkeep.OrderAll', WHERE WHAT IT READS IS OF BULK AT MOST 1048576: true; the input reads as it did. -/
def orderAllUptoRow : OpenClaim := { program := "ytanhfkpphdbaaab", sum := "3eb7ba60324b8e4ffa956519930a9a315a6e6e906b6f53756094f22f6c2b2362", func := "ostler/ostlerkeep.OrderAll", spec := "orderAll", unfollowed := true, recurses := true, apart := false, narrowed := true }
def OrderAllUptoSaid : Prop := orderAllUptoRow.holds Try.pinned (OpenSpec.upto orderAllSpec)

/-- 'ostlerkeep.DepthLoops', WHERE WHAT IT READS IS OF BULK AT MOST 1048576: true; the input reads as it did. -/
def depthLoopsUptoRow : OpenClaim := { program := "ytanhfkpphdbaaab", sum := "3eb7ba60324b8e4ffa956519930a9a315a6e6e906b6f53756094f22f6c2b2362", func := "ostler/ostlerkeep.DepthLoops", spec := "depthLoops", unfollowed := true, recurses := true, apart := false, narrowed := true }
def DepthLoopsUptoSaid : Prop := depthLoopsUptoRow.holds Try.pinned (OpenSpec.upto depthLoopsSpec)

end Rows
end Go.Proofs.Ytanhfkpphdbaaab
