/-
  No cell of these rows narrows 'for every input' (looked for: loops, veiled, ifaces, maps, wideKeys, modest, calm, conditions, laid).
  DERIVED. THE GIVEN ROWS OF THIS SEAT. 6 by the template 'for every input the law returns true; each argument reads behind the call as it read before'; 0 by the template 'total and deterministic' (their statements: YtanhfkpphdbaaaaTotals.lean).
  GIVEN WITH THE SEED: the statements are not yours to turn. If you find one false, say at which input.
  Laid BY PROGRAM, IN A SANDBOX (cutbox-rows.mjs): the forced cells as the released guide's own fill.sh prints them over the translation a573dde1d4712afa… (all of the seat's roots in one cut). By AI agents, Wed Nov 11 2026. No macro, syntax, notation, axiom, sorry.
-/
import Derived.Test.YtanhfkpphdbaaaaChecked
import GoSem.Claim
import GoSem.ClaimJoined
import GoSem.ClaimMapViews
import Derived.JoinedTies
import Derived.KernelRfl
namespace Go.Proofs.Ytanhfkpphdbaaaa
/- THE CELL 'sum', in the pinned program and in every row, IS THE sha256 OF THE DUMP (.gsa) THAT YtanhfkpphdbaaaaProg.lean LOADS. Nothing in Lean hashes anything: it is a label: what it is worth is what the hold of that sum in a sandbox is worth. -/
noncomputable def Try.pinned : Pinned := { name := "ytanhfkpphdbaaaa", sum := "a573dde1d4712afa543e46993bbc8b860ce693744bd3dd8d9b8a6c0026279b77", checked := Try.checked }
namespace Rows
def none {H : Type} : Left H := { results := [], args := [] }

/-- 'ostlerkeep.ShapeGood': WHATEVER THE INPUT: true; the input reads as it did. -/
def shapeGoodSpec : ChangeSpec := { name := "shapeGood", fn := fun _ => fun
  | [d1, d2, d3] => { results := [.lit (.bool true)], args := [d1, d2, d3] }
  | _ => none }
def shapeGoodRow : OpenClaim := { program := "ytanhfkpphdbaaaa", sum := "a573dde1d4712afa543e46993bbc8b860ce693744bd3dd8d9b8a6c0026279b77", func := "ostler/ostlerkeep.ShapeGood", spec := "shapeGood", unfollowed := true, recurses := true, apart := false }
def ShapeGoodSaid : Prop := shapeGoodRow.holds Try.pinned (OpenSpec.ofChange shapeGoodSpec)

/-- ITS FALSE NEIGHBOUR: 'it returns false'. Refute it at one input. -/
def shapeGoodWrong : ChangeSpec := { name := "shapeGood", fn := fun _ => fun
  | [d1, d2, d3] => { results := [.lit (.bool false)], args := [d1, d2, d3] }
  | _ => none }
def ShapeGoodWrongFalsely : Prop := shapeGoodRow.holds Try.pinned (OpenSpec.ofChange shapeGoodWrong)

/-- 'ostlerkeep.ShapeTwice': WHATEVER THE INPUT: true; the input reads as it did. -/
def shapeTwiceSpec : ChangeSpec := { name := "shapeTwice", fn := fun _ => fun
  | [d1, d2, d3, d4] => { results := [.lit (.bool true)], args := [d1, d2, d3, d4] }
  | _ => none }
def shapeTwiceRow : OpenClaim := { program := "ytanhfkpphdbaaaa", sum := "a573dde1d4712afa543e46993bbc8b860ce693744bd3dd8d9b8a6c0026279b77", func := "ostler/ostlerkeep.ShapeTwice", spec := "shapeTwice", unfollowed := true, recurses := true, apart := false }
def ShapeTwiceSaid : Prop := shapeTwiceRow.holds Try.pinned (OpenSpec.ofChange shapeTwiceSpec)

/-- ITS FALSE NEIGHBOUR: 'it returns false'. Refute it at one input. -/
def shapeTwiceWrong : ChangeSpec := { name := "shapeTwice", fn := fun _ => fun
  | [d1, d2, d3, d4] => { results := [.lit (.bool false)], args := [d1, d2, d3, d4] }
  | _ => none }
def ShapeTwiceWrongFalsely : Prop := shapeTwiceRow.holds Try.pinned (OpenSpec.ofChange shapeTwiceWrong)

/-- 'ostlerkeep.FlowGood': WHATEVER THE INPUT: true; the input reads as it did. -/
def flowGoodSpec : ChangeSpec := { name := "flowGood", fn := fun _ => fun
  | [d1, d2, d3] => { results := [.lit (.bool true)], args := [d1, d2, d3] }
  | _ => none }
def flowGoodRow : OpenClaim := { program := "ytanhfkpphdbaaaa", sum := "a573dde1d4712afa543e46993bbc8b860ce693744bd3dd8d9b8a6c0026279b77", func := "ostler/ostlerkeep.FlowGood", spec := "flowGood", unfollowed := true, recurses := true, apart := false }
def FlowGoodSaid : Prop := flowGoodRow.holds Try.pinned (OpenSpec.ofChange flowGoodSpec)

/-- ITS FALSE NEIGHBOUR: 'it returns false'. Refute it at one input. -/
def flowGoodWrong : ChangeSpec := { name := "flowGood", fn := fun _ => fun
  | [d1, d2, d3] => { results := [.lit (.bool false)], args := [d1, d2, d3] }
  | _ => none }
def FlowGoodWrongFalsely : Prop := flowGoodRow.holds Try.pinned (OpenSpec.ofChange flowGoodWrong)

/-- 'ostlerkeep.DeadTold': WHATEVER THE INPUT: true; the input reads as it did. -/
def deadToldSpec : ChangeSpec := { name := "deadTold", fn := fun _ => fun
  | [d1, d2, d3] => { results := [.lit (.bool true)], args := [d1, d2, d3] }
  | _ => none }
def deadToldRow : OpenClaim := { program := "ytanhfkpphdbaaaa", sum := "a573dde1d4712afa543e46993bbc8b860ce693744bd3dd8d9b8a6c0026279b77", func := "ostler/ostlerkeep.DeadTold", spec := "deadTold", unfollowed := true, recurses := true, apart := false }
def DeadToldSaid : Prop := deadToldRow.holds Try.pinned (OpenSpec.ofChange deadToldSpec)

/-- ITS FALSE NEIGHBOUR: 'it returns false'. Refute it at one input. -/
def deadToldWrong : ChangeSpec := { name := "deadTold", fn := fun _ => fun
  | [d1, d2, d3] => { results := [.lit (.bool false)], args := [d1, d2, d3] }
  | _ => none }
def DeadToldWrongFalsely : Prop := deadToldRow.holds Try.pinned (OpenSpec.ofChange deadToldWrong)

/-- 'ostlerkeep.EdgeTold': WHATEVER THE INPUT: true; the input reads as it did. -/
def edgeToldSpec : ChangeSpec := { name := "edgeTold", fn := fun _ => fun
  | [d1, d2, d3] => { results := [.lit (.bool true)], args := [d1, d2, d3] }
  | _ => none }
def edgeToldRow : OpenClaim := { program := "ytanhfkpphdbaaaa", sum := "a573dde1d4712afa543e46993bbc8b860ce693744bd3dd8d9b8a6c0026279b77", func := "ostler/ostlerkeep.EdgeTold", spec := "edgeTold", unfollowed := true, recurses := true, apart := false }
def EdgeToldSaid : Prop := edgeToldRow.holds Try.pinned (OpenSpec.ofChange edgeToldSpec)

/-- ITS FALSE NEIGHBOUR: 'it returns false'. Refute it at one input. -/
def edgeToldWrong : ChangeSpec := { name := "edgeTold", fn := fun _ => fun
  | [d1, d2, d3] => { results := [.lit (.bool false)], args := [d1, d2, d3] }
  | _ => none }
def EdgeToldWrongFalsely : Prop := edgeToldRow.holds Try.pinned (OpenSpec.ofChange edgeToldWrong)

/-- 'ostlerkeep.UseTold': WHATEVER THE INPUT: true; the input reads as it did. -/
def useToldSpec : ChangeSpec := { name := "useTold", fn := fun _ => fun
  | [d1, d2, d3, d4] => { results := [.lit (.bool true)], args := [d1, d2, d3, d4] }
  | _ => none }
def useToldRow : OpenClaim := { program := "ytanhfkpphdbaaaa", sum := "a573dde1d4712afa543e46993bbc8b860ce693744bd3dd8d9b8a6c0026279b77", func := "ostler/ostlerkeep.UseTold", spec := "useTold", unfollowed := true, recurses := true, apart := false }
def UseToldSaid : Prop := useToldRow.holds Try.pinned (OpenSpec.ofChange useToldSpec)

/-- ITS FALSE NEIGHBOUR: 'it returns false'. Refute it at one input. -/
def useToldWrong : ChangeSpec := { name := "useTold", fn := fun _ => fun
  | [d1, d2, d3, d4] => { results := [.lit (.bool false)], args := [d1, d2, d3, d4] }
  | _ => none }
def UseToldWrongFalsely : Prop := useToldRow.holds Try.pinned (OpenSpec.ofChange useToldWrong)

/- THE SECOND FORM. 'bulk': how many values and letters a reading holds, each counted each time it is reached (what is shared counts as often as it is met; a slice's spare places count too). A statement '..UptoSaid' is the law's where the arguments, and the package variables that the reading takes, are together of bulk at most 1048576: NARROWER than '..Said'. Prove '..Said' where nothing that the law and all that it calls make is longer than what came in: it says more and counts as full. Else prove '..UptoSaid'. A law counts once. -/
mutual
def uptoBulk {H : Type} : DataW H → Nat
  | .lit (.string bytes) => bytes.length + 1
  | .lit _ => 1
  | .nil => 1
  | .ptr d => uptoBulk d + 1
  | .slice elems spare => uptoBulkAll elems + uptoBulkAll spare + 1
  | .agg parts => uptoBulkAll parts + 1
  | .iface _ d => uptoBulk d + 1
  | .map entries => uptoBulkEntries entries + 1
  | .held _ => 1
def uptoBulkAll {H : Type} : List (DataW H) → Nat
  | [] => 0
  | d :: r => uptoBulk d + uptoBulkAll r
def uptoBulkEntries {H : Type} : List (Lit × DataW H) → Nat
  | [] => 0
  | x :: r => uptoBulkEntry x + uptoBulkEntries r
def uptoBulkEntry {H : Type} : Lit × DataW H → Nat
  | (.string bytes, d) => bytes.length + uptoBulk d + 1
  | (_, d) => uptoBulk d + 1
 end
def uptoSmall : (H : Type) → List (DataW H) → Bool := fun _ ds => decide (uptoBulkAll ds ≤ 1048576)
def OpenSpec.upto (s : _root_.Go.ChangeSpec) : _root_.Go.OpenSpec := { _root_.Go.OpenSpec.ofChange s with cond := some uptoSmall }

/-- 'ostlerkeep.ShapeGood', WHERE WHAT IT READS IS OF BULK AT MOST 1048576: true; the input reads as it did. -/
def shapeGoodUptoRow : OpenClaim := { program := "ytanhfkpphdbaaaa", sum := "a573dde1d4712afa543e46993bbc8b860ce693744bd3dd8d9b8a6c0026279b77", func := "ostler/ostlerkeep.ShapeGood", spec := "shapeGood", unfollowed := true, recurses := true, apart := false, narrowed := true }
def ShapeGoodUptoSaid : Prop := shapeGoodUptoRow.holds Try.pinned (OpenSpec.upto shapeGoodSpec)

/-- 'ostlerkeep.ShapeTwice', WHERE WHAT IT READS IS OF BULK AT MOST 1048576: true; the input reads as it did. -/
def shapeTwiceUptoRow : OpenClaim := { program := "ytanhfkpphdbaaaa", sum := "a573dde1d4712afa543e46993bbc8b860ce693744bd3dd8d9b8a6c0026279b77", func := "ostler/ostlerkeep.ShapeTwice", spec := "shapeTwice", unfollowed := true, recurses := true, apart := false, narrowed := true }
def ShapeTwiceUptoSaid : Prop := shapeTwiceUptoRow.holds Try.pinned (OpenSpec.upto shapeTwiceSpec)

/-- 'ostlerkeep.FlowGood', WHERE WHAT IT READS IS OF BULK AT MOST 1048576: true; the input reads as it did. -/
def flowGoodUptoRow : OpenClaim := { program := "ytanhfkpphdbaaaa", sum := "a573dde1d4712afa543e46993bbc8b860ce693744bd3dd8d9b8a6c0026279b77", func := "ostler/ostlerkeep.FlowGood", spec := "flowGood", unfollowed := true, recurses := true, apart := false, narrowed := true }
def FlowGoodUptoSaid : Prop := flowGoodUptoRow.holds Try.pinned (OpenSpec.upto flowGoodSpec)

/-- 'ostlerkeep.DeadTold', WHERE WHAT IT READS IS OF BULK AT MOST 1048576: true; the input reads as it did. -/
def deadToldUptoRow : OpenClaim := { program := "ytanhfkpphdbaaaa", sum := "a573dde1d4712afa543e46993bbc8b860ce693744bd3dd8d9b8a6c0026279b77", func := "ostler/ostlerkeep.DeadTold", spec := "deadTold", unfollowed := true, recurses := true, apart := false, narrowed := true }
def DeadToldUptoSaid : Prop := deadToldUptoRow.holds Try.pinned (OpenSpec.upto deadToldSpec)

/-- 'ostlerkeep.EdgeTold', WHERE WHAT IT READS IS OF BULK AT MOST 1048576: true; the input reads as it did. -/
def edgeToldUptoRow : OpenClaim := { program := "ytanhfkpphdbaaaa", sum := "a573dde1d4712afa543e46993bbc8b860ce693744bd3dd8d9b8a6c0026279b77", func := "ostler/ostlerkeep.EdgeTold", spec := "edgeTold", unfollowed := true, recurses := true, apart := false, narrowed := true }
def EdgeToldUptoSaid : Prop := edgeToldUptoRow.holds Try.pinned (OpenSpec.upto edgeToldSpec)

/-- 'ostlerkeep.UseTold', WHERE WHAT IT READS IS OF BULK AT MOST 1048576: true; the input reads as it did. -/
def useToldUptoRow : OpenClaim := { program := "ytanhfkpphdbaaaa", sum := "a573dde1d4712afa543e46993bbc8b860ce693744bd3dd8d9b8a6c0026279b77", func := "ostler/ostlerkeep.UseTold", spec := "useTold", unfollowed := true, recurses := true, apart := false, narrowed := true }
def UseToldUptoSaid : Prop := useToldUptoRow.holds Try.pinned (OpenSpec.upto useToldSpec)

end Rows
end Go.Proofs.Ytanhfkpphdbaaaa
