/-
  No cell of these rows narrows 'for every input' (looked for: loops, veiled, ifaces, maps, wideKeys, modest, calm, conditions, laid).
  DERIVED. THE GIVEN ROWS OF THIS SEAT. 5 by the template 'for every input the law returns true; each argument reads behind the call as it read before'; 0 by the template 'total and deterministic' (their statements: YtnghhhlcifpiaacTotals.lean).
  GIVEN WITH THE SEED: the statements are not yours to turn. If you find one false, say at which input.
  Laid BY PROGRAM, IN A SANDBOX (cutbox-rows.mjs): the forced cells as the released guide's own fill.sh prints them over the translation 889e680ac6140911… (all of the seat's roots in one cut). By AI agents, Wed Nov 11 2026. No macro, syntax, notation, axiom, sorry.
-/
import Derived.Test.YtnghhhlcifpiaacChecked
import GoSem.Claim
import GoSem.ClaimJoined
import GoSem.ClaimMapViews
import Derived.JoinedTies
import Derived.KernelRfl
namespace Go.Proofs.Ytnghhhlcifpiaac
/- THE CELL 'sum', in the pinned program and in every row, IS THE sha256 OF THE DUMP (.gsa) THAT YtnghhhlcifpiaacProg.lean LOADS. Nothing in Lean hashes anything: it is a label: what it is worth is what the hold of that sum in a sandbox is worth. -/
noncomputable def Try.pinned : Pinned := { name := "ytnghhhlcifpiaac", sum := "889e680ac6140911ffc65fbcb97daa4b93a873d512c780fe16c9e65d299a561c", checked := Try.checked }
namespace Rows
def none {H : Type} : Left H := { results := [], args := [] }

/-- 'ostlerkeep.ClassTold': WHATEVER THE INPUT: true; the input reads as it did. -/
def classToldSpec : ChangeSpec := { name := "classTold", fn := fun _ => fun
  | [d] => { results := [.lit (.bool true)], args := [d] }
  | _ => none }
def classToldRow : OpenClaim := { program := "ytnghhhlcifpiaac", sum := "889e680ac6140911ffc65fbcb97daa4b93a873d512c780fe16c9e65d299a561c", func := "ostler/ostlerkeep.ClassTold", spec := "classTold", unfollowed := true, recurses := true, apart := false }
def ClassToldSaid : Prop := classToldRow.holds Try.pinned (OpenSpec.ofChange classToldSpec)

/-- ITS FALSE NEIGHBOUR: 'it returns false'. Refute it at one input. -/
def classToldWrong : ChangeSpec := { name := "classTold", fn := fun _ => fun
  | [d] => { results := [.lit (.bool false)], args := [d] }
  | _ => none }
def ClassToldWrongFalsely : Prop := classToldRow.holds Try.pinned (OpenSpec.ofChange classToldWrong)

/-- 'ostlerkeep.KindTold': WHATEVER THE INPUT: true; the input reads as it did. -/
def kindToldSpec : ChangeSpec := { name := "kindTold", fn := fun _ => fun
  | [d1, d2] => { results := [.lit (.bool true)], args := [d1, d2] }
  | _ => none }
def kindToldRow : OpenClaim := { program := "ytnghhhlcifpiaac", sum := "889e680ac6140911ffc65fbcb97daa4b93a873d512c780fe16c9e65d299a561c", func := "ostler/ostlerkeep.KindTold", spec := "kindTold", unfollowed := true, recurses := true, apart := false }
def KindToldSaid : Prop := kindToldRow.holds Try.pinned (OpenSpec.ofChange kindToldSpec)

/-- ITS FALSE NEIGHBOUR: 'it returns false'. Refute it at one input. -/
def kindToldWrong : ChangeSpec := { name := "kindTold", fn := fun _ => fun
  | [d1, d2] => { results := [.lit (.bool false)], args := [d1, d2] }
  | _ => none }
def KindToldWrongFalsely : Prop := kindToldRow.holds Try.pinned (OpenSpec.ofChange kindToldWrong)

/-- 'ostlerkeep.EdgeBad': WHATEVER THE INPUT: true; the input reads as it did. -/
def edgeBadSpec : ChangeSpec := { name := "edgeBad", fn := fun _ => fun
  | [d] => { results := [.lit (.bool true)], args := [d] }
  | _ => none }
def edgeBadRow : OpenClaim := { program := "ytnghhhlcifpiaac", sum := "889e680ac6140911ffc65fbcb97daa4b93a873d512c780fe16c9e65d299a561c", func := "ostler/ostlerkeep.EdgeBad", spec := "edgeBad", unfollowed := true, recurses := true, apart := false }
def EdgeBadSaid : Prop := edgeBadRow.holds Try.pinned (OpenSpec.ofChange edgeBadSpec)

/-- ITS FALSE NEIGHBOUR: 'it returns false'. Refute it at one input. -/
def edgeBadWrong : ChangeSpec := { name := "edgeBad", fn := fun _ => fun
  | [d] => { results := [.lit (.bool false)], args := [d] }
  | _ => none }
def EdgeBadWrongFalsely : Prop := edgeBadRow.holds Try.pinned (OpenSpec.ofChange edgeBadWrong)

/-- 'ostlerkeep.SpoilsOrder': WHATEVER THE INPUT: true; the input reads as it did. -/
def spoilsOrderSpec : ChangeSpec := { name := "spoilsOrder", fn := fun _ => fun
  | [d1, d2, d3, d4] => { results := [.lit (.bool true)], args := [d1, d2, d3, d4] }
  | _ => none }
def spoilsOrderRow : OpenClaim := { program := "ytnghhhlcifpiaac", sum := "889e680ac6140911ffc65fbcb97daa4b93a873d512c780fe16c9e65d299a561c", func := "ostler/ostlerkeep.SpoilsOrder", spec := "spoilsOrder", unfollowed := true, recurses := true, apart := false }
def SpoilsOrderSaid : Prop := spoilsOrderRow.holds Try.pinned (OpenSpec.ofChange spoilsOrderSpec)

/-- ITS FALSE NEIGHBOUR: 'it returns false'. Refute it at one input. -/
def spoilsOrderWrong : ChangeSpec := { name := "spoilsOrder", fn := fun _ => fun
  | [d1, d2, d3, d4] => { results := [.lit (.bool false)], args := [d1, d2, d3, d4] }
  | _ => none }
def SpoilsOrderWrongFalsely : Prop := spoilsOrderRow.holds Try.pinned (OpenSpec.ofChange spoilsOrderWrong)

/-- 'ostlerkeep.EntryBare': WHATEVER THE INPUT: true; the input reads as it did. -/
def entryBareSpec : ChangeSpec := { name := "entryBare", fn := fun _ => fun
  | [d] => { results := [.lit (.bool true)], args := [d] }
  | _ => none }
def entryBareRow : OpenClaim := { program := "ytnghhhlcifpiaac", sum := "889e680ac6140911ffc65fbcb97daa4b93a873d512c780fe16c9e65d299a561c", func := "ostler/ostlerkeep.EntryBare", spec := "entryBare", unfollowed := true, recurses := true, apart := false }
def EntryBareSaid : Prop := entryBareRow.holds Try.pinned (OpenSpec.ofChange entryBareSpec)

/-- ITS FALSE NEIGHBOUR: 'it returns false'. Refute it at one input. -/
def entryBareWrong : ChangeSpec := { name := "entryBare", fn := fun _ => fun
  | [d] => { results := [.lit (.bool false)], args := [d] }
  | _ => none }
def EntryBareWrongFalsely : Prop := entryBareRow.holds Try.pinned (OpenSpec.ofChange entryBareWrong)

/- THE SECOND FORM. 'bulk': how many values and letters a reading holds, each counted each time it is reached (what is shared counts as often as it is met; a slice's spare places count too). A statement '..UptoSaid' is the law's where the arguments, and the package variables that the reading takes, are together of bulk at most 1048576: NARROWER than '..Said'. Prove '..Said' where nothing that the law and all that it calls make is longer than what came in: it says more and counts as full. Else prove '..UptoSaid'. A law counts once. -/
mutual
def uptoBulk {H : Type} : DataW H → Nat
  | .lit (.string bytes) => bytes.length + 1
  | .lit _ => 1
  | .nil => 1
  | .ptr d => uptoBulk d + 1
  | .slice elems spare => uptoBulkAll elems + uptoBulkAll spare + 1
  | .agg parts => uptoBulkAll parts + 1
  | .iface _ d => uptoBulk d + 1
  | .map entries => uptoBulkEntries entries + 1
  | .held _ => 1
def uptoBulkAll {H : Type} : List (DataW H) → Nat
  | [] => 0
  | d :: r => uptoBulk d + uptoBulkAll r
def uptoBulkEntries {H : Type} : List (Lit × DataW H) → Nat
  | [] => 0
  | x :: r => uptoBulkEntry x + uptoBulkEntries r
def uptoBulkEntry {H : Type} : Lit × DataW H → Nat
  | (.string bytes, d) => bytes.length + uptoBulk d + 1
  | (_, d) => uptoBulk d + 1
 end
def uptoSmall : (H : Type) → List (DataW H) → Bool := fun _ ds => decide (uptoBulkAll ds ≤ 1048576)
def OpenSpec.upto (s : _root_.Go.ChangeSpec) : _root_.Go.OpenSpec := { _root_.Go.OpenSpec.ofChange s with cond := some uptoSmall }

/-- 'ostlerkeep.ClassTold', WHERE WHAT IT READS IS OF BULK AT MOST 1048576: true; the input reads as it did. -/
def classToldUptoRow : OpenClaim := { program := "ytnghhhlcifpiaac", sum := "889e680ac6140911ffc65fbcb97daa4b93a873d512c780fe16c9e65d299a561c", func := "ostler/ostlerkeep.ClassTold", spec := "classTold", unfollowed := true, recurses := true, apart := false, narrowed := true }
def ClassToldUptoSaid : Prop := classToldUptoRow.holds Try.pinned (OpenSpec.upto classToldSpec)

/-- 'ostlerkeep.KindTold', WHERE WHAT IT READS IS OF BULK AT MOST 1048576: true; the input reads as it did. -/
def kindToldUptoRow : OpenClaim := { program := "ytnghhhlcifpiaac", sum := "889e680ac6140911ffc65fbcb97daa4b93a873d512c780fe16c9e65d299a561c", func := "ostler/ostlerkeep.KindTold", spec := "kindTold", unfollowed := true, recurses := true, apart := false, narrowed := true }
def KindToldUptoSaid : Prop := kindToldUptoRow.holds Try.pinned (OpenSpec.upto kindToldSpec)

/-- 'ostlerkeep.EdgeBad', WHERE WHAT IT READS IS OF BULK AT MOST 1048576: true; the input reads as it did. -/
def edgeBadUptoRow : OpenClaim := { program := "ytnghhhlcifpiaac", sum := "889e680ac6140911ffc65fbcb97daa4b93a873d512c780fe16c9e65d299a561c", func := "ostler/ostlerkeep.EdgeBad", spec := "edgeBad", unfollowed := true, recurses := true, apart := false, narrowed := true }
def EdgeBadUptoSaid : Prop := edgeBadUptoRow.holds Try.pinned (OpenSpec.upto edgeBadSpec)

/-- 'ostlerkeep.SpoilsOrder', WHERE WHAT IT READS IS OF BULK AT MOST 1048576: true; the input reads as it did. -/
def spoilsOrderUptoRow : OpenClaim := { program := "ytnghhhlcifpiaac", sum := "889e680ac6140911ffc65fbcb97daa4b93a873d512c780fe16c9e65d299a561c", func := "ostler/ostlerkeep.SpoilsOrder", spec := "spoilsOrder", unfollowed := true, recurses := true, apart := false, narrowed := true }
def SpoilsOrderUptoSaid : Prop := spoilsOrderUptoRow.holds Try.pinned (OpenSpec.upto spoilsOrderSpec)

/-- 'ostlerkeep.EntryBare', WHERE WHAT IT READS IS OF BULK AT MOST 1048576: true; the input reads as it did. -/
def entryBareUptoRow : OpenClaim := { program := "ytnghhhlcifpiaac", sum := "889e680ac6140911ffc65fbcb97daa4b93a873d512c780fe16c9e65d299a561c", func := "ostler/ostlerkeep.EntryBare", spec := "entryBare", unfollowed := true, recurses := true, apart := false, narrowed := true }
def EntryBareUptoSaid : Prop := entryBareUptoRow.holds Try.pinned (OpenSpec.upto entryBareSpec)

end Rows
end Go.Proofs.Ytnghhhlcifpiaac
