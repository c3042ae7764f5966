/-
  No cell of these rows narrows 'for every input' (looked for: loops, veiled, ifaces, maps, wideKeys, modest, calm, conditions, laid).
  DERIVED. THE GIVEN ROWS OF THIS SEAT. 6 by the template 'for every input the law returns true; each argument reads behind the call as it read before'; 0 by the template 'total and deterministic' (their statements: YtnghhhlcifpiaabTotals.lean).
  GIVEN WITH THE SEED: the statements are not yours to turn. If you find one false, say at which input.
  Laid BY PROGRAM, IN A SANDBOX (cutbox-rows.mjs): the forced cells as the released guide's own fill.sh prints them over the translation 6051f5a78403a26d… (all of the seat's roots in one cut). By AI agents, Wed Nov 11 2026. No macro, syntax, notation, axiom, sorry.
-/
import Derived.Test.YtnghhhlcifpiaabChecked
import GoSem.Claim
import GoSem.ClaimJoined
import GoSem.ClaimMapViews
import Derived.JoinedTies
import Derived.KernelRfl
namespace Go.Proofs.Ytnghhhlcifpiaab
/- THE CELL 'sum', in the pinned program and in every row, IS THE sha256 OF THE DUMP (.gsa) THAT YtnghhhlcifpiaabProg.lean LOADS. Nothing in Lean hashes anything: it is a label: what it is worth is what the hold of that sum in a sandbox is worth. -/
noncomputable def Try.pinned : Pinned := { name := "ytnghhhlcifpiaab", sum := "6051f5a78403a26dfa8d4888c396b2b077ef7da2c6423bd225ffe5dd4ebfb79b", checked := Try.checked }
namespace Rows
def none {H : Type} : Left H := { results := [], args := [] }

/-- 'ostlerkeep.ShapeFull': WHATEVER THE INPUT: true; the input reads as it did. -/
def shapeFullSpec : ChangeSpec := { name := "shapeFull", fn := fun _ => fun
  | [d1, d2, d3] => { results := [.lit (.bool true)], args := [d1, d2, d3] }
  | _ => none }
def shapeFullRow : OpenClaim := { program := "ytnghhhlcifpiaab", sum := "6051f5a78403a26dfa8d4888c396b2b077ef7da2c6423bd225ffe5dd4ebfb79b", func := "ostler/ostlerkeep.ShapeFull", spec := "shapeFull", unfollowed := true, recurses := true, apart := false }
def ShapeFullSaid : Prop := shapeFullRow.holds Try.pinned (OpenSpec.ofChange shapeFullSpec)

/-- ITS FALSE NEIGHBOUR: 'it returns false'. Refute it at one input. -/
def shapeFullWrong : ChangeSpec := { name := "shapeFull", fn := fun _ => fun
  | [d1, d2, d3] => { results := [.lit (.bool false)], args := [d1, d2, d3] }
  | _ => none }
def ShapeFullWrongFalsely : Prop := shapeFullRow.holds Try.pinned (OpenSpec.ofChange shapeFullWrong)

/-- 'ostlerkeep.MeetBoth': WHATEVER THE INPUT: true; the input reads as it did. -/
def meetBothSpec : ChangeSpec := { name := "meetBoth", fn := fun _ => fun
  | [d1, d2, d3, d4, d5, d6] => { results := [.lit (.bool true)], args := [d1, d2, d3, d4, d5, d6] }
  | _ => none }
def meetBothRow : OpenClaim := { program := "ytnghhhlcifpiaab", sum := "6051f5a78403a26dfa8d4888c396b2b077ef7da2c6423bd225ffe5dd4ebfb79b", func := "ostler/ostlerkeep.MeetBoth", spec := "meetBoth", apart := false }
def MeetBothSaid : Prop := meetBothRow.holds Try.pinned (OpenSpec.ofChange meetBothSpec)

/-- ITS FALSE NEIGHBOUR: 'it returns false'. Refute it at one input. -/
def meetBothWrong : ChangeSpec := { name := "meetBoth", fn := fun _ => fun
  | [d1, d2, d3, d4, d5, d6] => { results := [.lit (.bool false)], args := [d1, d2, d3, d4, d5, d6] }
  | _ => none }
def MeetBothWrongFalsely : Prop := meetBothRow.holds Try.pinned (OpenSpec.ofChange meetBothWrong)

/-- 'ostlerkeep.MeetUses': WHATEVER THE INPUT: true; the input reads as it did. -/
def meetUsesSpec : ChangeSpec := { name := "meetUses", fn := fun _ => fun
  | [d1, d2] => { results := [.lit (.bool true)], args := [d1, d2] }
  | _ => none }
def meetUsesRow : OpenClaim := { program := "ytnghhhlcifpiaab", sum := "6051f5a78403a26dfa8d4888c396b2b077ef7da2c6423bd225ffe5dd4ebfb79b", func := "ostler/ostlerkeep.MeetUses", spec := "meetUses", apart := false }
def MeetUsesSaid : Prop := meetUsesRow.holds Try.pinned (OpenSpec.ofChange meetUsesSpec)

/-- ITS FALSE NEIGHBOUR: 'it returns false'. Refute it at one input. -/
def meetUsesWrong : ChangeSpec := { name := "meetUses", fn := fun _ => fun
  | [d1, d2] => { results := [.lit (.bool false)], args := [d1, d2] }
  | _ => none }
def MeetUsesWrongFalsely : Prop := meetUsesRow.holds Try.pinned (OpenSpec.ofChange meetUsesWrong)

/-- 'ostlerkeep.ClashTold': WHATEVER THE INPUT: true; the input reads as it did. -/
def clashToldSpec : ChangeSpec := { name := "clashTold", fn := fun _ => fun
  | [d1, d2, d3] => { results := [.lit (.bool true)], args := [d1, d2, d3] }
  | _ => none }
def clashToldRow : OpenClaim := { program := "ytnghhhlcifpiaab", sum := "6051f5a78403a26dfa8d4888c396b2b077ef7da2c6423bd225ffe5dd4ebfb79b", func := "ostler/ostlerkeep.ClashTold", spec := "clashTold", unfollowed := true, recurses := true, apart := false }
def ClashToldSaid : Prop := clashToldRow.holds Try.pinned (OpenSpec.ofChange clashToldSpec)

/-- ITS FALSE NEIGHBOUR: 'it returns false'. Refute it at one input. -/
def clashToldWrong : ChangeSpec := { name := "clashTold", fn := fun _ => fun
  | [d1, d2, d3] => { results := [.lit (.bool false)], args := [d1, d2, d3] }
  | _ => none }
def ClashToldWrongFalsely : Prop := clashToldRow.holds Try.pinned (OpenSpec.ofChange clashToldWrong)

/-- 'ostlerkeep.ReuseBad': WHATEVER THE INPUT: true; the input reads as it did. -/
def reuseBadSpec : ChangeSpec := { name := "reuseBad", fn := fun _ => fun
  | [d1, d2] => { results := [.lit (.bool true)], args := [d1, d2] }
  | _ => none }
def reuseBadRow : OpenClaim := { program := "ytnghhhlcifpiaab", sum := "6051f5a78403a26dfa8d4888c396b2b077ef7da2c6423bd225ffe5dd4ebfb79b", func := "ostler/ostlerkeep.ReuseBad", spec := "reuseBad", unfollowed := true, recurses := true, apart := false }
def ReuseBadSaid : Prop := reuseBadRow.holds Try.pinned (OpenSpec.ofChange reuseBadSpec)

/-- ITS FALSE NEIGHBOUR: 'it returns false'. Refute it at one input. -/
def reuseBadWrong : ChangeSpec := { name := "reuseBad", fn := fun _ => fun
  | [d1, d2] => { results := [.lit (.bool false)], args := [d1, d2] }
  | _ => none }
def ReuseBadWrongFalsely : Prop := reuseBadRow.holds Try.pinned (OpenSpec.ofChange reuseBadWrong)

/-- 'ostlerkeep.SizesTold': WHATEVER THE INPUT: true; the input reads as it did. -/
def sizesToldSpec : ChangeSpec := { name := "sizesTold", fn := fun _ => fun
  | [d1, d2] => { results := [.lit (.bool true)], args := [d1, d2] }
  | _ => none }
def sizesToldRow : OpenClaim := { program := "ytnghhhlcifpiaab", sum := "6051f5a78403a26dfa8d4888c396b2b077ef7da2c6423bd225ffe5dd4ebfb79b", func := "ostler/ostlerkeep.SizesTold", spec := "sizesTold", unfollowed := true, recurses := true, apart := false }
def SizesToldSaid : Prop := sizesToldRow.holds Try.pinned (OpenSpec.ofChange sizesToldSpec)

/-- ITS FALSE NEIGHBOUR: 'it returns false'. Refute it at one input. -/
def sizesToldWrong : ChangeSpec := { name := "sizesTold", fn := fun _ => fun
  | [d1, d2] => { results := [.lit (.bool false)], args := [d1, d2] }
  | _ => none }
def SizesToldWrongFalsely : Prop := sizesToldRow.holds Try.pinned (OpenSpec.ofChange sizesToldWrong)

/- THE SECOND FORM. 'bulk': how many values and letters a reading holds, each counted each time it is reached (what is shared counts as often as it is met; a slice's spare places count too). A statement '..UptoSaid' is the law's where the arguments, and the package variables that the reading takes, are together of bulk at most 1048576: NARROWER than '..Said'. Prove '..Said' where nothing that the law and all that it calls make is longer than what came in: it says more and counts as full. Else prove '..UptoSaid'. A law counts once. -/
mutual
def uptoBulk {H : Type} : DataW H → Nat
  | .lit (.string bytes) => bytes.length + 1
  | .lit _ => 1
  | .nil => 1
  | .ptr d => uptoBulk d + 1
  | .slice elems spare => uptoBulkAll elems + uptoBulkAll spare + 1
  | .agg parts => uptoBulkAll parts + 1
  | .iface _ d => uptoBulk d + 1
  | .map entries => uptoBulkEntries entries + 1
  | .held _ => 1
def uptoBulkAll {H : Type} : List (DataW H) → Nat
  | [] => 0
  | d :: r => uptoBulk d + uptoBulkAll r
def uptoBulkEntries {H : Type} : List (Lit × DataW H) → Nat
  | [] => 0
  | x :: r => uptoBulkEntry x + uptoBulkEntries r
def uptoBulkEntry {H : Type} : Lit × DataW H → Nat
  | (.string bytes, d) => bytes.length + uptoBulk d + 1
  | (_, d) => uptoBulk d + 1
 end
def uptoSmall : (H : Type) → List (DataW H) → Bool := fun _ ds => decide (uptoBulkAll ds ≤ 1048576)
def OpenSpec.upto (s : _root_.Go.ChangeSpec) : _root_.Go.OpenSpec := { _root_.Go.OpenSpec.ofChange s with cond := some uptoSmall }

/-- 'ostlerkeep.ShapeFull', WHERE WHAT IT READS IS OF BULK AT MOST 1048576: true; the input reads as it did. -/
def shapeFullUptoRow : OpenClaim := { program := "ytnghhhlcifpiaab", sum := "6051f5a78403a26dfa8d4888c396b2b077ef7da2c6423bd225ffe5dd4ebfb79b", func := "ostler/ostlerkeep.ShapeFull", spec := "shapeFull", unfollowed := true, recurses := true, apart := false, narrowed := true }
def ShapeFullUptoSaid : Prop := shapeFullUptoRow.holds Try.pinned (OpenSpec.upto shapeFullSpec)

/-- 'ostlerkeep.MeetBoth', WHERE WHAT IT READS IS OF BULK AT MOST 1048576: true; the input reads as it did. -/
def meetBothUptoRow : OpenClaim := { program := "ytnghhhlcifpiaab", sum := "6051f5a78403a26dfa8d4888c396b2b077ef7da2c6423bd225ffe5dd4ebfb79b", func := "ostler/ostlerkeep.MeetBoth", spec := "meetBoth", apart := false, narrowed := true }
def MeetBothUptoSaid : Prop := meetBothUptoRow.holds Try.pinned (OpenSpec.upto meetBothSpec)

/-- 'ostlerkeep.MeetUses', WHERE WHAT IT READS IS OF BULK AT MOST 1048576: true; the input reads as it did. -/
def meetUsesUptoRow : OpenClaim := { program := "ytnghhhlcifpiaab", sum := "6051f5a78403a26dfa8d4888c396b2b077ef7da2c6423bd225ffe5dd4ebfb79b", func := "ostler/ostlerkeep.MeetUses", spec := "meetUses", apart := false, narrowed := true }
def MeetUsesUptoSaid : Prop := meetUsesUptoRow.holds Try.pinned (OpenSpec.upto meetUsesSpec)

/-- 'ostlerkeep.ClashTold', WHERE WHAT IT READS IS OF BULK AT MOST 1048576: true; the input reads as it did. -/
def clashToldUptoRow : OpenClaim := { program := "ytnghhhlcifpiaab", sum := "6051f5a78403a26dfa8d4888c396b2b077ef7da2c6423bd225ffe5dd4ebfb79b", func := "ostler/ostlerkeep.ClashTold", spec := "clashTold", unfollowed := true, recurses := true, apart := false, narrowed := true }
def ClashToldUptoSaid : Prop := clashToldUptoRow.holds Try.pinned (OpenSpec.upto clashToldSpec)

/-- 'ostlerkeep.ReuseBad', WHERE WHAT IT READS IS OF BULK AT MOST 1048576: true; the input reads as it did. -/
def reuseBadUptoRow : OpenClaim := { program := "ytnghhhlcifpiaab", sum := "6051f5a78403a26dfa8d4888c396b2b077ef7da2c6423bd225ffe5dd4ebfb79b", func := "ostler/ostlerkeep.ReuseBad", spec := "reuseBad", unfollowed := true, recurses := true, apart := false, narrowed := true }
def ReuseBadUptoSaid : Prop := reuseBadUptoRow.holds Try.pinned (OpenSpec.upto reuseBadSpec)

/-- 'ostlerkeep.SizesTold', WHERE WHAT IT READS IS OF BULK AT MOST 1048576: true; the input reads as it did. -/
def sizesToldUptoRow : OpenClaim := { program := "ytnghhhlcifpiaab", sum := "6051f5a78403a26dfa8d4888c396b2b077ef7da2c6423bd225ffe5dd4ebfb79b", func := "ostler/ostlerkeep.SizesTold", spec := "sizesTold", unfollowed := true, recurses := true, apart := false, narrowed := true }
def SizesToldUptoSaid : Prop := sizesToldUptoRow.holds Try.pinned (OpenSpec.upto sizesToldSpec)

end Rows
end Go.Proofs.Ytnghhhlcifpiaab
