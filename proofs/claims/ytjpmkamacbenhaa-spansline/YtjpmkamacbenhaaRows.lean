/-
  No cell of these rows narrows 'for every input' (looked for: loops, veiled, ifaces, maps, wideKeys, modest, calm, conditions, laid).
  DERIVED. THE GIVEN ROWS OF THIS SEAT. 6 by the template 'for every input the law returns true; each argument reads behind the call as it read before'; 0 by the template 'total and deterministic' (their statements: YtjpmkamacbenhaaTotals.lean).
  GIVEN WITH THE SEED: the statements are not yours to turn. If you find one false, say at which input.
  Laid BY PROGRAM, IN A SANDBOX (cutbox-rows.mjs): the forced cells as the released guide's own fill.sh prints them over the translation 2230738d0378bffc… (all of the seat's roots in one cut). By AI agents, Wed Nov 11 2026. No macro, syntax, notation, axiom, sorry.
-/
import Derived.Test.YtjpmkamacbenhaaChecked
import GoSem.Claim
import GoSem.ClaimJoined
import GoSem.ClaimMapViews
import Derived.JoinedTies
import Derived.KernelRfl
namespace Go.Proofs.Ytjpmkamacbenhaa
/- THE CELL 'sum', in the pinned program and in every row, IS THE sha256 OF THE DUMP (.gsa) THAT YtjpmkamacbenhaaProg.lean LOADS. Nothing in Lean hashes anything: it is a label: what it is worth is what the hold of that sum in a sandbox is worth. -/
noncomputable def Try.pinned : Pinned := { name := "ytjpmkamacbenhaa", sum := "2230738d0378bffce424d4096d4408aebc04fe24eea0e17fa2246582efa1a07a", checked := Try.checked }
namespace Rows
def none {H : Type} : Left H := { results := [], args := [] }

/-- 'ostlerlaw.LiveStarts': WHATEVER THE INPUT: true; the input reads as it did. -/
def liveStartsSpec : ChangeSpec := { name := "liveStarts", fn := fun _ => fun
  | [d] => { results := [.lit (.bool true)], args := [d] }
  | _ => none }
def liveStartsRow : OpenClaim := { program := "ytjpmkamacbenhaa", sum := "2230738d0378bffce424d4096d4408aebc04fe24eea0e17fa2246582efa1a07a", func := "ostler/ostlerlaw.LiveStarts", spec := "liveStarts", apart := false }
def LiveStartsSaid : Prop := liveStartsRow.holds Try.pinned (OpenSpec.ofChange liveStartsSpec)

/-- ITS FALSE NEIGHBOUR: 'it returns false'. Refute it at one input. -/
def liveStartsWrong : ChangeSpec := { name := "liveStarts", fn := fun _ => fun
  | [d] => { results := [.lit (.bool false)], args := [d] }
  | _ => none }
def LiveStartsWrongFalsely : Prop := liveStartsRow.holds Try.pinned (OpenSpec.ofChange liveStartsWrong)

/-- 'ostlerkeep.SetsFlow': WHATEVER THE INPUT: true; the input reads as it did. -/
def setsFlowSpec : ChangeSpec := { name := "setsFlow", fn := fun _ => fun
  | [d1, d2, d3] => { results := [.lit (.bool true)], args := [d1, d2, d3] }
  | _ => none }
def setsFlowRow : OpenClaim := { program := "ytjpmkamacbenhaa", sum := "2230738d0378bffce424d4096d4408aebc04fe24eea0e17fa2246582efa1a07a", func := "ostler/ostlerkeep.SetsFlow", spec := "setsFlow", unfollowed := true, recurses := true, apart := false }
def SetsFlowSaid : Prop := setsFlowRow.holds Try.pinned (OpenSpec.ofChange setsFlowSpec)

/-- ITS FALSE NEIGHBOUR: 'it returns false'. Refute it at one input. -/
def setsFlowWrong : ChangeSpec := { name := "setsFlow", fn := fun _ => fun
  | [d1, d2, d3] => { results := [.lit (.bool false)], args := [d1, d2, d3] }
  | _ => none }
def SetsFlowWrongFalsely : Prop := setsFlowRow.holds Try.pinned (OpenSpec.ofChange setsFlowWrong)

/-- 'ostlerkeep.SetsIn': WHATEVER THE INPUT: true; the input reads as it did. -/
def setsInSpec : ChangeSpec := { name := "setsIn", fn := fun _ => fun
  | [d1, d2, d3] => { results := [.lit (.bool true)], args := [d1, d2, d3] }
  | _ => none }
def setsInRow : OpenClaim := { program := "ytjpmkamacbenhaa", sum := "2230738d0378bffce424d4096d4408aebc04fe24eea0e17fa2246582efa1a07a", func := "ostler/ostlerkeep.SetsIn", spec := "setsIn", unfollowed := true, recurses := true, apart := false }
def SetsInSaid : Prop := setsInRow.holds Try.pinned (OpenSpec.ofChange setsInSpec)

/-- ITS FALSE NEIGHBOUR: 'it returns false'. Refute it at one input. -/
def setsInWrong : ChangeSpec := { name := "setsIn", fn := fun _ => fun
  | [d1, d2, d3] => { results := [.lit (.bool false)], args := [d1, d2, d3] }
  | _ => none }
def SetsInWrongFalsely : Prop := setsInRow.holds Try.pinned (OpenSpec.ofChange setsInWrong)

/-- 'ostlerkeep.StartsRise': WHATEVER THE INPUT: true; the input reads as it did. -/
def startsRiseSpec : ChangeSpec := { name := "startsRise", fn := fun _ => fun
  | [d1, d2, d3] => { results := [.lit (.bool true)], args := [d1, d2, d3] }
  | _ => none }
def startsRiseRow : OpenClaim := { program := "ytjpmkamacbenhaa", sum := "2230738d0378bffce424d4096d4408aebc04fe24eea0e17fa2246582efa1a07a", func := "ostler/ostlerkeep.StartsRise", spec := "startsRise", apart := false }
def StartsRiseSaid : Prop := startsRiseRow.holds Try.pinned (OpenSpec.ofChange startsRiseSpec)

/-- ITS FALSE NEIGHBOUR: 'it returns false'. Refute it at one input. -/
def startsRiseWrong : ChangeSpec := { name := "startsRise", fn := fun _ => fun
  | [d1, d2, d3] => { results := [.lit (.bool false)], args := [d1, d2, d3] }
  | _ => none }
def StartsRiseWrongFalsely : Prop := startsRiseRow.holds Try.pinned (OpenSpec.ofChange startsRiseWrong)

/-- 'ostlerkeep.SpansLine': WHATEVER THE INPUT: true; the input reads as it did. -/
def spansLineSpec : ChangeSpec := { name := "spansLine", fn := fun _ => fun
  | [d1, d2] => { results := [.lit (.bool true)], args := [d1, d2] }
  | _ => none }
def spansLineRow : OpenClaim := { program := "ytjpmkamacbenhaa", sum := "2230738d0378bffce424d4096d4408aebc04fe24eea0e17fa2246582efa1a07a", func := "ostler/ostlerkeep.SpansLine", spec := "spansLine", unfollowed := true, recurses := true, apart := false }
def SpansLineSaid : Prop := spansLineRow.holds Try.pinned (OpenSpec.ofChange spansLineSpec)

/-- ITS FALSE NEIGHBOUR: 'it returns false'. Refute it at one input. -/
def spansLineWrong : ChangeSpec := { name := "spansLine", fn := fun _ => fun
  | [d1, d2] => { results := [.lit (.bool false)], args := [d1, d2] }
  | _ => none }
def SpansLineWrongFalsely : Prop := spansLineRow.holds Try.pinned (OpenSpec.ofChange spansLineWrong)

/-- 'ostlerkeep.SpansDead': WHATEVER THE INPUT: true; the input reads as it did. -/
def spansDeadSpec : ChangeSpec := { name := "spansDead", fn := fun _ => fun
  | [d1, d2] => { results := [.lit (.bool true)], args := [d1, d2] }
  | _ => none }
def spansDeadRow : OpenClaim := { program := "ytjpmkamacbenhaa", sum := "2230738d0378bffce424d4096d4408aebc04fe24eea0e17fa2246582efa1a07a", func := "ostler/ostlerkeep.SpansDead", spec := "spansDead", unfollowed := true, recurses := true, apart := false }
def SpansDeadSaid : Prop := spansDeadRow.holds Try.pinned (OpenSpec.ofChange spansDeadSpec)

/-- ITS FALSE NEIGHBOUR: 'it returns false'. Refute it at one input. -/
def spansDeadWrong : ChangeSpec := { name := "spansDead", fn := fun _ => fun
  | [d1, d2] => { results := [.lit (.bool false)], args := [d1, d2] }
  | _ => none }
def SpansDeadWrongFalsely : Prop := spansDeadRow.holds Try.pinned (OpenSpec.ofChange spansDeadWrong)

/- THE SECOND FORM. 'bulk': how many values and letters a reading holds, each counted each time it is reached (what is shared counts as often as it is met; a slice's spare places count too). A statement '..UptoSaid' is the law's where the arguments, and the package variables that the reading takes, are together of bulk at most 1048576: NARROWER than '..Said'. Prove '..Said' where nothing that the law and all that it calls make is longer than what came in: it says more and counts as full. Else prove '..UptoSaid'. A law counts once. -/
mutual
def uptoBulk {H : Type} : DataW H → Nat
  | .lit (.string bytes) => bytes.length + 1
  | .lit _ => 1
  | .nil => 1
  | .ptr d => uptoBulk d + 1
  | .slice elems spare => uptoBulkAll elems + uptoBulkAll spare + 1
  | .agg parts => uptoBulkAll parts + 1
  | .iface _ d => uptoBulk d + 1
  | .map entries => uptoBulkEntries entries + 1
  | .held _ => 1
def uptoBulkAll {H : Type} : List (DataW H) → Nat
  | [] => 0
  | d :: r => uptoBulk d + uptoBulkAll r
def uptoBulkEntries {H : Type} : List (Lit × DataW H) → Nat
  | [] => 0
  | x :: r => uptoBulkEntry x + uptoBulkEntries r
def uptoBulkEntry {H : Type} : Lit × DataW H → Nat
  | (.string bytes, d) => bytes.length + uptoBulk d + 1
  | (_, d) => uptoBulk d + 1
 end
def uptoSmall : (H : Type) → List (DataW H) → Bool := fun _ ds => decide (uptoBulkAll ds ≤ 1048576)
def OpenSpec.upto (s : _root_.Go.ChangeSpec) : _root_.Go.OpenSpec := { _root_.Go.OpenSpec.ofChange s with cond := some uptoSmall }

/-- 'ostlerlaw.LiveStarts', WHERE WHAT IT READS IS OF BULK AT MOST 1048576: true; the input reads as it did. -/
def liveStartsUptoRow : OpenClaim := { program := "ytjpmkamacbenhaa", sum := "2230738d0378bffce424d4096d4408aebc04fe24eea0e17fa2246582efa1a07a", func := "ostler/ostlerlaw.LiveStarts", spec := "liveStarts", apart := false, narrowed := true }
def LiveStartsUptoSaid : Prop := liveStartsUptoRow.holds Try.pinned (OpenSpec.upto liveStartsSpec)

/-- 'ostlerkeep.SetsFlow', WHERE WHAT IT READS IS OF BULK AT MOST 1048576: true; the input reads as it did. -/
def setsFlowUptoRow : OpenClaim := { program := "ytjpmkamacbenhaa", sum := "2230738d0378bffce424d4096d4408aebc04fe24eea0e17fa2246582efa1a07a", func := "ostler/ostlerkeep.SetsFlow", spec := "setsFlow", unfollowed := true, recurses := true, apart := false, narrowed := true }
def SetsFlowUptoSaid : Prop := setsFlowUptoRow.holds Try.pinned (OpenSpec.upto setsFlowSpec)

/-- 'ostlerkeep.SetsIn', WHERE WHAT IT READS IS OF BULK AT MOST 1048576: true; the input reads as it did. -/
def setsInUptoRow : OpenClaim := { program := "ytjpmkamacbenhaa", sum := "2230738d0378bffce424d4096d4408aebc04fe24eea0e17fa2246582efa1a07a", func := "ostler/ostlerkeep.SetsIn", spec := "setsIn", unfollowed := true, recurses := true, apart := false, narrowed := true }
def SetsInUptoSaid : Prop := setsInUptoRow.holds Try.pinned (OpenSpec.upto setsInSpec)

/-- 'ostlerkeep.StartsRise', WHERE WHAT IT READS IS OF BULK AT MOST 1048576: true; the input reads as it did. -/
def startsRiseUptoRow : OpenClaim := { program := "ytjpmkamacbenhaa", sum := "2230738d0378bffce424d4096d4408aebc04fe24eea0e17fa2246582efa1a07a", func := "ostler/ostlerkeep.StartsRise", spec := "startsRise", apart := false, narrowed := true }
def StartsRiseUptoSaid : Prop := startsRiseUptoRow.holds Try.pinned (OpenSpec.upto startsRiseSpec)

/-- 'ostlerkeep.SpansLine', WHERE WHAT IT READS IS OF BULK AT MOST 1048576: true; the input reads as it did. -/
def spansLineUptoRow : OpenClaim := { program := "ytjpmkamacbenhaa", sum := "2230738d0378bffce424d4096d4408aebc04fe24eea0e17fa2246582efa1a07a", func := "ostler/ostlerkeep.SpansLine", spec := "spansLine", unfollowed := true, recurses := true, apart := false, narrowed := true }
def SpansLineUptoSaid : Prop := spansLineUptoRow.holds Try.pinned (OpenSpec.upto spansLineSpec)

/-- 'ostlerkeep.SpansDead', WHERE WHAT IT READS IS OF BULK AT MOST 1048576: true; the input reads as it did. -/
def spansDeadUptoRow : OpenClaim := { program := "ytjpmkamacbenhaa", sum := "2230738d0378bffce424d4096d4408aebc04fe24eea0e17fa2246582efa1a07a", func := "ostler/ostlerkeep.SpansDead", spec := "spansDead", unfollowed := true, recurses := true, apart := false, narrowed := true }
def SpansDeadUptoSaid : Prop := spansDeadUptoRow.holds Try.pinned (OpenSpec.upto spansDeadSpec)

end Rows
end Go.Proofs.Ytjpmkamacbenhaa
