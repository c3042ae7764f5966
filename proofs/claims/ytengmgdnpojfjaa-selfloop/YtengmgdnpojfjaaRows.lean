/-
  No cell of these rows narrows 'for every input' (looked for: loops, veiled, ifaces, maps, wideKeys, modest, calm, conditions, laid).
  DERIVED. THE GIVEN ROWS OF THIS SEAT. 5 by the template 'for every input the law returns true; each argument reads behind the call as it read before'; 0 by the template 'total and deterministic' (their statements: YtengmgdnpojfjaaTotals.lean).
  GIVEN WITH THE SEED: the statements are not yours to turn. If you find one false, say at which input.
  Laid BY PROGRAM, IN A SANDBOX (cutbox-rows.mjs): the forced cells as the released guide's own fill.sh prints them over the translation cca38f5ac410fb00… (all of the seat's roots in one cut). By AI agents, Wed Nov 11 2026. No macro, syntax, notation, axiom, sorry.
-/
import Derived.Test.YtengmgdnpojfjaaChecked
import GoSem.Claim
import GoSem.ClaimJoined
import GoSem.ClaimMapViews
import Derived.JoinedTies
import Derived.KernelRfl
namespace Go.Proofs.Ytengmgdnpojfjaa
/- THE CELL 'sum', in the pinned program and in every row, IS THE sha256 OF THE DUMP (.gsa) THAT YtengmgdnpojfjaaProg.lean LOADS. Nothing in Lean hashes anything: it is a label: what it is worth is what the hold of that sum in a sandbox is worth. -/
noncomputable def Try.pinned : Pinned := { name := "ytengmgdnpojfjaa", sum := "cca38f5ac410fb008a99f765aab6615010d313bdae6179960d6401f95e17574f", checked := Try.checked }
namespace Rows
def none {H : Type} : Left H := { results := [], args := [] }

/-- 'ostlerlaw.FlowChecks': WHATEVER THE INPUT: true; the input reads as it did. -/
def flowChecksSpec : ChangeSpec := { name := "flowChecks", fn := fun _ => fun
  | [d1, d2] => { results := [.lit (.bool true)], args := [d1, d2] }
  | _ => none }
def flowChecksRow : OpenClaim := { program := "ytengmgdnpojfjaa", sum := "cca38f5ac410fb008a99f765aab6615010d313bdae6179960d6401f95e17574f", func := "ostler/ostlerlaw.FlowChecks", spec := "flowChecks", unfollowed := true, recurses := true, apart := false }
def FlowChecksSaid : Prop := flowChecksRow.holds Try.pinned (OpenSpec.ofChange flowChecksSpec)

/-- ITS FALSE NEIGHBOUR: 'it returns false'. Refute it at one input. -/
def flowChecksWrong : ChangeSpec := { name := "flowChecks", fn := fun _ => fun
  | [d1, d2] => { results := [.lit (.bool false)], args := [d1, d2] }
  | _ => none }
def FlowChecksWrongFalsely : Prop := flowChecksRow.holds Try.pinned (OpenSpec.ofChange flowChecksWrong)

/-- 'ostlerlaw.FlowDominators': WHATEVER THE INPUT: true; the input reads as it did. -/
def flowDominatorsSpec : ChangeSpec := { name := "flowDominators", fn := fun _ => fun
  | [d1, d2] => { results := [.lit (.bool true)], args := [d1, d2] }
  | _ => none }
def flowDominatorsRow : OpenClaim := { program := "ytengmgdnpojfjaa", sum := "cca38f5ac410fb008a99f765aab6615010d313bdae6179960d6401f95e17574f", func := "ostler/ostlerlaw.FlowDominators", spec := "flowDominators", unfollowed := true, recurses := true, apart := false }
def FlowDominatorsSaid : Prop := flowDominatorsRow.holds Try.pinned (OpenSpec.ofChange flowDominatorsSpec)

/-- ITS FALSE NEIGHBOUR: 'it returns false'. Refute it at one input. -/
def flowDominatorsWrong : ChangeSpec := { name := "flowDominators", fn := fun _ => fun
  | [d1, d2] => { results := [.lit (.bool false)], args := [d1, d2] }
  | _ => none }
def FlowDominatorsWrongFalsely : Prop := flowDominatorsRow.holds Try.pinned (OpenSpec.ofChange flowDominatorsWrong)

/-- 'ostlerkeep.UseBranch': WHATEVER THE INPUT: true; the input reads as it did. -/
def useBranchSpec : ChangeSpec := { name := "useBranch", fn := fun _ => fun
  | [d] => { results := [.lit (.bool true)], args := [d] }
  | _ => none }
def useBranchRow : OpenClaim := { program := "ytengmgdnpojfjaa", sum := "cca38f5ac410fb008a99f765aab6615010d313bdae6179960d6401f95e17574f", func := "ostler/ostlerkeep.UseBranch", spec := "useBranch", unfollowed := true, recurses := true, apart := false }
def UseBranchSaid : Prop := useBranchRow.holds Try.pinned (OpenSpec.ofChange useBranchSpec)

/-- ITS FALSE NEIGHBOUR: 'it returns false'. Refute it at one input. -/
def useBranchWrong : ChangeSpec := { name := "useBranch", fn := fun _ => fun
  | [d] => { results := [.lit (.bool false)], args := [d] }
  | _ => none }
def UseBranchWrongFalsely : Prop := useBranchRow.holds Try.pinned (OpenSpec.ofChange useBranchWrong)

/-- 'ostlerkeep.RingTree': WHATEVER THE INPUT: true; the input reads as it did. -/
def ringTreeSpec : ChangeSpec := { name := "ringTree", fn := fun _ => fun
  | [d] => { results := [.lit (.bool true)], args := [d] }
  | _ => none }
def ringTreeRow : OpenClaim := { program := "ytengmgdnpojfjaa", sum := "cca38f5ac410fb008a99f765aab6615010d313bdae6179960d6401f95e17574f", func := "ostler/ostlerkeep.RingTree", spec := "ringTree", unfollowed := true, recurses := true, apart := false }
def RingTreeSaid : Prop := ringTreeRow.holds Try.pinned (OpenSpec.ofChange ringTreeSpec)

/-- ITS FALSE NEIGHBOUR: 'it returns false'. Refute it at one input. -/
def ringTreeWrong : ChangeSpec := { name := "ringTree", fn := fun _ => fun
  | [d] => { results := [.lit (.bool false)], args := [d] }
  | _ => none }
def RingTreeWrongFalsely : Prop := ringTreeRow.holds Try.pinned (OpenSpec.ofChange ringTreeWrong)

/-- 'ostlerkeep.SelfLoop': WHATEVER THE INPUT: true; the input reads as it did. -/
def selfLoopSpec : ChangeSpec := { name := "selfLoop", fn := fun _ => fun
  | [d] => { results := [.lit (.bool true)], args := [d] }
  | _ => none }
def selfLoopRow : OpenClaim := { program := "ytengmgdnpojfjaa", sum := "cca38f5ac410fb008a99f765aab6615010d313bdae6179960d6401f95e17574f", func := "ostler/ostlerkeep.SelfLoop", spec := "selfLoop", unfollowed := true, recurses := true, apart := false }
def SelfLoopSaid : Prop := selfLoopRow.holds Try.pinned (OpenSpec.ofChange selfLoopSpec)

/-- ITS FALSE NEIGHBOUR: 'it returns false'. Refute it at one input. -/
def selfLoopWrong : ChangeSpec := { name := "selfLoop", fn := fun _ => fun
  | [d] => { results := [.lit (.bool false)], args := [d] }
  | _ => none }
def SelfLoopWrongFalsely : Prop := selfLoopRow.holds Try.pinned (OpenSpec.ofChange selfLoopWrong)

/- THE SECOND FORM. 'bulk': how many values and letters a reading holds, each counted each time it is reached (what is shared counts as often as it is met; a slice's spare places count too). A statement '..UptoSaid' is the law's where the arguments, and the package variables that the reading takes, are together of bulk at most 1048576: NARROWER than '..Said'. Prove '..Said' where nothing that the law and all that it calls make is longer than what came in: it says more and counts as full. Else prove '..UptoSaid'. A law counts once. -/
mutual
def uptoBulk {H : Type} : DataW H → Nat
  | .lit (.string bytes) => bytes.length + 1
  | .lit _ => 1
  | .nil => 1
  | .ptr d => uptoBulk d + 1
  | .slice elems spare => uptoBulkAll elems + uptoBulkAll spare + 1
  | .agg parts => uptoBulkAll parts + 1
  | .iface _ d => uptoBulk d + 1
  | .map entries => uptoBulkEntries entries + 1
  | .held _ => 1
def uptoBulkAll {H : Type} : List (DataW H) → Nat
  | [] => 0
  | d :: r => uptoBulk d + uptoBulkAll r
def uptoBulkEntries {H : Type} : List (Lit × DataW H) → Nat
  | [] => 0
  | x :: r => uptoBulkEntry x + uptoBulkEntries r
def uptoBulkEntry {H : Type} : Lit × DataW H → Nat
  | (.string bytes, d) => bytes.length + uptoBulk d + 1
  | (_, d) => uptoBulk d + 1
 end
def uptoSmall : (H : Type) → List (DataW H) → Bool := fun _ ds => decide (uptoBulkAll ds ≤ 1048576)
def OpenSpec.upto (s : _root_.Go.ChangeSpec) : _root_.Go.OpenSpec := { _root_.Go.OpenSpec.ofChange s with cond := some uptoSmall }

/-- 'ostlerlaw.FlowChecks', WHERE WHAT IT READS IS OF BULK AT MOST 1048576: true; the input reads as it did. -/
def flowChecksUptoRow : OpenClaim := { program := "ytengmgdnpojfjaa", sum := "cca38f5ac410fb008a99f765aab6615010d313bdae6179960d6401f95e17574f", func := "ostler/ostlerlaw.FlowChecks", spec := "flowChecks", unfollowed := true, recurses := true, apart := false, narrowed := true }
def FlowChecksUptoSaid : Prop := flowChecksUptoRow.holds Try.pinned (OpenSpec.upto flowChecksSpec)

/-- 'ostlerlaw.FlowDominators', WHERE WHAT IT READS IS OF BULK AT MOST 1048576: true; the input reads as it did. -/
def flowDominatorsUptoRow : OpenClaim := { program := "ytengmgdnpojfjaa", sum := "cca38f5ac410fb008a99f765aab6615010d313bdae6179960d6401f95e17574f", func := "ostler/ostlerlaw.FlowDominators", spec := "flowDominators", unfollowed := true, recurses := true, apart := false, narrowed := true }
def FlowDominatorsUptoSaid : Prop := flowDominatorsUptoRow.holds Try.pinned (OpenSpec.upto flowDominatorsSpec)

/-- 'ostlerkeep.UseBranch', WHERE WHAT IT READS IS OF BULK AT MOST 1048576: true; the input reads as it did. -/
def useBranchUptoRow : OpenClaim := { program := "ytengmgdnpojfjaa", sum := "cca38f5ac410fb008a99f765aab6615010d313bdae6179960d6401f95e17574f", func := "ostler/ostlerkeep.UseBranch", spec := "useBranch", unfollowed := true, recurses := true, apart := false, narrowed := true }
def UseBranchUptoSaid : Prop := useBranchUptoRow.holds Try.pinned (OpenSpec.upto useBranchSpec)

/-- 'ostlerkeep.RingTree', WHERE WHAT IT READS IS OF BULK AT MOST 1048576: true; the input reads as it did. -/
def ringTreeUptoRow : OpenClaim := { program := "ytengmgdnpojfjaa", sum := "cca38f5ac410fb008a99f765aab6615010d313bdae6179960d6401f95e17574f", func := "ostler/ostlerkeep.RingTree", spec := "ringTree", unfollowed := true, recurses := true, apart := false, narrowed := true }
def RingTreeUptoSaid : Prop := ringTreeUptoRow.holds Try.pinned (OpenSpec.upto ringTreeSpec)

/-- 'ostlerkeep.SelfLoop', WHERE WHAT IT READS IS OF BULK AT MOST 1048576: true; the input reads as it did. -/
def selfLoopUptoRow : OpenClaim := { program := "ytengmgdnpojfjaa", sum := "cca38f5ac410fb008a99f765aab6615010d313bdae6179960d6401f95e17574f", func := "ostler/ostlerkeep.SelfLoop", spec := "selfLoop", unfollowed := true, recurses := true, apart := false, narrowed := true }
def SelfLoopUptoSaid : Prop := selfLoopUptoRow.holds Try.pinned (OpenSpec.upto selfLoopSpec)

end Rows
end Go.Proofs.Ytengmgdnpojfjaa
