/-
  No cell of these rows narrows 'for every input' (looked for: loops, veiled, ifaces, maps, wideKeys, modest, calm, conditions, laid).
  DERIVED. THE GIVEN ROWS OF THIS SEAT. 5 by the template 'for every input the law returns true; each argument reads behind the call as it read before'; 0 by the template 'total and deterministic' (their statements: YtmanjojjncjaiaaTotals.lean).
  GIVEN WITH THE SEED: the statements are not yours to turn. If you find one false, say at which input.
  Laid BY PROGRAM, IN A SANDBOX (cutbox-rows.mjs): the forced cells as the released guide's own fill.sh prints them over the translation 9cea17be14de7ffa… (all of the seat's roots in one cut). By AI agents, Wed Nov 11 2026. No macro, syntax, notation, axiom, sorry.
-/
import Derived.Test.YtmanjojjncjaiaaChecked
import GoSem.Claim
import GoSem.ClaimJoined
import GoSem.ClaimMapViews
import Derived.JoinedTies
import Derived.KernelRfl
namespace Go.Proofs.Ytmanjojjncjaiaa
/- THE CELL 'sum', in the pinned program and in every row, IS THE sha256 OF THE DUMP (.gsa) THAT YtmanjojjncjaiaaProg.lean LOADS. Nothing in Lean hashes anything: it is a label: what it is worth is what the hold of that sum in a sandbox is worth. -/
noncomputable def Try.pinned : Pinned := { name := "ytmanjojjncjaiaa", sum := "9cea17be14de7ffa4dd1e157f2a431fb7412a8717bd5fc658f15ed555f9d9544", checked := Try.checked }
namespace Rows
def none {H : Type} : Left H := { results := [], args := [] }

/-- 'ostlerlaw.RunSources': WHATEVER THE INPUT: true; the input reads as it did. -/
def runSourcesSpec : ChangeSpec := { name := "runSources", fn := fun _ => fun
  | [d1, d2, d3, d4] => { results := [.lit (.bool true)], args := [d1, d2, d3, d4] }
  | _ => none }
def runSourcesRow : OpenClaim := { program := "ytmanjojjncjaiaa", sum := "9cea17be14de7ffa4dd1e157f2a431fb7412a8717bd5fc658f15ed555f9d9544", func := "ostler/ostlerlaw.RunSources", spec := "runSources", unfollowed := true, recurses := true, apart := false }
def RunSourcesSaid : Prop := runSourcesRow.holds Try.pinned (OpenSpec.ofChange runSourcesSpec)

/-- ITS FALSE NEIGHBOUR: 'it returns false'. Refute it at one input. -/
def runSourcesWrong : ChangeSpec := { name := "runSources", fn := fun _ => fun
  | [d1, d2, d3, d4] => { results := [.lit (.bool false)], args := [d1, d2, d3, d4] }
  | _ => none }
def RunSourcesWrongFalsely : Prop := runSourcesRow.holds Try.pinned (OpenSpec.ofChange runSourcesWrong)

/-- 'ostlerkeep.SourceSteps': WHATEVER THE INPUT: true; the input reads as it did. -/
def sourceStepsSpec : ChangeSpec := { name := "sourceSteps", fn := fun _ => fun
  | [d1, d2, d3, d4, d5, d6] => { results := [.lit (.bool true)], args := [d1, d2, d3, d4, d5, d6] }
  | _ => none }
def sourceStepsRow : OpenClaim := { program := "ytmanjojjncjaiaa", sum := "9cea17be14de7ffa4dd1e157f2a431fb7412a8717bd5fc658f15ed555f9d9544", func := "ostler/ostlerkeep.SourceSteps", spec := "sourceSteps", unfollowed := true, recurses := true, apart := false }
def SourceStepsSaid : Prop := sourceStepsRow.holds Try.pinned (OpenSpec.ofChange sourceStepsSpec)

/-- ITS FALSE NEIGHBOUR: 'it returns false'. Refute it at one input. -/
def sourceStepsWrong : ChangeSpec := { name := "sourceSteps", fn := fun _ => fun
  | [d1, d2, d3, d4, d5, d6] => { results := [.lit (.bool false)], args := [d1, d2, d3, d4, d5, d6] }
  | _ => none }
def SourceStepsWrongFalsely : Prop := sourceStepsRow.holds Try.pinned (OpenSpec.ofChange sourceStepsWrong)

/-- 'ostlerkeep.SourceWays': WHATEVER THE INPUT: true; the input reads as it did. -/
def sourceWaysSpec : ChangeSpec := { name := "sourceWays", fn := fun _ => fun
  | [d1, d2, d3, d4, d5] => { results := [.lit (.bool true)], args := [d1, d2, d3, d4, d5] }
  | _ => none }
def sourceWaysRow : OpenClaim := { program := "ytmanjojjncjaiaa", sum := "9cea17be14de7ffa4dd1e157f2a431fb7412a8717bd5fc658f15ed555f9d9544", func := "ostler/ostlerkeep.SourceWays", spec := "sourceWays", unfollowed := true, recurses := true, apart := false }
def SourceWaysSaid : Prop := sourceWaysRow.holds Try.pinned (OpenSpec.ofChange sourceWaysSpec)

/-- ITS FALSE NEIGHBOUR: 'it returns false'. Refute it at one input. -/
def sourceWaysWrong : ChangeSpec := { name := "sourceWays", fn := fun _ => fun
  | [d1, d2, d3, d4, d5] => { results := [.lit (.bool false)], args := [d1, d2, d3, d4, d5] }
  | _ => none }
def SourceWaysWrongFalsely : Prop := sourceWaysRow.holds Try.pinned (OpenSpec.ofChange sourceWaysWrong)

/-- 'ostlerkeep.SourceSwap': WHATEVER THE INPUT: true; the input reads as it did. -/
def sourceSwapSpec : ChangeSpec := { name := "sourceSwap", fn := fun _ => fun
  | [d1, d2] => { results := [.lit (.bool true)], args := [d1, d2] }
  | _ => none }
def sourceSwapRow : OpenClaim := { program := "ytmanjojjncjaiaa", sum := "9cea17be14de7ffa4dd1e157f2a431fb7412a8717bd5fc658f15ed555f9d9544", func := "ostler/ostlerkeep.SourceSwap", spec := "sourceSwap", unfollowed := true, recurses := true, apart := false }
def SourceSwapSaid : Prop := sourceSwapRow.holds Try.pinned (OpenSpec.ofChange sourceSwapSpec)

/-- ITS FALSE NEIGHBOUR: 'it returns false'. Refute it at one input. -/
def sourceSwapWrong : ChangeSpec := { name := "sourceSwap", fn := fun _ => fun
  | [d1, d2] => { results := [.lit (.bool false)], args := [d1, d2] }
  | _ => none }
def SourceSwapWrongFalsely : Prop := sourceSwapRow.holds Try.pinned (OpenSpec.ofChange sourceSwapWrong)

/-- 'ostlerkeep.SourceEmpty': WHATEVER THE INPUT: true; the input reads as it did. -/
def sourceEmptySpec : ChangeSpec := { name := "sourceEmpty", fn := fun _ => fun
  | [d1, d2] => { results := [.lit (.bool true)], args := [d1, d2] }
  | _ => none }
def sourceEmptyRow : OpenClaim := { program := "ytmanjojjncjaiaa", sum := "9cea17be14de7ffa4dd1e157f2a431fb7412a8717bd5fc658f15ed555f9d9544", func := "ostler/ostlerkeep.SourceEmpty", spec := "sourceEmpty", unfollowed := true, recurses := true, apart := false }
def SourceEmptySaid : Prop := sourceEmptyRow.holds Try.pinned (OpenSpec.ofChange sourceEmptySpec)

/-- ITS FALSE NEIGHBOUR: 'it returns false'. Refute it at one input. -/
def sourceEmptyWrong : ChangeSpec := { name := "sourceEmpty", fn := fun _ => fun
  | [d1, d2] => { results := [.lit (.bool false)], args := [d1, d2] }
  | _ => none }
def SourceEmptyWrongFalsely : Prop := sourceEmptyRow.holds Try.pinned (OpenSpec.ofChange sourceEmptyWrong)

/- THE SECOND FORM. 'bulk': how many values and letters a reading holds, each counted each time it is reached (what is shared counts as often as it is met; a slice's spare places count too). A statement '..UptoSaid' is the law's where the arguments, and the package variables that the reading takes, are together of bulk at most 1048576: NARROWER than '..Said'. Prove '..Said' where nothing that the law and all that it calls make is longer than what came in: it says more and counts as full. Else prove '..UptoSaid'. A law counts once. -/
mutual
def uptoBulk {H : Type} : DataW H → Nat
  | .lit (.string bytes) => bytes.length + 1
  | .lit _ => 1
  | .nil => 1
  | .ptr d => uptoBulk d + 1
  | .slice elems spare => uptoBulkAll elems + uptoBulkAll spare + 1
  | .agg parts => uptoBulkAll parts + 1
  | .iface _ d => uptoBulk d + 1
  | .map entries => uptoBulkEntries entries + 1
  | .held _ => 1
def uptoBulkAll {H : Type} : List (DataW H) → Nat
  | [] => 0
  | d :: r => uptoBulk d + uptoBulkAll r
def uptoBulkEntries {H : Type} : List (Lit × DataW H) → Nat
  | [] => 0
  | x :: r => uptoBulkEntry x + uptoBulkEntries r
def uptoBulkEntry {H : Type} : Lit × DataW H → Nat
  | (.string bytes, d) => bytes.length + uptoBulk d + 1
  | (_, d) => uptoBulk d + 1
 end
def uptoSmall : (H : Type) → List (DataW H) → Bool := fun _ ds => decide (uptoBulkAll ds ≤ 1048576)
def OpenSpec.upto (s : _root_.Go.ChangeSpec) : _root_.Go.OpenSpec := { _root_.Go.OpenSpec.ofChange s with cond := some uptoSmall }

/-- 'ostlerlaw.RunSources', WHERE WHAT IT READS IS OF BULK AT MOST 1048576: true; the input reads as it did. -/
def runSourcesUptoRow : OpenClaim := { program := "ytmanjojjncjaiaa", sum := "9cea17be14de7ffa4dd1e157f2a431fb7412a8717bd5fc658f15ed555f9d9544", func := "ostler/ostlerlaw.RunSources", spec := "runSources", unfollowed := true, recurses := true, apart := false, narrowed := true }
def RunSourcesUptoSaid : Prop := runSourcesUptoRow.holds Try.pinned (OpenSpec.upto runSourcesSpec)

/-- 'ostlerkeep.SourceSteps', WHERE WHAT IT READS IS OF BULK AT MOST 1048576: true; the input reads as it did. -/
def sourceStepsUptoRow : OpenClaim := { program := "ytmanjojjncjaiaa", sum := "9cea17be14de7ffa4dd1e157f2a431fb7412a8717bd5fc658f15ed555f9d9544", func := "ostler/ostlerkeep.SourceSteps", spec := "sourceSteps", unfollowed := true, recurses := true, apart := false, narrowed := true }
def SourceStepsUptoSaid : Prop := sourceStepsUptoRow.holds Try.pinned (OpenSpec.upto sourceStepsSpec)

/-- 'ostlerkeep.SourceWays', WHERE WHAT IT READS IS OF BULK AT MOST 1048576: true; the input reads as it did. -/
def sourceWaysUptoRow : OpenClaim := { program := "ytmanjojjncjaiaa", sum := "9cea17be14de7ffa4dd1e157f2a431fb7412a8717bd5fc658f15ed555f9d9544", func := "ostler/ostlerkeep.SourceWays", spec := "sourceWays", unfollowed := true, recurses := true, apart := false, narrowed := true }
def SourceWaysUptoSaid : Prop := sourceWaysUptoRow.holds Try.pinned (OpenSpec.upto sourceWaysSpec)

/-- 'ostlerkeep.SourceSwap', WHERE WHAT IT READS IS OF BULK AT MOST 1048576: true; the input reads as it did. -/
def sourceSwapUptoRow : OpenClaim := { program := "ytmanjojjncjaiaa", sum := "9cea17be14de7ffa4dd1e157f2a431fb7412a8717bd5fc658f15ed555f9d9544", func := "ostler/ostlerkeep.SourceSwap", spec := "sourceSwap", unfollowed := true, recurses := true, apart := false, narrowed := true }
def SourceSwapUptoSaid : Prop := sourceSwapUptoRow.holds Try.pinned (OpenSpec.upto sourceSwapSpec)

/-- 'ostlerkeep.SourceEmpty', WHERE WHAT IT READS IS OF BULK AT MOST 1048576: true; the input reads as it did. -/
def sourceEmptyUptoRow : OpenClaim := { program := "ytmanjojjncjaiaa", sum := "9cea17be14de7ffa4dd1e157f2a431fb7412a8717bd5fc658f15ed555f9d9544", func := "ostler/ostlerkeep.SourceEmpty", spec := "sourceEmpty", unfollowed := true, recurses := true, apart := false, narrowed := true }
def SourceEmptyUptoSaid : Prop := sourceEmptyUptoRow.holds Try.pinned (OpenSpec.upto sourceEmptySpec)

end Rows
end Go.Proofs.Ytmanjojjncjaiaa
