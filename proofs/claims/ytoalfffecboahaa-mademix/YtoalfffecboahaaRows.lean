/-
  No cell of these rows narrows 'for every input' (looked for: loops, veiled, ifaces, maps, wideKeys, modest, calm, conditions, laid).
  DERIVED. THE GIVEN ROWS OF THIS SEAT. 6 by the template 'for every input the law returns true; each argument reads behind the call as it read before'; 0 by the template 'total and deterministic' (their statements: YtoalfffecboahaaTotals.lean).
  GIVEN WITH THE SEED: the statements are not yours to turn. If you find one false, say at which input.
  Laid BY PROGRAM, IN A SANDBOX (cutbox-rows.mjs): the forced cells as the released guide's own fill.sh prints them over the translation aa9c88746c9898dc… (all of the seat's roots in one cut). By AI agents, Wed Nov 11 2026. No macro, syntax, notation, axiom, sorry.
-/
import Derived.Test.YtoalfffecboahaaChecked
import GoSem.Claim
import GoSem.ClaimJoined
import GoSem.ClaimMapViews
import Derived.JoinedTies
import Derived.KernelRfl
namespace Go.Proofs.Ytoalfffecboahaa
/- THE CELL 'sum', in the pinned program and in every row, IS THE sha256 OF THE DUMP (.gsa) THAT YtoalfffecboahaaProg.lean LOADS. Nothing in Lean hashes anything: it is a label: what it is worth is what the hold of that sum in a sandbox is worth. -/
noncomputable def Try.pinned : Pinned := { name := "ytoalfffecboahaa", sum := "aa9c88746c9898dc88c07751388810ec1f0c6eac49fb4d713cb9b08da3651120", checked := Try.checked }
namespace Rows
def none {H : Type} : Left H := { results := [], args := [] }

/-- 'ostlerlaw.RunMixes': WHATEVER THE INPUT: true; the input reads as it did. -/
def runMixesSpec : ChangeSpec := { name := "runMixes", fn := fun _ => fun
  | [d] => { results := [.lit (.bool true)], args := [d] }
  | _ => none }
def runMixesRow : OpenClaim := { program := "ytoalfffecboahaa", sum := "aa9c88746c9898dc88c07751388810ec1f0c6eac49fb4d713cb9b08da3651120", func := "ostler/ostlerlaw.RunMixes", spec := "runMixes", apart := false }
def RunMixesSaid : Prop := runMixesRow.holds Try.pinned (OpenSpec.ofChange runMixesSpec)

/-- ITS FALSE NEIGHBOUR: 'it returns false'. Refute it at one input. -/
def runMixesWrong : ChangeSpec := { name := "runMixes", fn := fun _ => fun
  | [d] => { results := [.lit (.bool false)], args := [d] }
  | _ => none }
def RunMixesWrongFalsely : Prop := runMixesRow.holds Try.pinned (OpenSpec.ofChange runMixesWrong)

/-- 'ostlerlaw.RunMakes': WHATEVER THE INPUT: true; the input reads as it did. -/
def runMakesSpec : ChangeSpec := { name := "runMakes", fn := fun _ => fun
  | [d1, d2, d3, d4] => { results := [.lit (.bool true)], args := [d1, d2, d3, d4] }
  | _ => none }
def runMakesRow : OpenClaim := { program := "ytoalfffecboahaa", sum := "aa9c88746c9898dc88c07751388810ec1f0c6eac49fb4d713cb9b08da3651120", func := "ostler/ostlerlaw.RunMakes", spec := "runMakes", apart := false }
def RunMakesSaid : Prop := runMakesRow.holds Try.pinned (OpenSpec.ofChange runMakesSpec)

/-- ITS FALSE NEIGHBOUR: 'it returns false'. Refute it at one input. -/
def runMakesWrong : ChangeSpec := { name := "runMakes", fn := fun _ => fun
  | [d1, d2, d3, d4] => { results := [.lit (.bool false)], args := [d1, d2, d3, d4] }
  | _ => none }
def RunMakesWrongFalsely : Prop := runMakesRow.holds Try.pinned (OpenSpec.ofChange runMakesWrong)

/-- 'ostlerlaw.RunTakes': WHATEVER THE INPUT: true; the input reads as it did. -/
def runTakesSpec : ChangeSpec := { name := "runTakes", fn := fun _ => fun
  | [d1, d2, d3, d4] => { results := [.lit (.bool true)], args := [d1, d2, d3, d4] }
  | _ => none }
def runTakesRow : OpenClaim := { program := "ytoalfffecboahaa", sum := "aa9c88746c9898dc88c07751388810ec1f0c6eac49fb4d713cb9b08da3651120", func := "ostler/ostlerlaw.RunTakes", spec := "runTakes", apart := false }
def RunTakesSaid : Prop := runTakesRow.holds Try.pinned (OpenSpec.ofChange runTakesSpec)

/-- ITS FALSE NEIGHBOUR: 'it returns false'. Refute it at one input. -/
def runTakesWrong : ChangeSpec := { name := "runTakes", fn := fun _ => fun
  | [d1, d2, d3, d4] => { results := [.lit (.bool false)], args := [d1, d2, d3, d4] }
  | _ => none }
def RunTakesWrongFalsely : Prop := runTakesRow.holds Try.pinned (OpenSpec.ofChange runTakesWrong)

/-- 'ostlerkeep.MixStep': WHATEVER THE INPUT: true; the input reads as it did. -/
def mixStepSpec : ChangeSpec := { name := "mixStep", fn := fun _ => fun
  | [d1, d2] => { results := [.lit (.bool true)], args := [d1, d2] }
  | _ => none }
def mixStepRow : OpenClaim := { program := "ytoalfffecboahaa", sum := "aa9c88746c9898dc88c07751388810ec1f0c6eac49fb4d713cb9b08da3651120", func := "ostler/ostlerkeep.MixStep", spec := "mixStep", apart := false }
def MixStepSaid : Prop := mixStepRow.holds Try.pinned (OpenSpec.ofChange mixStepSpec)

/-- ITS FALSE NEIGHBOUR: 'it returns false'. Refute it at one input. -/
def mixStepWrong : ChangeSpec := { name := "mixStep", fn := fun _ => fun
  | [d1, d2] => { results := [.lit (.bool false)], args := [d1, d2] }
  | _ => none }
def MixStepWrongFalsely : Prop := mixStepRow.holds Try.pinned (OpenSpec.ofChange mixStepWrong)

/-- 'ostlerkeep.MadeMix': WHATEVER THE INPUT: true; the input reads as it did. -/
def madeMixSpec : ChangeSpec := { name := "madeMix", fn := fun _ => fun
  | [d1, d2, d3, d4] => { results := [.lit (.bool true)], args := [d1, d2, d3, d4] }
  | _ => none }
def madeMixRow : OpenClaim := { program := "ytoalfffecboahaa", sum := "aa9c88746c9898dc88c07751388810ec1f0c6eac49fb4d713cb9b08da3651120", func := "ostler/ostlerkeep.MadeMix", spec := "madeMix", apart := false }
def MadeMixSaid : Prop := madeMixRow.holds Try.pinned (OpenSpec.ofChange madeMixSpec)

/-- ITS FALSE NEIGHBOUR: 'it returns false'. Refute it at one input. -/
def madeMixWrong : ChangeSpec := { name := "madeMix", fn := fun _ => fun
  | [d1, d2, d3, d4] => { results := [.lit (.bool false)], args := [d1, d2, d3, d4] }
  | _ => none }
def MadeMixWrongFalsely : Prop := madeMixRow.holds Try.pinned (OpenSpec.ofChange madeMixWrong)

/-- 'ostlerkeep.MixModulo': WHATEVER THE INPUT: true; the input reads as it did. -/
def mixModuloSpec : ChangeSpec := { name := "mixModulo", fn := fun _ => fun
  | [d1, d2, d3] => { results := [.lit (.bool true)], args := [d1, d2, d3] }
  | _ => none }
def mixModuloRow : OpenClaim := { program := "ytoalfffecboahaa", sum := "aa9c88746c9898dc88c07751388810ec1f0c6eac49fb4d713cb9b08da3651120", func := "ostler/ostlerkeep.MixModulo", spec := "mixModulo", apart := false }
def MixModuloSaid : Prop := mixModuloRow.holds Try.pinned (OpenSpec.ofChange mixModuloSpec)

/-- ITS FALSE NEIGHBOUR: 'it returns false'. Refute it at one input. -/
def mixModuloWrong : ChangeSpec := { name := "mixModulo", fn := fun _ => fun
  | [d1, d2, d3] => { results := [.lit (.bool false)], args := [d1, d2, d3] }
  | _ => none }
def MixModuloWrongFalsely : Prop := mixModuloRow.holds Try.pinned (OpenSpec.ofChange mixModuloWrong)

/- THE SECOND FORM. 'bulk': how many values and letters a reading holds, each counted each time it is reached (what is shared counts as often as it is met; a slice's spare places count too). A statement '..UptoSaid' is the law's where the arguments, and the package variables that the reading takes, are together of bulk at most 1048576: NARROWER than '..Said'. Prove '..Said' where nothing that the law and all that it calls make is longer than what came in: it says more and counts as full. Else prove '..UptoSaid'. A law counts once. -/
mutual
def uptoBulk {H : Type} : DataW H → Nat
  | .lit (.string bytes) => bytes.length + 1
  | .lit _ => 1
  | .nil => 1
  | .ptr d => uptoBulk d + 1
  | .slice elems spare => uptoBulkAll elems + uptoBulkAll spare + 1
  | .agg parts => uptoBulkAll parts + 1
  | .iface _ d => uptoBulk d + 1
  | .map entries => uptoBulkEntries entries + 1
  | .held _ => 1
def uptoBulkAll {H : Type} : List (DataW H) → Nat
  | [] => 0
  | d :: r => uptoBulk d + uptoBulkAll r
def uptoBulkEntries {H : Type} : List (Lit × DataW H) → Nat
  | [] => 0
  | x :: r => uptoBulkEntry x + uptoBulkEntries r
def uptoBulkEntry {H : Type} : Lit × DataW H → Nat
  | (.string bytes, d) => bytes.length + uptoBulk d + 1
  | (_, d) => uptoBulk d + 1
 end
def uptoSmall : (H : Type) → List (DataW H) → Bool := fun _ ds => decide (uptoBulkAll ds ≤ 1048576)
def OpenSpec.upto (s : _root_.Go.ChangeSpec) : _root_.Go.OpenSpec := { _root_.Go.OpenSpec.ofChange s with cond := some uptoSmall }

/-- 'ostlerlaw.RunMixes', WHERE WHAT IT READS IS OF BULK AT MOST 1048576: true; the input reads as it did. -/
def runMixesUptoRow : OpenClaim := { program := "ytoalfffecboahaa", sum := "aa9c88746c9898dc88c07751388810ec1f0c6eac49fb4d713cb9b08da3651120", func := "ostler/ostlerlaw.RunMixes", spec := "runMixes", apart := false, narrowed := true }
def RunMixesUptoSaid : Prop := runMixesUptoRow.holds Try.pinned (OpenSpec.upto runMixesSpec)

/-- 'ostlerlaw.RunMakes', WHERE WHAT IT READS IS OF BULK AT MOST 1048576: true; the input reads as it did. -/
def runMakesUptoRow : OpenClaim := { program := "ytoalfffecboahaa", sum := "aa9c88746c9898dc88c07751388810ec1f0c6eac49fb4d713cb9b08da3651120", func := "ostler/ostlerlaw.RunMakes", spec := "runMakes", apart := false, narrowed := true }
def RunMakesUptoSaid : Prop := runMakesUptoRow.holds Try.pinned (OpenSpec.upto runMakesSpec)

/-- 'ostlerlaw.RunTakes', WHERE WHAT IT READS IS OF BULK AT MOST 1048576: true; the input reads as it did. -/
def runTakesUptoRow : OpenClaim := { program := "ytoalfffecboahaa", sum := "aa9c88746c9898dc88c07751388810ec1f0c6eac49fb4d713cb9b08da3651120", func := "ostler/ostlerlaw.RunTakes", spec := "runTakes", apart := false, narrowed := true }
def RunTakesUptoSaid : Prop := runTakesUptoRow.holds Try.pinned (OpenSpec.upto runTakesSpec)

/-- 'ostlerkeep.MixStep', WHERE WHAT IT READS IS OF BULK AT MOST 1048576: true; the input reads as it did. -/
def mixStepUptoRow : OpenClaim := { program := "ytoalfffecboahaa", sum := "aa9c88746c9898dc88c07751388810ec1f0c6eac49fb4d713cb9b08da3651120", func := "ostler/ostlerkeep.MixStep", spec := "mixStep", apart := false, narrowed := true }
def MixStepUptoSaid : Prop := mixStepUptoRow.holds Try.pinned (OpenSpec.upto mixStepSpec)

/-- 'ostlerkeep.MadeMix', WHERE WHAT IT READS IS OF BULK AT MOST 1048576: true; the input reads as it did. -/
def madeMixUptoRow : OpenClaim := { program := "ytoalfffecboahaa", sum := "aa9c88746c9898dc88c07751388810ec1f0c6eac49fb4d713cb9b08da3651120", func := "ostler/ostlerkeep.MadeMix", spec := "madeMix", apart := false, narrowed := true }
def MadeMixUptoSaid : Prop := madeMixUptoRow.holds Try.pinned (OpenSpec.upto madeMixSpec)

/-- 'ostlerkeep.MixModulo', WHERE WHAT IT READS IS OF BULK AT MOST 1048576: true; the input reads as it did. -/
def mixModuloUptoRow : OpenClaim := { program := "ytoalfffecboahaa", sum := "aa9c88746c9898dc88c07751388810ec1f0c6eac49fb4d713cb9b08da3651120", func := "ostler/ostlerkeep.MixModulo", spec := "mixModulo", apart := false, narrowed := true }
def MixModuloUptoSaid : Prop := mixModuloUptoRow.holds Try.pinned (OpenSpec.upto mixModuloSpec)

end Rows
end Go.Proofs.Ytoalfffecboahaa
