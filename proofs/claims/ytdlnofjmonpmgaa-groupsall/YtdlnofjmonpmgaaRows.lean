/-
  No cell of these rows narrows 'for every input' (looked for: loops, veiled, ifaces, maps, wideKeys, modest, calm, conditions, laid).
  DERIVED. THE GIVEN ROWS OF THIS SEAT. 4 by the template 'for every input the law returns true; each argument reads behind the call as it read before'; 0 by the template 'total and deterministic' (their statements: YtdlnofjmonpmgaaTotals.lean).
  GIVEN WITH THE SEED: the statements are not yours to turn. If you find one false, say at which input.
  Laid BY PROGRAM, IN A SANDBOX (cutbox-rows.mjs): the forced cells as the released guide's own fill.sh prints them over the translation 3c396c816a023f5d… (all of the seat's roots in one cut). By AI agents, Wed Nov 11 2026. No macro, syntax, notation, axiom, sorry.
-/
import Derived.Test.YtdlnofjmonpmgaaChecked
import GoSem.Claim
import GoSem.ClaimJoined
import GoSem.ClaimMapViews
import Derived.JoinedTies
import Derived.KernelRfl
namespace Go.Proofs.Ytdlnofjmonpmgaa
/- THE CELL 'sum', in the pinned program and in every row, IS THE sha256 OF THE DUMP (.gsa) THAT YtdlnofjmonpmgaaProg.lean LOADS. Nothing in Lean hashes anything: it is a label: what it is worth is what the hold of that sum in a sandbox is worth. -/
noncomputable def Try.pinned : Pinned := { name := "ytdlnofjmonpmgaa", sum := "3c396c816a023f5dd5ea8ba030870d16dbde83c247de7c06f88c1b85de969891", checked := Try.checked }
namespace Rows
def none {H : Type} : Left H := { results := [], args := [] }

/-- 'ostlerkeep.GroupsApart': WHATEVER THE INPUT: true; the input reads as it did. -/
def groupsApartSpec : ChangeSpec := { name := "groupsApart", fn := fun _ => fun
  | [d1, d2, d3] => { results := [.lit (.bool true)], args := [d1, d2, d3] }
  | _ => none }
def groupsApartRow : OpenClaim := { program := "ytdlnofjmonpmgaa", sum := "3c396c816a023f5dd5ea8ba030870d16dbde83c247de7c06f88c1b85de969891", func := "ostler/ostlerkeep.GroupsApart", spec := "groupsApart", unfollowed := true, recurses := true, apart := false }
def GroupsApartSaid : Prop := groupsApartRow.holds Try.pinned (OpenSpec.ofChange groupsApartSpec)

/-- ITS FALSE NEIGHBOUR: 'it returns false'. Refute it at one input. -/
def groupsApartWrong : ChangeSpec := { name := "groupsApart", fn := fun _ => fun
  | [d1, d2, d3] => { results := [.lit (.bool false)], args := [d1, d2, d3] }
  | _ => none }
def GroupsApartWrongFalsely : Prop := groupsApartRow.holds Try.pinned (OpenSpec.ofChange groupsApartWrong)

/-- 'ostlerkeep.GroupsAll': WHATEVER THE INPUT: true; the input reads as it did. -/
def groupsAllSpec : ChangeSpec := { name := "groupsAll", fn := fun _ => fun
  | [d1, d2, d3] => { results := [.lit (.bool true)], args := [d1, d2, d3] }
  | _ => none }
def groupsAllRow : OpenClaim := { program := "ytdlnofjmonpmgaa", sum := "3c396c816a023f5dd5ea8ba030870d16dbde83c247de7c06f88c1b85de969891", func := "ostler/ostlerkeep.GroupsAll", spec := "groupsAll", unfollowed := true, recurses := true, apart := false }
def GroupsAllSaid : Prop := groupsAllRow.holds Try.pinned (OpenSpec.ofChange groupsAllSpec)

/-- ITS FALSE NEIGHBOUR: 'it returns false'. Refute it at one input. -/
def groupsAllWrong : ChangeSpec := { name := "groupsAll", fn := fun _ => fun
  | [d1, d2, d3] => { results := [.lit (.bool false)], args := [d1, d2, d3] }
  | _ => none }
def GroupsAllWrongFalsely : Prop := groupsAllRow.holds Try.pinned (OpenSpec.ofChange groupsAllWrong)

/-- 'ostlerkeep.GroupsRing': WHATEVER THE INPUT: true; the input reads as it did. -/
def groupsRingSpec : ChangeSpec := { name := "groupsRing", fn := fun _ => fun
  | [d] => { results := [.lit (.bool true)], args := [d] }
  | _ => none }
def groupsRingRow : OpenClaim := { program := "ytdlnofjmonpmgaa", sum := "3c396c816a023f5dd5ea8ba030870d16dbde83c247de7c06f88c1b85de969891", func := "ostler/ostlerkeep.GroupsRing", spec := "groupsRing", unfollowed := true, recurses := true, apart := false }
def GroupsRingSaid : Prop := groupsRingRow.holds Try.pinned (OpenSpec.ofChange groupsRingSpec)

/-- ITS FALSE NEIGHBOUR: 'it returns false'. Refute it at one input. -/
def groupsRingWrong : ChangeSpec := { name := "groupsRing", fn := fun _ => fun
  | [d] => { results := [.lit (.bool false)], args := [d] }
  | _ => none }
def GroupsRingWrongFalsely : Prop := groupsRingRow.holds Try.pinned (OpenSpec.ofChange groupsRingWrong)

/-- 'ostlerkeep.GroupsReuse': WHATEVER THE INPUT: true; the input reads as it did. -/
def groupsReuseSpec : ChangeSpec := { name := "groupsReuse", fn := fun _ => fun
  | [d1, d2] => { results := [.lit (.bool true)], args := [d1, d2] }
  | _ => none }
def groupsReuseRow : OpenClaim := { program := "ytdlnofjmonpmgaa", sum := "3c396c816a023f5dd5ea8ba030870d16dbde83c247de7c06f88c1b85de969891", func := "ostler/ostlerkeep.GroupsReuse", spec := "groupsReuse", unfollowed := true, recurses := true, apart := false }
def GroupsReuseSaid : Prop := groupsReuseRow.holds Try.pinned (OpenSpec.ofChange groupsReuseSpec)

/-- ITS FALSE NEIGHBOUR: 'it returns false'. Refute it at one input. -/
def groupsReuseWrong : ChangeSpec := { name := "groupsReuse", fn := fun _ => fun
  | [d1, d2] => { results := [.lit (.bool false)], args := [d1, d2] }
  | _ => none }
def GroupsReuseWrongFalsely : Prop := groupsReuseRow.holds Try.pinned (OpenSpec.ofChange groupsReuseWrong)

/- THE SECOND FORM. 'bulk': how many values and letters a reading holds, each counted each time it is reached (what is shared counts as often as it is met; a slice's spare places count too). A statement '..UptoSaid' is the law's where the arguments, and the package variables that the reading takes, are together of bulk at most 1048576: NARROWER than '..Said'. Prove '..Said' where nothing that the law and all that it calls make is longer than what came in: it says more and counts as full. Else prove '..UptoSaid'. A law counts once. -/
mutual
def uptoBulk {H : Type} : DataW H → Nat
  | .lit (.string bytes) => bytes.length + 1
  | .lit _ => 1
  | .nil => 1
  | .ptr d => uptoBulk d + 1
  | .slice elems spare => uptoBulkAll elems + uptoBulkAll spare + 1
  | .agg parts => uptoBulkAll parts + 1
  | .iface _ d => uptoBulk d + 1
  | .map entries => uptoBulkEntries entries + 1
  | .held _ => 1
def uptoBulkAll {H : Type} : List (DataW H) → Nat
  | [] => 0
  | d :: r => uptoBulk d + uptoBulkAll r
def uptoBulkEntries {H : Type} : List (Lit × DataW H) → Nat
  | [] => 0
  | x :: r => uptoBulkEntry x + uptoBulkEntries r
def uptoBulkEntry {H : Type} : Lit × DataW H → Nat
  | (.string bytes, d) => bytes.length + uptoBulk d + 1
  | (_, d) => uptoBulk d + 1
 end
def uptoSmall : (H : Type) → List (DataW H) → Bool := fun _ ds => decide (uptoBulkAll ds ≤ 1048576)
def OpenSpec.upto (s : _root_.Go.ChangeSpec) : _root_.Go.OpenSpec := { _root_.Go.OpenSpec.ofChange s with cond := some uptoSmall }

/-- 'ostlerkeep.GroupsApart', WHERE WHAT IT READS IS OF BULK AT MOST 1048576: true; the input reads as it did. -/
def groupsApartUptoRow : OpenClaim := { program := "ytdlnofjmonpmgaa", sum := "3c396c816a023f5dd5ea8ba030870d16dbde83c247de7c06f88c1b85de969891", func := "ostler/ostlerkeep.GroupsApart", spec := "groupsApart", unfollowed := true, recurses := true, apart := false, narrowed := true }
def GroupsApartUptoSaid : Prop := groupsApartUptoRow.holds Try.pinned (OpenSpec.upto groupsApartSpec)

/-- 'ostlerkeep.GroupsAll', WHERE WHAT IT READS IS OF BULK AT MOST 1048576: true; the input reads as it did. -/
def groupsAllUptoRow : OpenClaim := { program := "ytdlnofjmonpmgaa", sum := "3c396c816a023f5dd5ea8ba030870d16dbde83c247de7c06f88c1b85de969891", func := "ostler/ostlerkeep.GroupsAll", spec := "groupsAll", unfollowed := true, recurses := true, apart := false, narrowed := true }
def GroupsAllUptoSaid : Prop := groupsAllUptoRow.holds Try.pinned (OpenSpec.upto groupsAllSpec)

/-- 'ostlerkeep.GroupsRing', WHERE WHAT IT READS IS OF BULK AT MOST 1048576: true; the input reads as it did. -/
def groupsRingUptoRow : OpenClaim := { program := "ytdlnofjmonpmgaa", sum := "3c396c816a023f5dd5ea8ba030870d16dbde83c247de7c06f88c1b85de969891", func := "ostler/ostlerkeep.GroupsRing", spec := "groupsRing", unfollowed := true, recurses := true, apart := false, narrowed := true }
def GroupsRingUptoSaid : Prop := groupsRingUptoRow.holds Try.pinned (OpenSpec.upto groupsRingSpec)

/-- 'ostlerkeep.GroupsReuse', WHERE WHAT IT READS IS OF BULK AT MOST 1048576: true; the input reads as it did. -/
def groupsReuseUptoRow : OpenClaim := { program := "ytdlnofjmonpmgaa", sum := "3c396c816a023f5dd5ea8ba030870d16dbde83c247de7c06f88c1b85de969891", func := "ostler/ostlerkeep.GroupsReuse", spec := "groupsReuse", unfollowed := true, recurses := true, apart := false, narrowed := true }
def GroupsReuseUptoSaid : Prop := groupsReuseUptoRow.holds Try.pinned (OpenSpec.upto groupsReuseSpec)

end Rows
end Go.Proofs.Ytdlnofjmonpmgaa
