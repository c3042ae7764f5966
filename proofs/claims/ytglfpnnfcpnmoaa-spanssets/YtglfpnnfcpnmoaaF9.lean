/-
  The contract of 'flow.Check' that fits statements over pieces.
-/
import Derived.Test.YtglfpnnfcpnmoaaF8
import Derived.Test.YtglfpnnfcpnmoaaF9s
namespace Go.Proofs.Ytglfpnnfcpnmoaa
open Go.RowKit
set_option linter.unusedVariables false
theorem flowCheck_is (f:Fn) (K nv nb:Nat) (m0 m1:Int) (av ab:Option Addr) (cv cb:Nat) (r:Int) (hr:flowE f m0 m1 K = r) (hnv:f.values.length = nv) (hnb:f.blocks.length = nb) (w:World) (hv:SlOf w 1 RInt (.slice av nv cv) f.values) (hb:SlOf w 3 (RBlk w) (.slice ab nb cb) f.blocks) (hin:shapeErr f m0 m1 = 0 → FlowIn f K) :
  Calls Try.prog 17 #[.agg #[.slice av nv cv,.slice ab nb cb],.agg #[.int .i64 m0,.int .i64 m1]] w fun e w' => e = .returned (.int .i64 r)∧Below w.heap.size w w':=by
 subst hnv hnb; exact flowCheck_any f K m0 m1 av ab cv cb r hr w hv hb hin
theorem flow_empty (m0 m1:Int) (K:Nat) (h0:2 ≤ m0∧m0 ≤ 10) (h1:2 ≤ m1∧m1 ≤ 10):flowE ⟨[],[]⟩ m0 m1 K = 1:=by
 unfold flowE
 rw [shape_empty m0 m1 h0 h1,if_pos (by simp)]
end Go.Proofs.Ytglfpnnfcpnmoaa
