/-
  What statements over pieces have in common: the machine, an empty function's shape.
-/
import Derived.Test.YtglfpnnfcpnmoaaW5
import Derived.Test.YtglfpnnfcpnmoaaW4
import Derived.Test.YtglfpnnfcpnmoaaB2
namespace Go.Proofs.Ytglfpnnfcpnmoaa
open Go.RowKit
set_option linter.unusedVariables false
theorem shape_is2 (f:Fn) (m0 m1:Int) (vv vb:Value) (w:World) (r:Int) (hr:shapeErr f m0 m1 = r) (hv0:SlOf w 1 RInt vv f.values) (hb0:SlOf w 3 (RBlk w) vb f.blocks) :
  Calls Try.prog 35 #[.agg #[vv,vb],.agg #[.int .i64 m0,.int .i64 m1]] w fun e w' => e = .returned (.int .i64 r)∧Below w.heap.size w w':=by
 rw [← hr]; exact check_any f m0 m1 vv vb w hv0 hb0
theorem machine_bd (n:Int):2 ≤ 2 + pickedOf n 9∧2 + pickedOf n 9 ≤ 10:=by
 have:=pickedOf_bd n 9 (by omega)
 omega
theorem shape_empty (m0 m1:Int) (h0:2 ≤ m0∧m0 ≤ 10) (h1:2 ≤ m1∧m1 ≤ 10):shapeErr ⟨[],[]⟩ m0 m1 = 1:=by
 have hm:machErr m0 m1 = 0:=by unfold machErr; rw [if_pos ⟨h0.1,h0.2,h1.1,h1.2⟩]
 unfold shapeErr
 rw [hm,if_neg (by simp),if_pos (by simp [sizesB])]
end Go.Proofs.Ytglfpnnfcpnmoaa
