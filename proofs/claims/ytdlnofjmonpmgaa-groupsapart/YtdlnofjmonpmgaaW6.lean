/-
  What statements over pieces have in common: the machine, an empty function's shape.
-/
import Derived.Test.YtdlnofjmonpmgaaW5
import Derived.Test.YtdlnofjmonpmgaaW4
import Derived.Test.YtdlnofjmonpmgaaB2
namespace Go.Proofs.Ytdlnofjmonpmgaa
open Go.RowKit
set_option linter.unusedVariables false
theorem machine_bd (n:Int):2 ≤ 2 + pickedOf n 9∧2 + pickedOf n 9 ≤ 10:=by
 have:=pickedOf_bd n 9 (by omega)
 omega
theorem shape_empty (m0 m1:Int) (h0:2 ≤ m0∧m0 ≤ 10) (h1:2 ≤ m1∧m1 ≤ 10):shapeErr ⟨[],[]⟩ m0 m1 = 1:=by
 have hm:machErr m0 m1 = 0:=by unfold machErr; rw [if_pos ⟨h0.1,h0.2,h1.1,h1.2⟩]
 unfold shapeErr
 rw [hm,if_neg (by simp),if_pos (by simp [sizesB])]
end Go.Proofs.Ytdlnofjmonpmgaa
