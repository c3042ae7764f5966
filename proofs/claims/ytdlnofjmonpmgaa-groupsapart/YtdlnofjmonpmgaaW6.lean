/-
  What statements over pieces have in common: the machine, an empty function's shape.
-/
import Derived.Test.YtdlnofjmonpmgaaW5
import Derived.Test.YtdlnofjmonpmgaaW4
import Derived.Test.YtdlnofjmonpmgaaB2
namespace Go.Proofs.Ytdlnofjmonpmgaa
open Go.RowKit
set_option linter.unusedVariables false
theorem machine_bd (n:Int):2 ≤ 2 + pickedOf n 9∧2 + pickedOf n 9 ≤ 10:=by
 have:=pickedOf_bd n 9 (by omega)
 omega
end Go.Proofs.Ytdlnofjmonpmgaa
