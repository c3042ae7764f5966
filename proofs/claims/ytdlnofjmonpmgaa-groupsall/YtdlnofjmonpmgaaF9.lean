/-
  The contract of 'flow.Check' that fits statements over pieces.
-/
import Derived.Test.YtdlnofjmonpmgaaF8
import Derived.Test.YtdlnofjmonpmgaaF9s
namespace Go.Proofs.Ytdlnofjmonpmgaa
open Go.RowKit
set_option linter.unusedVariables false
end Go.Proofs.Ytdlnofjmonpmgaa
