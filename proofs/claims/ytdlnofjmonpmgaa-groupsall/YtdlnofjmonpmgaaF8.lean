/-
  What statements over pieces stand on, where dominators are not asked for (laid under the name LawB).
-/
import Derived.Test.YtdlnofjmonpmgaaW6
import Derived.Test.YtdlnofjmonpmgaaB3
import Derived.Test.YtdlnofjmonpmgaaF6
import Derived.Test.YtdlnofjmonpmgaaF7
namespace Go.Proofs.Ytdlnofjmonpmgaa
open Go.RowKit
set_option linter.unusedVariables false
end Go.Proofs.Ytdlnofjmonpmgaa
