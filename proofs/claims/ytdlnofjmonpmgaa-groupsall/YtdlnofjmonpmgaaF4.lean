/-
  What 'examine' stands on where loops are not asked for (laid under the name FlowP).
-/
import Derived.Test.YtdlnofjmonpmgaaF2
import Derived.Test.YtdlnofjmonpmgaaF1
import Derived.Test.YtdlnofjmonpmgaaF3k
import Derived.Laws.EntriesVeiled
namespace Go.Proofs.Ytdlnofjmonpmgaa
open Go.RowKit
set_option linter.unusedVariables false
end Go.Proofs.Ytdlnofjmonpmgaa
