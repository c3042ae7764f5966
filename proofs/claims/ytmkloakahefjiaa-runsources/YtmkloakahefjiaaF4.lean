/-
  What 'examine' stands on where loops are not asked for (laid under the name FlowP).
-/
import Derived.Test.YtmkloakahefjiaaF2
import Derived.Test.YtmkloakahefjiaaF1
import Derived.Test.YtmkloakahefjiaaF3k
import Derived.Laws.EntriesVeiled
namespace Go.Proofs.Ytmkloakahefjiaa
open Go.RowKit
set_option linter.unusedVariables false
end Go.Proofs.Ytmkloakahefjiaa
