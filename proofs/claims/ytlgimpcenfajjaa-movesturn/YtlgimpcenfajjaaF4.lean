/-
  What 'examine' stands on where loops are not asked for (laid under the name FlowP).
-/
import Derived.Test.YtlgimpcenfajjaaF2
import Derived.Test.YtlgimpcenfajjaaF1
import Derived.Test.YtlgimpcenfajjaaF3k
import Derived.Laws.EntriesVeiled
namespace Go.Proofs.Ytlgimpcenfajjaa
open Go.RowKit
set_option linter.unusedVariables false
end Go.Proofs.Ytlgimpcenfajjaa
