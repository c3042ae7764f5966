/-
  What 'examine' stands on where loops are not asked for (laid under the name FlowP).
-/
import Derived.Test.YtkbbmficmogmgaaF2
import Derived.Test.YtkbbmficmogmgaaF1
import Derived.Test.YtkbbmficmogmgaaF3k
import Derived.Laws.EntriesVeiled
namespace Go.Proofs.Ytkbbmficmogmgaa
open Go.RowKit
set_option linter.unusedVariables false
end Go.Proofs.Ytkbbmficmogmgaa
