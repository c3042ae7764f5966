/-
  What 'examine' stands on where loops are not asked for (laid under the name FlowP).
-/
import Derived.Test.YtikapgmhdanmnaaF2
import Derived.Test.YtikapgmhdanmnaaF1
import Derived.Test.YtikapgmhdanmnaaF3k
import Derived.Laws.EntriesVeiled
namespace Go.Proofs.Ytikapgmhdanmnaa
open Go.RowKit
set_option linter.unusedVariables false
end Go.Proofs.Ytikapgmhdanmnaa
