/-
  What 'examine' stands on where loops are not asked for (laid under the name FlowP).
-/
import Derived.Test.YtmanjojjncjaiaaF2
import Derived.Test.YtmanjojjncjaiaaF1
import Derived.Test.YtmanjojjncjaiaaF3k
import Derived.Laws.EntriesVeiled
namespace Go.Proofs.Ytmanjojjncjaiaa
open Go.RowKit
set_option linter.unusedVariables false
end Go.Proofs.Ytmanjojjncjaiaa
