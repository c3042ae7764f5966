/-
  What 'examine' stands on where loops are not asked for (laid under the name FlowP).
-/
import Derived.Test.YtjpmkamacbenhaaF2
import Derived.Test.YtjpmkamacbenhaaF1
import Derived.Test.YtjpmkamacbenhaaF3k
import Derived.Laws.EntriesVeiled
namespace Go.Proofs.Ytjpmkamacbenhaa
open Go.RowKit
set_option linter.unusedVariables false
end Go.Proofs.Ytjpmkamacbenhaa
