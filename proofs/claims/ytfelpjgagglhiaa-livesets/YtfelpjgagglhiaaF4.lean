/-
  What 'examine' stands on where loops are not asked for (laid under the name FlowP).
-/
import Derived.Test.YtfelpjgagglhiaaF2
import Derived.Test.YtfelpjgagglhiaaF1
import Derived.Test.YtfelpjgagglhiaaF3k
import Derived.Laws.EntriesVeiled
namespace Go.Proofs.Ytfelpjgagglhiaa
open Go.RowKit
set_option linter.unusedVariables false
end Go.Proofs.Ytfelpjgagglhiaa
