/-
  What 'examine' stands on where loops are not asked for (laid under the name FlowP).
-/
import Derived.Test.YtjbjnndmpheedaaF2
import Derived.Test.YtjbjnndmpheedaaF1
import Derived.Test.YtjbjnndmpheedaaF3k
import Derived.Laws.EntriesVeiled
namespace Go.Proofs.Ytjbjnndmpheedaa
open Go.RowKit
set_option linter.unusedVariables false
end Go.Proofs.Ytjbjnndmpheedaa
