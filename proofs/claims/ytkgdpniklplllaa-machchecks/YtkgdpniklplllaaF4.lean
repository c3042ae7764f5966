/-
  What 'examine' stands on where loops are not asked for (laid under the name FlowP).
-/
import Derived.Test.YtkgdpniklplllaaF2
import Derived.Test.YtkgdpniklplllaaF1
import Derived.Test.YtkgdpniklplllaaF3k
import Derived.Laws.EntriesVeiled
namespace Go.Proofs.Ytkgdpniklplllaa
open Go.RowKit
set_option linter.unusedVariables false
end Go.Proofs.Ytkgdpniklplllaa
