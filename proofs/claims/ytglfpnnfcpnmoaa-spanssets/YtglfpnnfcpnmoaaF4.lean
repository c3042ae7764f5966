/-
  What 'examine' stands on where loops are not asked for (laid under the name FlowP).
-/
import Derived.Test.YtglfpnnfcpnmoaaF2
import Derived.Test.YtglfpnnfcpnmoaaF1
import Derived.Test.YtglfpnnfcpnmoaaF3k
import Derived.Laws.EntriesVeiled
namespace Go.Proofs.Ytglfpnnfcpnmoaa
open Go.RowKit
set_option linter.unusedVariables false
end Go.Proofs.Ytglfpnnfcpnmoaa
