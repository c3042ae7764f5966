/-
  What statements over pieces stand on, where dominators are not asked for (laid under the name LawB).
-/
import Derived.Test.YtglfpnnfcpnmoaaW6
import Derived.Test.YtglfpnnfcpnmoaaB3
import Derived.Test.YtglfpnnfcpnmoaaF6
import Derived.Test.YtglfpnnfcpnmoaaF7
namespace Go.Proofs.Ytglfpnnfcpnmoaa
open Go.RowKit
set_option linter.unusedVariables false
theorem sl_nil0 {α:Type} (w:World) (k:Nat) (R:List Value → α → Prop):SlOf w k R (.slice none 0 0) []:=SlOf_nil _ _ _ _ _
end Go.Proofs.Ytglfpnnfcpnmoaa
