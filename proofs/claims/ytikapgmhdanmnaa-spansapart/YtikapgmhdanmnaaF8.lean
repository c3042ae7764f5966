/-
  What statements over pieces stand on, where dominators are not asked for (laid under the name LawB).
-/
import Derived.Test.YtikapgmhdanmnaaW6
import Derived.Test.YtikapgmhdanmnaaB3
import Derived.Test.YtikapgmhdanmnaaF6
import Derived.Test.YtikapgmhdanmnaaF7
namespace Go.Proofs.Ytikapgmhdanmnaa
open Go.RowKit
set_option linter.unusedVariables false

theorem sl_nil0 {α : Type} (w : World) (k : Nat) (R : List Value → α → Prop) : SlOf w k R (.slice none 0 0) [] := SlOf_nil _ _ _ _ _
end Go.Proofs.Ytikapgmhdanmnaa
