/-
  The program's order.Root of a node, shadow.Of.
-/
import Derived.Test.YtfeinppedejlpaaGreatNW28
import Derived.Test.YtfeinppedejlpaaGreatNB19
import Derived.Test.YtfeinppedejlpaaGreatNB16
import Derived.BigQuiet
namespace Go.Proofs.YtfeinppedejlpaaGreat
set_option linter.unusedVariables false
set_option maxRecDepth 100000
set_option maxHeartbeats 8000000
end Go.Proofs.YtfeinppedejlpaaGreat
