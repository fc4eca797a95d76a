/-
 The document's own order.Root, shadow.Of, Open.; What is told of a document that only is read.; Trees have no node twice; who stands in one (pure).
-/
import Derived.Test.YtfeinppedejlpaaGreatNNa
import Derived.Test.YtfeinppedejlpaaGreatNW17
import Derived.Test.YtfeinppedejlpaaGreatNW26
import Derived.Test.YtfeinppedejlpaaGreatNW28
import Derived.Test.YtfeinppedejlpaaGreatNR1
import Derived.Test.YtfeinppedejlpaaGreatNB19
import Derived.BigQuiet
namespace Go.Proofs.YtfeinppedejlpaaGreat
set_option linter.unusedVariables false
set_option maxRecDepth 100000
set_option maxHeartbeats 8000000
end Go.Proofs.YtfeinppedejlpaaGreat
