/-
 order.from: what it hands back goes through a node and all that follow it.; order.Tree, order.All: WHAT THEY TELL.; order.Before: WHAT IT TELLS.; The document's own order.Top, Tree, All.
-/
import Derived.Test.YtfeinppedejlpaaGreatKNa
import Derived.Test.YtfeinppedejlpaaGreatKR1
import Derived.Test.YtfeinppedejlpaaGreatKOa
import Derived.Test.YtfeinppedejlpaaGreatKB16
import Derived.Test.YtfeinppedejlpaaGreatKR2
import Derived.Test.YtfeinppedejlpaaGreatKB15
import Derived.Test.YtfeinppedejlpaaGreatKW29
import Derived.Test.YtfeinppedejlpaaGreatKW26
import Derived.Test.YtfeinppedejlpaaGreatKW17
import Derived.Deep.MidRow
namespace Go.Proofs.YtfeinppedejlpaaGreat
set_option linter.unusedVariables false
set_option maxRecDepth 100000
set_option maxHeartbeats 8000000
section
open Go.RowKit Go.Shelf
attribute [local go_sem] Oper.semAt_some
end
section
open Go.RowKit Go.Shelf
attribute [local go_sem] Oper.semAt_some
end
end Go.Proofs.YtfeinppedejlpaaGreat
