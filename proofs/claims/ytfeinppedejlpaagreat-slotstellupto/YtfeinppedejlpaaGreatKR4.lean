/-
  What else the walks call.
-/
import Derived.Test.YtfeinppedejlpaaGreatKNa
import Derived.Test.YtfeinppedejlpaaGreatKW28
import Derived.Test.YtfeinppedejlpaaGreatKW26
import Derived.Test.YtfeinppedejlpaaGreatKO1
import Derived.Test.YtfeinppedejlpaaGreatKW13
import Derived.RangeFuncNested
import Derived.RangeFuncBound
import Derived.RangeFuncCalls
import Derived.RangeFuncLeaves
import Derived.Shelf.Abstract
import Derived.Shelf.RegionOpen
import Derived.WalkKit
import Derived.OwnWalkIn
import Derived.TacticsInMore
import Derived.LoopNIn
import Derived.LoopIn
import Derived.Test.YtfeinppedejlpaaGreatKR3
import Derived.Test.YtfeinppedejlpaaGreatKB16
import Derived.Test.YtfeinppedejlpaaGreatKR2
namespace Go.Proofs.YtfeinppedejlpaaGreat
set_option linter.unusedVariables false
set_option maxRecDepth 100000
set_option maxHeartbeats 8000000
section
open Go.RowKit Go.Shelf
attribute [local go_sem] Oper.semAt_some
end
section
open Go.RowKit Go.Shelf
attribute [local go_sem] Oper.semAt_some
end
section
open Go.RowKit Go.Shelf
attribute [local go_sem] Oper.semAt_some
end
end Go.Proofs.YtfeinppedejlpaaGreat
