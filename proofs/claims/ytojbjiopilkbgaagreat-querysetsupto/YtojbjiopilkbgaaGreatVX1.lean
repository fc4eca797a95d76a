/-
  Rows of bytes that grow, and texts as they are written (plain functions). What strings.Builder does: copyCheck, WriteString, String, of a builder that a call has made itself. What escape.Text and escape.Value answer. A page that is written on: its bytes lie in memory of their own, outside K.
-/
import Derived.Test.YtojbjiopilkbgaaGreatProg
import Derived.Test.YtojbjiopilkbgaaGreatVB01
import Derived.Test.YtojbjiopilkbgaaGreatVB02
import Derived.Test.YtojbjiopilkbgaaGreatVB03
import Derived.Test.YtojbjiopilkbgaaGreatVB04
import Derived.Lib.Builder
import Derived.Lib.UnsafeStr
import Derived.Laws.Externs
import Derived.Laws.StandIn
import Derived.Deep.QuietTactic
import Derived.BigQuiet
import Derived.Deep.LoopGhost
namespace Go.Proofs.YtojbjiopilkbgaaGreat
section
open Go.RowKit
set_option linter.unusedVariables false
set_option maxRecDepth 100000
set_option maxHeartbeats 4000000
end
section
open Go.RowKit
set_option linter.unusedVariables false
set_option maxRecDepth 100000
set_option maxHeartbeats 4000000
end
section
open Go.RowKit
set_option linter.unusedVariables false
set_option maxRecDepth 100000
set_option maxHeartbeats 4000000
end
section
open Go.RowKit
set_option linter.unusedVariables false
set_option maxRecDepth 20000
set_option maxHeartbeats 2000000
end
end Go.Proofs.YtojbjiopilkbgaaGreat
