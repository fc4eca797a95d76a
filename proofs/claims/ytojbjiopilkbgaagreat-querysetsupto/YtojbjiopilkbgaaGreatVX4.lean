/-
  What is within a node, one step further. A page of a document: what is in a node, however deep. What serial.Inner and serial.Outer answer. How long a text may be, and what leaves no trace: plain.
-/
import Derived.Test.YtojbjiopilkbgaaGreatVW32
import Derived.Test.YtojbjiopilkbgaaGreatVX3
import Derived.Test.YtojbjiopilkbgaaGreatVB16
namespace Go.Proofs.YtojbjiopilkbgaaGreat
section
open Go.RowKit
set_option linter.unusedVariables false
end
section
open Go.RowKit
set_option linter.unusedVariables false
set_option maxRecDepth 100000
set_option maxHeartbeats 4000000
end
section
open Go.RowKit
set_option linter.unusedVariables false
set_option maxRecDepth 100000
set_option maxHeartbeats 4000000
end
section
open Go.RowKit
set_option linter.unusedVariables false
end
end Go.Proofs.YtojbjiopilkbgaaGreat
