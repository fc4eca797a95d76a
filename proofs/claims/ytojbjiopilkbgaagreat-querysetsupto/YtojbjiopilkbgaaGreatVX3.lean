/-
  A new page: which roots are asked for. A page of a document: an element, a node. A page of a document: a node, whatever it is. A page of a document: a shadow root. A page of a document: what is in a node.
-/
import Derived.Test.YtojbjiopilkbgaaGreatVX2
import Derived.Test.YtojbjiopilkbgaaGreatVW22
import Derived.Test.YtojbjiopilkbgaaGreatVB10
namespace Go.Proofs.YtojbjiopilkbgaaGreat
section
open Go.RowKit
set_option linter.unusedVariables false
set_option maxRecDepth 100000
set_option maxHeartbeats 4000000
end
section
open Go.RowKit
set_option linter.unusedVariables false
set_option maxRecDepth 100000
set_option maxHeartbeats 4000000
end
section
open Go.RowKit
set_option linter.unusedVariables false
set_option maxRecDepth 100000
set_option maxHeartbeats 4000000
end
section
open Go.RowKit
set_option linter.unusedVariables false
set_option maxRecDepth 100000
set_option maxHeartbeats 4000000
end
section
open Go.RowKit
set_option linter.unusedVariables false
set_option maxRecDepth 100000
set_option maxHeartbeats 4000000
end
end Go.Proofs.YtojbjiopilkbgaaGreat
