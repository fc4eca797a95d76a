/-
  Nodes as a text, as plain functions on lists of bytes. Parts that are put on a page, one behind the other. Small steps on a page: the end of an element, texts, the beginning of an element; what is void, what is raw. Is a node void, is it raw; the beginning of an element. The beginning of an element, with its attributes. A root's flags as the attributes of its template.
-/
import Derived.Test.YtojbjiopilkbgaaGreatVX1
import Derived.Test.YtojbjiopilkbgaaGreatVB12
import Derived.Test.YtojbjiopilkbgaaGreatVB06
import Derived.Deep.LoopGhost
import Derived.Deep.RegionHeld3
import Derived.Test.YtojbjiopilkbgaaGreatVB16
import Derived.Deep.DeepCutAuto
namespace Go.Proofs.YtojbjiopilkbgaaGreat
section
set_option linter.unusedVariables false
end
section
open Go.RowKit
set_option linter.unusedVariables false
set_option maxRecDepth 20000
set_option maxHeartbeats 2000000
end
section
open Go.RowKit
set_option linter.unusedVariables false
set_option maxRecDepth 100000
set_option maxHeartbeats 4000000
end
section
open Go.RowKit
set_option linter.unusedVariables false
set_option maxRecDepth 100000
set_option maxHeartbeats 4000000
end
section
open Go.RowKit
set_option linter.unusedVariables false
set_option maxRecDepth 100000
set_option maxHeartbeats 4000000
end
section
open Go.RowKit
set_option linter.unusedVariables false
set_option maxRecDepth 100000
set_option maxHeartbeats 4000000
end
end Go.Proofs.YtojbjiopilkbgaaGreat
