/-
 portierelaw10: heavy, and both documents behind calls.; Attributes, slots, and who asks for them, as plain functions (pure).
-/
import Derived.Test.YtojbjiopilkbgaaGreatVW28
import Derived.Test.YtojbjiopilkbgaaGreatVW26
import Derived.Test.YtojbjiopilkbgaaGreatVW17
import Derived.Test.YtojbjiopilkbgaaGreatVB19
import Derived.Deep.MidRow
namespace Go.Proofs.YtojbjiopilkbgaaGreat
set_option linter.unusedVariables false
set_option maxRecDepth 100000
set_option maxHeartbeats 8000000
section
open Go.RowKit Go.Sort
theorem Zkz.inn {o : Opx} (h : Zkz o) : Zkz { o with inn := true } := ⟨h.k, h.nk, h.a, h.b, h.c, h.l⟩
end
end Go.Proofs.YtojbjiopilkbgaaGreat
