/-
 portierelaw10: heavy, and both documents behind calls.; Attributes, slots, and who asks for them, as plain functions (pure).
-/
import Derived.Test.YtfeinppedejlpaaGreatNW28
import Derived.Test.YtfeinppedejlpaaGreatNW26
import Derived.Test.YtfeinppedejlpaaGreatNW17
import Derived.Test.YtfeinppedejlpaaGreatNB19
import Derived.Deep.MidRow
namespace Go.Proofs.YtfeinppedejlpaaGreat
set_option linter.unusedVariables false
set_option maxRecDepth 100000
set_option maxHeartbeats 8000000
section
open Go.RowKit Go.Sort
theorem Zmt.inn {o : Opx} (h : Zmt o) : Zmt { o with inn := true } := ⟨h.k, h.nk, h.a, h.b, h.c, h.l⟩
end
end Go.Proofs.YtfeinppedejlpaaGreat
