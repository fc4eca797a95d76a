/-
 portierelaw10: heavy, and both documents behind calls.; Attributes, slots, and who asks for them, as plain functions (pure).
-/
import Derived.Test.YtikaheenjhdpmaaGreatVW28
import Derived.Test.YtikaheenjhdpmaaGreatVW26
import Derived.Test.YtikaheenjhdpmaaGreatVW17
import Derived.Test.YtikaheenjhdpmaaGreatVB19
import Derived.Deep.MidRow
namespace Go.Proofs.YtikaheenjhdpmaaGreat
set_option linter.unusedVariables false
set_option maxRecDepth 100000
set_option maxHeartbeats 8000000
section
open Go.RowKit Go.Sort
theorem Zme.inn {o : Opx} (h : Zme o) : Zme { o with inn := true } := ⟨h.k, h.nk, h.a, h.b, h.c, h.l⟩
end
end Go.Proofs.YtikaheenjhdpmaaGreat
