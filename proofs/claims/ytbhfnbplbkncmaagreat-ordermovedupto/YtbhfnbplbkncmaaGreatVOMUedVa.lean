/-
  portierelaw10: heavy, and both documents behind calls.
-/
import Derived.Test.YtbhfnbplbkncmaaGreatY37
import Derived.Test.YtbhfnbplbkncmaaGreatYM38
import Derived.Test.YtbhfnbplbkncmaaGreatZ23
import Derived.Deep.MidRow
namespace Go.Proofs.YtbhfnbplbkncmaaGreat
open Go.RowKit Go.Sort
set_option linter.unusedVariables false
theorem OpOk.inn {o : Opx} (h : OpOk o) : OpOk { o with inn := true } := ⟨h.k, h.nk, h.a, h.b, h.c, h.l⟩
end Go.Proofs.YtbhfnbplbkncmaaGreat
