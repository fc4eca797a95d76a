/-
  The walk of ShadowOnce.
-/
import Derived.Test.YtbhfnbplbkncmaaGreatVSTUlsVa
import Derived.Test.YtbhfnbplbkncmaaGreatVSTUlsVd
import Derived.Test.YtbhfnbplbkncmaaGreatVSTUlsSk
import Derived.Test.YtbhfnbplbkncmaaGreatVSTUlsRe
import Derived.Test.YtbhfnbplbkncmaaGreatZ37
import Derived.Test.YtbhfnbplbkncmaaGreatZ38
namespace Go.Proofs.YtbhfnbplbkncmaaGreat
open Go.RowKit Go.Sort
set_option linter.unusedVariables false
section
variable {K : Nat → Prop} {w V : World} {p host : Nat} {M : Dm} {R : Nat → List Nat} {rk : Nat → Nat}
end
abbrev flB (f : Fg) : Obj := .cells #[.bool f.a, .bool f.b, .bool f.c, .bool f.d, .bool f.e] 34
end Go.Proofs.YtbhfnbplbkncmaaGreat
