/-
  The walk of ShadowOnce.
-/
import Derived.Test.YtbhfnbplbkncmaaGreatVSSUysVa
import Derived.Test.YtbhfnbplbkncmaaGreatVSSUysVd
import Derived.Test.YtbhfnbplbkncmaaGreatVSSUysSk
import Derived.Test.YtbhfnbplbkncmaaGreatVSSUysRe
import Derived.Test.YtbhfnbplbkncmaaGreatZ37
import Derived.Test.YtbhfnbplbkncmaaGreatZ38
namespace Go.Proofs.YtbhfnbplbkncmaaGreat
open Go.RowKit Go.Sort
set_option linter.unusedVariables false
section
variable {K : Nat → Prop} {w V : World} {p host : Nat} {M : Dm} {R : Nat → List Nat} {rk : Nat → Nat}
theorem DX.ext (h : DX K w p M) (hk : Kept (fun k => k < w.heap.size) w V) : DX (fun j => K j ∨ (w.heap.size ≤ j ∧ j < V.heap.size)) V p M :=
  h.more hk (fun j h => h.elim .inl (fun h => .inr h.1)) (fun j hj => by
    rcases hj with hj | hj
    · exact Nat.lt_of_lt_of_le (h.lt j hj) hk.size
    · exact hj.2)
end
end Go.Proofs.YtbhfnbplbkncmaaGreat
