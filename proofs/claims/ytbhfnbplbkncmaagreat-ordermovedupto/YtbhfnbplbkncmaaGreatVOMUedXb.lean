/-
  The walk of OrderCounts.
-/
import Derived.Test.YtbhfnbplbkncmaaGreatVOMUedXa
namespace Go.Proofs.YtbhfnbplbkncmaaGreat
open Go.RowKit Go.Sort
set_option linter.unusedVariables false
section
variable {K E : Nat → Prop} {w : World} {p r : Nat} {M : Dm} {R G : Nat → List Nat} {rk : Nat → Nat} {lim : Nat}
theorem Grown.tree (h : Grown K E w p r M R G rk lim) (hl : lim ≤ 100000) (i : Int) {X : World} (hk : Kept (fun k => k < w.heap.size) w X) : Calls Tryz.prog 27 #[.pointer (some ⟨p, 0, none⟩), .int .i64 i] X (Lst X (trI M.n R i)) :=
  tree_any _ p M R rk X (h.two.d.kept hk) h.inv.good (h.nle hl) i
theorem Grown.all (h : Grown K E w p r M R G rk lim) (hl : lim ≤ 100000) (i : Int) {X : World} (hk : Kept (fun k => k < w.heap.size) w X) : Calls Tryz.prog 28 #[.pointer (some ⟨p, 0, none⟩), .int .i64 i] X (Lst X (trI M.n (fwd M R) i)) :=
  all_any _ p M R G rk X (h.two.d.kept hk) h.inv (h.nle hl) i
end
end Go.Proofs.YtbhfnbplbkncmaaGreat
