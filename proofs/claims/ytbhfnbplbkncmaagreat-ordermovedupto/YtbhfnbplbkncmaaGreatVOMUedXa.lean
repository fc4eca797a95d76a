/-
  The walk of OrderTop.
-/
import Derived.Test.YtbhfnbplbkncmaaGreatVOMUedKh
import Derived.Test.YtbhfnbplbkncmaaGreatVOMUedVd
import Derived.Lib.QuietBelow
import Derived.BigQuiet
namespace Go.Proofs.YtbhfnbplbkncmaaGreat
open Go.RowKit Go.Sort
set_option linter.unusedVariables false
section
variable {K E : Nat → Prop} {w : World} {p r : Nat} {M : Dm} {R G : Nat → List Nat} {rk : Nat → Nat} {lim : Nat}
theorem Grown.top (h : Grown K E w p r M R G rk lim) (hl : lim ≤ 100000) {i t : Nat} (hi : i < M.n) (hT : TopT M i t) {X : World} (hk : Kept (fun k => k < w.heap.size) w X) :
    Calls Tryz.prog 25 #[.pointer (some ⟨p, 0, none⟩), .int .i64 (i : Int)] X fun e w' => e = .returned (.int .i64 (t : Int)) ∧ Kept (fun k => k < X.heap.size) X w' :=
  top_any _ p M R G rk w h.two.d h.inv (h.nle hl) _ i (Nat.lt_succ_self _) hi t hT X hk
end
end Go.Proofs.YtbhfnbplbkncmaaGreat
