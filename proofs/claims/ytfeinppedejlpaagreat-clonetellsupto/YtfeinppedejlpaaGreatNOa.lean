/-
  Rows of numbers that a walk makes; a tree as a row.
-/
import Derived.Test.YtfeinppedejlpaaGreatNW32
import Derived.RangeFuncNested
import Derived.RangeFuncBound
import Derived.RangeFuncCalls
import Derived.RangeFuncLeaves
import Derived.Shelf.Abstract
import Derived.Shelf.RegionOpen
import Derived.WalkKit
import Derived.OwnWalkIn
import Derived.TacticsInMore
import Derived.LoopNIn
import Derived.LoopIn
import Derived.Laws.EntriesVeiled
namespace Go.Proofs.YtfeinppedejlpaaGreat
set_option linter.unusedVariables false
set_option maxRecDepth 100000
set_option maxHeartbeats 8000000
open Go.RowKit Go.Sort
theorem zaz (X : World) (cs : Array Value) (t : TypeId) : ∃ V N, X.alloc (.cells cs t) = V /\ X.heap.size = N /\ V.heap[N]? = some (.cells cs t (0, 0)) /\ Kept (fun k => k < X.heap.size) X V /\ V.heap.size = X.heap.size + 1 :=
 ⟨_, _, rfl, rfl, heap_alloc_new X _, (Kept.refl _ X).alloc (fun _ h => h) _, by simp⟩
end Go.Proofs.YtfeinppedejlpaaGreat
