/-
  The walk of CloneFlat.
-/
import Derived.Test.YtfeinppedejlpaaGreatNCk
import Derived.Test.YtfeinppedejlpaaGreatNDg
import Derived.Test.YtfeinppedejlpaaGreatNTn
namespace Go.Proofs.YtfeinppedejlpaaGreat
open Go.RowKit Go.Sort
set_option linter.unusedVariables false
set_option maxRecDepth 100000
set_option maxHeartbeats 8000000
theorem zrf (n : Nat) (hnn : 60 < n) (a : Option Addr) (c : Nat) (w : World) :
  Calls Tryz.prog 49 #[.slice a n c] w fun e w' => e = .returned (.bool true) /\ Kept (fun k => k < w.heap.size) w w' := by
 have hg60 : decide ((n : Int) > 60) = true := decide_eq_true (by omega)
 go_enter Tryz.func49, Tryz.ntmps49
 go_wp2
 go_ret
 exact ⟨rfl, Kept.refl _ _⟩
end Go.Proofs.YtfeinppedejlpaaGreat
