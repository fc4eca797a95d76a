/-
  What names.Void, Raw, Soft, Block and isTaken answer.
-/
import Derived.Test.YtbbknbipppaemaaProg
import Derived.Test.YtbbknbipppaemaaBase
import Derived.Test.YtbbknbipppaemaaKPure
import Derived.Test.YtbbknbipppaemaaBT
namespace Go.Proofs.Ytbbknbipppaemaa
open Go.RowKit

set_option maxRecDepth 20000 in
set_option maxHeartbeats 4000000 in
theorem void_any (s : ByteArray) (K : Nat → Prop) (w : World) :
    Calls Try.prog 43 #[.string s] w fun e w' => e = .returned (.bool (voidP s.toList)) ∧ Kept K w w' := by
  go_enter Try.func43, Try.ntmps43
  go_wp2
  all_goals first | (simp_all; done) | (go_ret; exact ⟨by simp [voidP, voidL, *], Kept.refl _ _⟩)
end Go.Proofs.Ytbbknbipppaemaa
