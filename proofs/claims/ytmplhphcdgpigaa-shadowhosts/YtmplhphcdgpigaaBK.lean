/-
  What names.Void, Raw, Soft, Block and isTaken answer.
-/
import Derived.Test.YtmplhphcdgpigaaProg
import Derived.Test.YtmplhphcdgpigaaBase
import Derived.Test.YtmplhphcdgpigaaKPure
import Derived.Test.YtmplhphcdgpigaaBT
namespace Go.Proofs.Ytmplhphcdgpigaa
open Go.RowKit

set_option maxRecDepth 20000 in
set_option maxHeartbeats 4000000 in
theorem void_any (s : ByteArray) (K : Nat → Prop) (w : World) :
    Calls Try.prog 37 #[.string s] w fun e w' => e = .returned (.bool (voidP s.toList)) ∧ Kept K w w' := by
  go_enter Try.func37, Try.ntmps37
  go_wp2
  all_goals first | (simp_all; done) | (go_ret; exact ⟨by simp [voidP, voidL, *], Kept.refl _ _⟩)
end Go.Proofs.Ytmplhphcdgpigaa
