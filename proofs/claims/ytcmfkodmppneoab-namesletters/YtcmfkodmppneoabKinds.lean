/-
  What names.Void, Raw, Soft, Block and isTaken answer.
-/
import Derived.Test.YtcmfkodmppneoabProg
import Derived.Test.YtcmfkodmppneoabBase
import Derived.Test.YtcmfkodmppneoabPure
namespace Go.Proofs.Ytcmfkodmppneoab
open Go.RowKit

set_option maxRecDepth 20000 in
set_option maxHeartbeats 4000000 in
theorem void_any (s : ByteArray) (K : Nat → Prop) (w : World) :
    Calls Try.prog 8 #[.string s] w fun e w' => e = .returned (.bool (voidP s.toList)) ∧ Kept K w w' := by
  go_enter Try.func8, Try.ntmps8
  go_wp2
  all_goals first | (simp_all; done) | (go_ret; exact ⟨by simp [voidP, voidL, *], Kept.refl _ _⟩)
set_option maxRecDepth 20000 in
set_option maxHeartbeats 4000000 in
theorem raw_any (s : ByteArray) (K : Nat → Prop) (w : World) :
    Calls Try.prog 13 #[.string s] w fun e w' => e = .returned (.bool (rawP s.toList)) ∧ Kept K w w' := by
  go_enter Try.func13, Try.ntmps13
  go_wp2
  all_goals first | (simp_all; done) | (go_ret; exact ⟨by simp [rawP, rawL, *], Kept.refl _ _⟩)
set_option maxRecDepth 20000 in
set_option maxHeartbeats 4000000 in
theorem block_any (s : ByteArray) (K : Nat → Prop) (w : World) :
    Calls Try.prog 15 #[.string s] w fun e w' => e = .returned (.bool (blockP s.toList)) ∧ Kept K w w' := by
  go_enter Try.func15, Try.ntmps15
  go_wp2
  all_goals first | (simp_all; done) | (go_ret; exact ⟨by simp [blockP, blockL, *], Kept.refl _ _⟩)
set_option maxRecDepth 20000 in
set_option maxHeartbeats 4000000 in
theorem taken_any (s : ByteArray) (K : Nat → Prop) (w : World) :
    Calls Try.prog 18 #[.string s] w fun e w' => e = .returned (.bool (takenP s.toList)) ∧ Kept K w w' := by
  go_enter Try.func18, Try.ntmps18
  go_wp2
  all_goals first | (simp_all; done) | (go_ret; exact ⟨by simp [takenP, takenL, *], Kept.refl _ _⟩)
end Go.Proofs.Ytcmfkodmppneoab
