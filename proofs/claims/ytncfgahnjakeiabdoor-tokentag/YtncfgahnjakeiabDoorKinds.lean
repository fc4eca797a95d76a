/-
  What names.Raw and names.Soft answer.
-/
import Derived.Test.YtncfgahnjakeiabDoorProg
import Derived.Test.YtncfgahnjakeiabDoorBase
import Derived.Test.YtncfgahnjakeiabDoorNPure
import Derived.Deep.QuietTactic
import Derived.BigQuiet
namespace Go.Proofs.YtncfgahnjakeiabDoor
open Go.RowKit
set_option maxRecDepth 20000 in
set_option maxHeartbeats 4000000 in
theorem raw_any (s : ByteArray) (K : Nat → Prop) (w : World) :
    Calls Tryd.prog 64 #[.string s] w fun e w' => e = .returned (.bool (rawP s.toList)) ∧ Kept K w w' := by
  go_enter Tryd.func64, Tryd.ntmps64
  go_wp2
  all_goals first | (simp_all; done) | (go_ret; exact ⟨by simp [rawP, rawL, *], Kept.refl _ _⟩)
theorem soft_any (s : ByteArray) (K : Nat → Prop) (w : World) :
    Calls Tryd.prog 63 #[.string s] w fun e w' => e = .returned (.bool (softP s.toList)) ∧ Kept K w w' := by
  by_cases h1 : (s.toList == [116, 105, 116, 108, 101]) = true
  · go_enter Tryd.func63, Tryd.ntmps63
    go_wp2
    go_ret
    exact ⟨by simp [softP, softL, *], Kept.refl _ _⟩
  · have h1 : (s.toList == [116, 105, 116, 108, 101]) = false := by simpa using h1
    go_enter Tryd.func63, Tryd.ntmps63
    go_wp2
    go_ret
    exact ⟨by simp [softP, softL, h1], Kept.refl _ _⟩

end Go.Proofs.YtncfgahnjakeiabDoor
