/-
  What names.Raw and names.Soft answer.
-/
import Derived.Test.YtncfgahnjakeiaaDoorProg
import Derived.Test.YtncfgahnjakeiaaDoorBase
import Derived.Test.YtncfgahnjakeiaaDoorNPure
import Derived.Deep.QuietTactic
import Derived.BigQuiet
namespace Go.Proofs.YtncfgahnjakeiaaDoor
open Go.RowKit
set_option maxRecDepth 20000 in
set_option maxHeartbeats 4000000 in
theorem raw_any (s : ByteArray) (K : Nat → Prop) (w : World) :
    Calls Tryd.prog 94 #[.string s] w fun e w' => e = .returned (.bool (rawP s.toList)) ∧ Kept K w w' := by
  go_enter Tryd.func94, Tryd.ntmps94
  go_wp2
  all_goals first | (simp_all; done) | (go_ret; exact ⟨by simp [rawP, rawL, *], Kept.refl _ _⟩)
theorem soft_any (s : ByteArray) (K : Nat → Prop) (w : World) :
    Calls Tryd.prog 93 #[.string s] w fun e w' => e = .returned (.bool (softP s.toList)) ∧ Kept K w w' := by
  by_cases h1 : (s.toList == [116, 105, 116, 108, 101]) = true
  · go_enter Tryd.func93, Tryd.ntmps93
    go_wp2
    go_ret
    exact ⟨by simp [softP, softL, *], Kept.refl _ _⟩
  · have h1 : (s.toList == [116, 105, 116, 108, 101]) = false := by simpa using h1
    go_enter Tryd.func93, Tryd.ntmps93
    go_wp2
    go_ret
    exact ⟨by simp [softP, softL, h1], Kept.refl _ _⟩

end Go.Proofs.YtncfgahnjakeiaaDoor
