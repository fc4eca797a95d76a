/-
  What the document's Raw and Soft answer.
-/
import Derived.Test.YtncfgahnjakeiaaDoorProg
import Derived.Test.YtncfgahnjakeiaaDoorBase
import Derived.Test.YtncfgahnjakeiaaDoorAmong
import Derived.Deep.QuietTactic
import Derived.BigQuiet
namespace Go.Proofs.YtncfgahnjakeiaaDoor
open Go.RowKit
theorem rraw_any (s : ByteArray) (K : Nat → Prop) (w : World) :
    Calls Tryd.prog 62 #[.string s] w fun e w' => e = .returned (.bool (rawP s.toList)) ∧ Kept K w w' := by
  have h1 := fun X => among_any rawT s K X (by decide +kernel)
  rw [among_raw] at h1
  go_enter Tryd.func62, Tryd.ntmps62
  go_wp2_with fail
  refine (h1 _).mono ?_
  rintro e w1 ⟨rfl, hk1⟩
  go_wp2
  go_ret
  exact ⟨rfl, hk1⟩
theorem rsoft_any (s : ByteArray) (K : Nat → Prop) (w : World) :
    Calls Tryd.prog 61 #[.string s] w fun e w' => e = .returned (.bool (softP s.toList)) ∧ Kept K w w' := by
  have h1 := fun X => among_any softT s K X (by decide +kernel)
  rw [among_soft] at h1
  go_enter Tryd.func61, Tryd.ntmps61
  go_wp2_with fail
  refine (h1 _).mono ?_
  rintro e w1 ⟨rfl, hk1⟩
  go_wp2
  go_ret
  exact ⟨rfl, hk1⟩
end Go.Proofs.YtncfgahnjakeiaaDoor
