/-
  What the document's Raw and Soft answer.
-/
import Derived.Test.YtffllhohlfblnaaProg
import Derived.Test.YtffllhohlfblnaaBase
import Derived.Test.YtffllhohlfblnaaAmong
import Derived.Deep.QuietTactic
import Derived.BigQuiet
namespace Go.Proofs.Ytffllhohlfblnaa
open Go.RowKit
theorem rraw_any (s : ByteArray) (K : Nat → Prop) (w : World) :
    Calls Try.prog 50 #[.string s] w fun e w' => e = .returned (.bool (rawP s.toList)) ∧ Kept K w w' := by
  have h1 := fun X => among_any rawT s K X (by decide +kernel)
  rw [among_raw] at h1
  go_enter Try.func50, Try.ntmps50
  go_wp2_with fail
  refine (h1 _).mono ?_
  rintro e w1 ⟨rfl, hk1⟩
  go_wp2
  go_ret
  exact ⟨rfl, hk1⟩
theorem rsoft_any (s : ByteArray) (K : Nat → Prop) (w : World) :
    Calls Try.prog 49 #[.string s] w fun e w' => e = .returned (.bool (softP s.toList)) ∧ Kept K w w' := by
  have h1 := fun X => among_any softT s K X (by decide +kernel)
  rw [among_soft] at h1
  go_enter Try.func49, Try.ntmps49
  go_wp2_with fail
  refine (h1 _).mono ?_
  rintro e w1 ⟨rfl, hk1⟩
  go_wp2
  go_ret
  exact ⟨rfl, hk1⟩
end Go.Proofs.Ytffllhohlfblnaa
