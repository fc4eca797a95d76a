/-
  What the document's Raw and Soft answer.
-/
import Derived.Test.YtffllhohlfblnabProg
import Derived.Test.YtffllhohlfblnabBase
import Derived.Test.YtffllhohlfblnabAmong
import Derived.Deep.QuietTactic
import Derived.BigQuiet
namespace Go.Proofs.Ytffllhohlfblnab
open Go.RowKit
theorem rraw_any (s : ByteArray) (K : Nat → Prop) (w : World) :
    Calls Try.prog 64 #[.string s] w fun e w' => e = .returned (.bool (rawP s.toList)) ∧ Kept K w w' := by
  have h1 := fun X => among_any rawT s K X (by decide +kernel)
  rw [among_raw] at h1
  go_enter Try.func64, Try.ntmps64
  go_wp2_with fail
  refine (h1 _).mono ?_
  rintro e w1 ⟨rfl, hk1⟩
  go_wp2
  go_ret
  exact ⟨rfl, hk1⟩
theorem rsoft_any (s : ByteArray) (K : Nat → Prop) (w : World) :
    Calls Try.prog 63 #[.string s] w fun e w' => e = .returned (.bool (softP s.toList)) ∧ Kept K w w' := by
  have h1 := fun X => among_any softT s K X (by decide +kernel)
  rw [among_soft] at h1
  go_enter Try.func63, Try.ntmps63
  go_wp2_with fail
  refine (h1 _).mono ?_
  rintro e w1 ⟨rfl, hk1⟩
  go_wp2
  go_ret
  exact ⟨rfl, hk1⟩
end Go.Proofs.Ytffllhohlfblnab
