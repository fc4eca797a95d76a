/-
  What the chapter's example asks, known, answers true.
-/
import Derived.Test.YtinmabjcjdeekabOf
namespace Go.Proofs.Ytinmabjcjdeekab
open Go.RowKit

abbrev ex : ByteArray := ⟨#[97, 10, 98, 99]⟩
theorem known_any (K : Nat → Prop) (w : World) (hK : ∀ k, K k → k < w.heap.size) :
    Calls Try.prog 4 #[] w fun e w' => e = .returned (.bool true) ∧ Kept K w w' := by
  have e1 : spot (ex.data.toList.take (clip ex 3)) = (2, 2) := by decide
  have e2 : ofS ex 2 2 = some 3 := by decide
  have h1 := at_any ex 3 K w hK (by decide)
  rw [e1] at h1
  have h2 := fun X hX => of_any ex 2 2 K X hX (by decide)
  rw [e2] at h2
  clear e1 e2
  go_enter Try.func4, Try.ntmps4
  go_wp2_with fail
  refine h1.mono ?_
  rintro e w1 ⟨rfl, hk1⟩
  go_wp2_with fail
  refine (h2 w1 fun k hk => Nat.lt_of_lt_of_le (hK k hk) hk1.size).mono ?_
  rintro e w2 ⟨rfl, hk2⟩
  go_wp2
  go_ret
  exact ⟨rfl, hk1.trans hk2⟩
end Go.Proofs.Ytinmabjcjdeekab
