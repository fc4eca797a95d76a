/-
  Digits and places, for the statements.
-/
import Derived.Test.YtndlififfofcmaaDoorFacts
import Derived.Test.YtndlififfofcmaaDoorTake
namespace Go.Proofs.YtndlififfofcmaaDoor
open Go.RowKit
theorem takeS_zero {s : ByteArray} {attr : Bool} (h : 0 < s.data.toList.length) : takeS s 0 attr = takeL s.data.toList attr := by
  have h' : 0 < s.size := h
  unfold takeS
  rw [if_pos (by omega)]
  rfl
theorem digits10_kept (n : Nat) (hn : n < 4294967296) (K : Nat → Prop) (w : World) :
    Calls Tryd.prog 11 #[.int .u32 n, .int .u32 10] w fun e w' => e = .returned (.string (digB 10 n)) ∧ Kept K w w' := by
  refine (digits10_any n hn w).mono ?_
  rintro e w1 ⟨rfl, m, rfl⟩
  exact ⟨rfl, (Kept.refl K w).drewN m⟩
theorem digits16_kept (n : Nat) (hn : n < 4294967296) (K : Nat → Prop) (w : World) :
    Calls Tryd.prog 11 #[.int .u32 n, .int .u32 16] w fun e w' => e = .returned (.string (digB 16 n)) ∧ Kept K w w' := by
  refine (digits16_any n hn w).mono ?_
  rintro e w1 ⟨rfl, m, rfl⟩
  exact ⟨rfl, (Kept.refl K w).drewN m⟩
end Go.Proofs.YtndlififfofcmaaDoor
