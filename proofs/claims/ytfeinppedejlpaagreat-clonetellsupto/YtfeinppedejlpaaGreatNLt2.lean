/-
  How many nodes there may be: both documents.
-/
import Derived.Test.YtfeinppedejlpaaGreatNR2
namespace Go.Proofs.YtfeinppedejlpaaGreat
open Go.RowKit Go.Sort
set_option linter.unusedVariables false
set_option maxRecDepth 100000
set_option maxHeartbeats 8000000
theorem zkk (K : Nat -> Prop) (p : Nat) (M : Dm) (w : World) (h : DX K w p M) :
  Calls Tryz.prog 117 #[.pointer (some ⟨p, 0, none⟩)] w fun e w' => e = .returned (.int .i64 (M.limit : Int)) /\ w' = w := by
 obtain ⟨ga, cap, hY⟩ := h
 have c0 := hY.c0
 clear hY
 go_enter Tryz.func117, Tryz.ntmps117
 go_wp2
 go_ret
 exact ⟨rfl, rfl⟩
theorem zf8 (K : Nat -> Prop) (p : Nat) (M : Dm) (R G : Nat -> List Nat) (w : World) (h : RX K TT w p M R G) :
  Calls Tryz.prog 119 #[.pointer (some ⟨p, 0, none⟩)] w fun e w' => e = .returned (.int .i64 (M.limit : Int)) /\ w' = w := by
 obtain ⟨A, h⟩ := h
 have c0 := h.c0
 clear h
 go_enter Tryz.func119, Tryz.ntmps119
 go_wp2
 go_ret
 exact ⟨rfl, rfl⟩
end Go.Proofs.YtfeinppedejlpaaGreat
