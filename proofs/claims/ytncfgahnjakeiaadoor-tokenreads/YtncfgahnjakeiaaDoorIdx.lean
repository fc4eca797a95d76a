/-
  What strings.Contains of a hyphen, names.Custom and names.Host answer.
-/
import Derived.Test.YtncfgahnjakeiaaDoorKinds
import Derived.Test.YtncfgahnjakeiaaDoorNPure
import Derived.Laws.StandIn
import Derived.Laws.Externs
import Derived.Laws.Runes
namespace Go.Proofs.YtncfgahnjakeiaaDoor
open Go.RowKit

theorem run_ibs (s : ByteArray) (c : Int) (w : World) : (callFunc 101 #[.string s, .int .u8 c]).run Tryd.prog w = .ok (.value (.int .i64 (firstIdx s c.toNat.toUInt8))) w := by
  rw [run_callFunc_indexByte Tryd.func101 (by kernel_rfl) (by kernel_rfl) (by kernel_rfl) (by kernel_rfl), run_indexByte_string]
  rfl

theorem ib_any (s : ByteArray) (K : Nat → Prop) (w : World) :
    Calls Tryd.prog 82 #[.string s, .int .u8 45] w fun e w' => e = .returned (.int .i64 (firstIdx s 45)) ∧ Kept K w w' := by
  have h1 := fun X => run_ibs s 45 X
  go_enter Tryd.func82, Tryd.ntmps82
  go_wp2_with fail
  go_ret
  exact ⟨rfl, Kept.refl _ _⟩

end Go.Proofs.YtncfgahnjakeiaaDoor
