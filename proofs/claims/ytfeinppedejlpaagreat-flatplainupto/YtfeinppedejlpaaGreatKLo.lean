/-
  The walk of FlatTree.
-/
import Derived.Test.YtfeinppedejlpaaGreatKLn
import Derived.Test.YtfeinppedejlpaaGreatKVe
namespace Go.Proofs.YtfeinppedejlpaaGreat
set_option maxHeartbeats 8000000
set_option maxRecDepth 100000
open Go.RowKit Go.Sort
set_option linter.unusedVariables false
section
variable {K E : Nat -> Prop} {w : World} {p r : Nat} {M : Dm} {R G : Nat -> List Nat} {rk : Nat -> Nat} {lim : Nat}
theorem Grown.rd (h : Grown K E w p r M R G rk lim) (hl : lim <= 100000) {X : World} (hk : Kept (fun k => k < w.heap.size) w X) : Rd (TK K E) X p M R G rk := ⟨h.two.d.kept hk, h.inv, h.nle hl⟩
end
theorem zuk (n : Nat) (hnn : 60 < n) (a : Option Addr) (c : Nat) (w : World) :
  Calls Tryz.prog 38 #[.slice a n c] w fun e w' => e = .returned (.bool true) /\ Kept (fun k => k < w.heap.size) w w' := by
 have hg60 : decide ((n : Int) > 60) = true := decide_eq_true (by omega)
 go_enter Tryz.func38, Tryz.ntmps38
 go_wp2
 go_ret
 exact ⟨rfl, Kept.refl _ _⟩
end Go.Proofs.YtfeinppedejlpaaGreat
