/-
  A row that is copied behind nothing.
-/
import Derived.Test.YtfeinppedejlpaaGreatKOa
namespace Go.Proofs.YtfeinppedejlpaaGreat
set_option maxHeartbeats 8000000
set_option maxRecDepth 100000
open Go.RowKit Go.Sort
set_option linter.unusedVariables false
set_option maxRecDepth 20000
theorem zk5 {Y : World} {aa : Option Addr} {l : List Nat} {N m : Nat} (ac : Nat) (hN : Zad (fun q => q < N) Y aa l) (hl : l.length = m) (hm : m <= 100000) :
  ∃ ao' c' w', (Builtin.append_ #[33, 33] 33 #[.slice none 0 0, .slice aa m ac]).run Tryz.prog Y = .ok (.slice ao' m c') w' /\ Lst Y l (.returned (.slice ao' m c')) w' := by
 obtain ⟨ao', c', w', hrun, hO, hK⟩ := zcf (K := fun k => k < Y.heap.size) (ac := ac) (Zac.nil _ _ _ _) hl hN (fun k h => h) (xs := []) (n := 0) (cap := 0) (by omega) (by omega)
 rw [Nat.zero_add] at hO hrun
 exact ⟨ao', c', w', hrun, ao', c', by rw [hl], by rw [hl]; exact hO, hK⟩
end Go.Proofs.YtfeinppedejlpaaGreat
