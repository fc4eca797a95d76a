/-
  The document's own shadow.Attach; Attach does the same to both documents.
-/
import Derived.Test.YtbhfnbplbkncmaaGreatVSOUceRc
import Derived.Test.YtbhfnbplbkncmaaGreatVSOUceSb
import Derived.Test.YtbhfnbplbkncmaaGreatZ35
namespace Go.Proofs.YtbhfnbplbkncmaaGreat
open Go.RowKit Go.Sort
set_option linter.unusedVariables false
section
variable {M : Dm} {R G : Nat → List Nat} {rk : Nat → Nat}
theorem Core.name {M : Dm} (h : Core M) {i : Nat} (hi : i < M.n) (hk : (M.nd i).kind = 1) : (M.nd i).name.length ≤ 60 := by
  have := (h.el i hi hk).1
  unfold validP at this
  simp at this
  exact this.1.2
end
end Go.Proofs.YtbhfnbplbkncmaaGreat
