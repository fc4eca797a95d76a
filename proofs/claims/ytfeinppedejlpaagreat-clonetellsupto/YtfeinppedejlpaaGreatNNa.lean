/-
  The document's own order: Tree, Root, Before.
-/
import Derived.Test.YtfeinppedejlpaaGreatNOa
import Derived.BigQuiet
namespace Go.Proofs.YtfeinppedejlpaaGreat
open Go.RowKit Go.Sort
set_option linter.unusedVariables false
end Go.Proofs.YtfeinppedejlpaaGreat
