/-
 References to characters as plain functions on lists of bytes, and what holds of them. No program is named here.; Texts as they are written, as plain functions on lists of bytes, and what holds of them. No program is named here.
-/
import Derived.Laws.Runes
import Derived.Laws.Cover4
namespace Go.Proofs.YtfeinppedejlpaaGreat
set_option linter.unusedVariables false
set_option maxRecDepth 100000
set_option maxHeartbeats 8000000
section
/-! ### How long, at most -/
/-! ### All of them -/
end
section
def one (q : Bool) (c : UInt8) : List UInt8 :=
 if c = 38 then [38, 97, 109, 112, 59] else if c = 60 then [38, 108, 116, 59] else if c = 62 then [38, 103, 116, 59] else if q = true /\ c = 34 then [38, 113, 117, 111, 116, 59] else [c]
/-! ### What is written comes back -/
end
end Go.Proofs.YtfeinppedejlpaaGreat
