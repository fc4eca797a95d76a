/-
  How many tokens and faults there are, at most.
-/
import Derived.Test.YtncfgahnjakeiaaDoorDW
namespace Go.Proofs.YtncfgahnjakeiaaDoor
theorem tok_few16 {l : List UInt8} (hl : l.length < 100000) : (tokL l).toks.length + (tokL l).flts.length ≤ 16 * l.length := by
  have f0 : Fit (16 * l.length) (TS.new l) := ⟨by show 0 + l.length < 1000000; omega, by show 0 + 0 + 0 + 16 * l.length ≤ _; omega⟩
  have := (Fit.runF (TS.new l).rest.length f0).room
  unfold pot at this
  have e : tokL l = TS.runF (TS.new l).rest.length (TS.new l) := rfl
  rw [e]
  omega
end Go.Proofs.YtncfgahnjakeiaaDoor
