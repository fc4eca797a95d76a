/-
  Attributes by name: named, slices.IndexFunc over attributes, Doc.element.
-/
import Derived.Test.YtmplhphcdgpigaaCO
namespace Go.Proofs.Ytmplhphcdgpigaa
open Go.RowKit
set_option linter.unusedVariables false








set_option maxRecDepth 20000 in
/-- Doc.element of an element that is there. -/
theorem element_yes (p g n cap i : Nat) (z : Int) (w : World) (hc : w.cell? ⟨p, 1, none⟩ = some (.slice (some ⟨g, 0, none⟩) n cap)) (hi : i < n) (hn : n ≤ 1000000000) (h0 : w.cell? ⟨g, i * 22, none⟩ = some (.int .u8 1)) :
    Calls Try.prog 31 #[.pointer (some ⟨p, 0, none⟩), .int .i64 (i : Int), .int .u16 z] w fun e w' => e = .returned (.tuple #[.pointer (some ⟨g, i * 22, none⟩), .int .u16 0]) ∧ w' = w := by
  have r := at_yes p g n cap i w hc hi hn
  clear hc
  go_enter Try.func31, Try.ntmps31
  go_wp2_with (go_at_call 22; refine r.mono ?_; rintro e w2 ⟨rfl, hw2⟩; replace hw2 := hw2.symm; subst hw2)
  go_ret2
  exact ⟨rfl, rfl⟩
end Go.Proofs.Ytmplhphcdgpigaa
