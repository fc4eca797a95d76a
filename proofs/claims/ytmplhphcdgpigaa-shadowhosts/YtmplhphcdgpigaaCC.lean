/-
  A node is taken out of its row, in memory (chain.takeOut), for the chain of gifts.
-/
import Derived.Test.YtmplhphcdgpigaaCB
namespace Go.Proofs.Ytmplhphcdgpigaa
open Go.RowKit
set_option linter.unusedVariables false
theorem DY.gcell {K : Nat → Prop} {w : World} {p : Nat} {S : Dm} {g : Nat} {cap : Nat} (h : DY K w p S (some ⟨g, 0, none⟩) cap) {i : Nat} (hi : i < S.n) :
    w.cell? ⟨g, i * 22 + 17, none⟩ = some (.int .i64 (S.gf i).up) ∧ w.cell? ⟨g, i * 22 + 18, none⟩ = some (.int .i64 (S.gf i).prev) ∧ w.cell? ⟨g, i * 22 + 19, none⟩ = some (.int .i64 (S.gf i).next) ∧ w.cell? ⟨g, i * 22 + 20, none⟩ = some (.int .i64 (S.gf i).first) ∧ w.cell? ⟨g, i * 22 + 21, none⟩ = some (.int .i64 (S.gf i).last) := by
  obtain ⟨aa, ac, hc, -⟩ := h.cell hi
  exact ⟨hc 17 _ rfl, hc 18 _ rfl, hc 19 _ rfl, hc 20 _ rfl, hc 21 _ rfl⟩
theorem setG_setG (S : Dm) (L L' : Nat → Lk) : (S.setG L).setG L' = S.setG L' := rfl


end Go.Proofs.Ytmplhphcdgpigaa
