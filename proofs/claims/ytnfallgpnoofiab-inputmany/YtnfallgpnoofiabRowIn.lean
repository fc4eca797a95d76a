/-
  Rows of bytes that came in.
-/
import Derived.Test.YtnfallgpnoofiabDecode
import Derived.OpenShut
namespace Go.Proofs.Ytnfallgpnoofiab
open Go.RowKit
/-- A row of bytes that came in. -/
theorem row_of {w : World} {a : Option Addr} {len cap : Nat} {zs : List Int}
    (h : (a = none ∧ len = 0 ∧ cap = 0 ∧ zs = []) ∨ ∃ x, a = some x ∧ len ≤ cap ∧ cap ≤ maxLen ∧ zs.length = cap ∧ (∀ i, i < zs.length → w.cell? (x.add i) = some (.int .u8 (zs.getD i 0))) ∧ ∀ n ∈ zs, (Lit.int .u8 n).wf = true) :
    ∃ bs : List UInt8, bs.length = len ∧ len ≤ cap ∧ cap ≤ maxLen ∧ RowB (fun k => k < w.heap.size) w a bs := by
  rcases h with ⟨rfl, rfl, rfl, rfl⟩ | ⟨⟨g, o, sp⟩, rfl, h1, h2, h3, h4, h5⟩
  · exact ⟨[], rfl, Nat.le_refl _, Nat.zero_le _, .inl rfl⟩
  · by_cases h0 : len = 0
    · subst h0
      exact ⟨[], rfl, h1, h2, .inl rfl⟩
    · refine ⟨(zs.take len).map fun n => UInt8.ofNat n.toNat, by simp; omega, h1, h2, .inr ⟨g, o, ?_, ?_, fun j hj => ?_⟩⟩
      · have hc := h4 0 (by omega)
        have : sp = none := by simpa [Addr.add] using World.cell?_spot hc
        rw [this]
      · exact World.block_lt_of_cell? w _ (h4 0 (by omega))
      · have hc := h4 0 (by omega)
        have hsp : sp = none := by simpa [Addr.add] using World.cell?_spot hc
        subst hsp
        simp at hj
        have hj' : j < zs.length := by omega
        have hc' := h4 j hj'
        rw [Addr.add_lit] at hc'
        rw [hc']
        have hw := h5 zs[j] (List.getElem_mem hj')
        have hb := bounds_u8 hw
        simp [hj']
        omega
end Go.Proofs.Ytnfallgpnoofiab
