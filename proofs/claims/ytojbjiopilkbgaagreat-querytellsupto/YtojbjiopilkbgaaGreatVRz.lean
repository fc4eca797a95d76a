/-
  A node of the document's own document, as it lies in memory.
-/
import Derived.Test.YtojbjiopilkbgaaGreatVNa
namespace Go.Proofs.YtojbjiopilkbgaaGreat
open Go.RowKit Go.Sort
set_option linter.unusedVariables false
set_option maxRecDepth 100000
set_option maxHeartbeats 8000000
structure RAt (M : Dm) (R : Nat -> List Nat) (r g nc i : Nat) (aa : Option Addr) (ac : Nat) (ka : Option Addr) (kc N : Nat) (Y : World) : Prop where
 c1 : Y.cell? ⟨r, 1, none⟩ = some (.slice (some ⟨g, 0, none⟩) M.n nc)
 c : ∀ f u, (za0 M R i aa ac ka kc)[f]? = some u -> Y.cell? ⟨g, i * 14 + f, none⟩ = some u
 ats : Zai (fun q => q < N) Y aa (M.nd i).attrs
 kid : Zah (fun q => q < N) Y ka (R i)
theorem RX.at14 {K : Nat -> Prop} {w : World} {r : Nat} {M : Dm} {R G : Nat -> List Nat} (h : RX K TT w r M R G) : ∃ g nc, ∀ i, i < M.n -> ∃ aa ac ka kc, (M.nd i).attrs.length <= ac /\ ∀ Y, Kept (fun k => k < w.heap.size) w Y -> RAt M R r g nc i aa ac ka kc w.heap.size Y := by
 obtain ⟨A, h⟩ := h
 by_cases h0 : 0 < M.n
 ·obtain ⟨g, hg, -, -, -⟩ := h.nat h0
  refine ⟨g, A.nc, fun i hi => ⟨A.aa i, A.ac i, A.ka i, A.kc i, h.acl i hi, fun Y hY => ?_⟩⟩
  have h' := h.kept hY
  exact ⟨by rw [h'.c1, hg], fun f u hf => h'.cell hg hi f u hf, (h.ats i hi).to (fun q hq => hq.1) (fun q hq => hY.block q hq.1), (h.kid i hi).to (fun q hq => hq.1) (fun q hq => hY.block q hq.1)⟩
 ·exact ⟨0, 0, fun i hi => absurd hi (by omega)⟩
end Go.Proofs.YtojbjiopilkbgaaGreat
