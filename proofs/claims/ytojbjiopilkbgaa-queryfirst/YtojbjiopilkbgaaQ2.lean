/-
  A document in memory that has moved among other blocks; how long attributes are.
-/
import Derived.Test.YtojbjiopilkbgaaQ1
namespace Go.Proofs.Ytojbjiopilkbgaa
open Go.RowKit
set_option linter.unusedVariables false
theorem allW_writ : ∀ (l : List Atr) (L : List (List UInt8)), allW L l = true -> ∀ x ∈ l, writP x = true
 | [], _, _, x, hx => by cases hx
 | a :: r, L, h, x, hx => by
  simp only [allW, Bool.and_eq_true] at h
  rcases List.mem_cons.1 hx with rfl | hx
  ·exact h.1.1
  ·exact allW_writ r _ h.2 x hx
theorem writ_size {a : Atr} (h : writP a = true) : 1 <= a.name.length /\ a.name.length <= 60 /\ a.value.length <= 2000 := by
 unfold writP at h
 simp at h
 exact ⟨h.1.1.1, h.1.1.2, h.2⟩
theorem Core.atr {M : Dm} (h : Core M) {i : Nat} (hi : i < M.n) : ∀ x ∈ (M.nd i).attrs, x.name.length <= 60 /\ x.value.length <= 2000 := by
 intro x hx
 by_cases c : (M.nd i).kind = 1
 ·have hs := (h.el i hi c).2
  unfold soundA at hs
  simp at hs
  exact (writ_size (allW_writ _ _ hs.2 x hx)).2
 ·rw [h.oth i hi c] at hx; cases hx
section
variable {K K' : Nat -> Prop} {w w' : World} {p : Nat} {M : Dm}
theorem DY.move {ga : Option Addr} {cap : Nat} (h : DY K w p M ga cap) (hb : ∀ g, g < w.heap.size -> ¬ K g -> w'.heap[g]? = w.heap[g]?) (hs : ∀ k, k < w.heap.size -> K' k -> K k) (hl : ∀ k, K' k -> k < w'.heap.size) : DY K' w' p M ga cap := by
 obtain ⟨h1, h2, h3, xs, aa, ac, ho, hx, ha, hsp⟩ := h
 have hp := lt_block h3
 have hoK : ∀ g, blkOf ga g -> g < w.heap.size /\ ¬ K g := fun g hg => ⟨(ho.out hg).2, fun hk => (ho.out hg).1 (.inl hk)⟩
 have haK : ∀ i, i < M.n -> ∀ g, blkOf (aa i) g -> g < w.heap.size /\ ¬ K g := fun i hi g hg => ⟨((ha i hi).out hg).2, fun hk => ((ha i hi).out hg).1 (.inl hk)⟩
 refine ⟨hl, fun hh => h2 (hs p hp hh), by rw [hb p hp h2]; exact h3, xs, aa, ac, OwnZ.to ho (fun g hg hh => ?_) (fun g hg => hb g (hoK g hg).1 (hoK g hg).2), hx, fun i hi => OwnZ.to (ha i hi) (fun g hg hh => ?_) (fun g hg => hb g (haK i hi g hg).1 (haK i hi g hg).2), hsp⟩
 ·rcases hh with hh | hh
  ·exact (hoK g hg).2 (hs g (hoK g hg).1 hh)
  ·exact (ho.out hg).1 (.inr hh)
 ·rcases hh with hh | hh
  ·exact (haK i hi g hg).2 (hs g (haK i hi g hg).1 hh)
  ·exact ((ha i hi).out hg).1 (.inr hh)
theorem DX.move (h : DX K w p M) (hb : ∀ g, g < w.heap.size -> ¬ K g -> w'.heap[g]? = w.heap[g]?) (hs : ∀ k, k < w.heap.size -> K' k -> K k) (hl : ∀ k, K' k -> k < w'.heap.size) : DX K' w' p M := by
 obtain ⟨ga, cap, h⟩ := h
 exact ⟨ga, cap, h.move hb hs hl⟩
end
end Go.Proofs.Ytojbjiopilkbgaa
