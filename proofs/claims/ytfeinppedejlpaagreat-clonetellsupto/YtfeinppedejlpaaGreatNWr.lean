/-
  A row of the document's own that is held while the document changes.
-/
import Derived.Test.YtfeinppedejlpaaGreatNW13
namespace Go.Proofs.YtfeinppedejlpaaGreat
open Go.RowKit
set_option linter.unusedVariables false
section
variable {K J : Nat → Prop} {w : World} {p : Nat} {M : Dm} {R G : Nat → List Nat} {A : RA}
/-- A block that is none of those that the document writes may be kept as well. -/
theorem RY.hold {g0 : Nat} (h : RY K J w p M R G A) (hg0 : g0 < w.heap.size) (hb : ¬ A.bad K J p M.n g0) : RY (fun k => K k ∨ k = g0) (fun k => J k ∧ k ≠ g0) w p M R G A := by
  obtain ⟨xs, ho, hx⟩ := h.nown
  obtain ⟨ys, hq, hy⟩ := h.qown
  have bad : ∀ g, ¬ A.bad K J p M.n g → ¬ A.bad (fun k => K k ∨ k = g0) (fun k => J k ∧ k ≠ g0) p M.n g := fun g hn hb' => by
    rcases hb' with ⟨h1 | h1, h2⟩ | h1
    · exact hn (.inl ⟨h1, h2.1⟩)
    · exact h2.2 h1
    · exact hn (.inr h1)
  refine ⟨fun k hk => ?_, fun hh => ?_, h.blk, ⟨xs, Zac.to ho (fun g hg hh => ?_) (fun g hg => rfl), hx⟩, ⟨ys, Zac.to hq (fun g hg hh => ?_) (fun g hg => rfl), hy⟩,
    fun i hi => Zac.to (h.gown i hi) (fun g hg hh => ?_) (fun g hg => rfl), h.gsep, fun i hi => (h.ats i hi).to (fun g hg => ⟨hg.1, bad g hg.2⟩) (fun g hg => rfl), h.acl,
    fun i hi => (h.kid i hi).to (fun g hg => ⟨hg.1, bad g hg.2⟩) (fun g hg => rfl), h.kcl⟩
  · rcases hk with hk | rfl
    · exact h.lt k hk
    · exact hg0
  · rcases hh with hh | rfl
    · exact h.pk hh
    · exact hb (.inr (.inl rfl))
  · rcases hh with (hh | rfl) | hh
    · exact (ho.out hg).1 (.inl hh)
    · exact hb (.inr (.inr (.inl hg)))
    · exact (ho.out hg).1 (.inr hh)
  · rcases hh with (hh | rfl) | hh
    · exact (hq.out hg).1 (.inl hh)
    · exact hb (.inr (.inr (.inr (.inl hg))))
    · exact (hq.out hg).1 (.inr hh)
  · rcases hh with (hh | rfl) | hh
    · exact ((h.gown i hi).out hg).1 (.inl hh)
    · exact hb (.inr (.inr (.inr (.inr ⟨i, hi, hg⟩))))
    · exact ((h.gown i hi).out hg).1 (.inr hh)
/-- And is let go again. -/
theorem RX.free {g0 : Nat} (h : RX (fun k => K k ∨ k = g0) (fun k => J k ∧ k ≠ g0) w p M R G) (hb : ¬ (K g0 ∧ J g0)) : RX K J w p M R G := by
  obtain ⟨A, h⟩ := h
  obtain ⟨xs, ho, hx⟩ := h.nown
  obtain ⟨ys, hq, hy⟩ := h.qown
  have bad : ∀ g, ¬ A.bad (fun k => K k ∨ k = g0) (fun k => J k ∧ k ≠ g0) p M.n g → ¬ A.bad K J p M.n g := fun g hn hb' => by
    rcases hb' with h1 | h1
    · exact hn (.inl ⟨.inl h1.1, h1.2, fun e => hb (e ▸ h1)⟩)
    · exact hn (.inr h1)
  refine ⟨A, fun k hk => h.lt k (.inl hk), fun hh => h.pk (.inl hh), h.blk, ⟨xs, Zac.to ho (fun g hg hh => ?_) (fun g hg => rfl), hx⟩, ⟨ys, Zac.to hq (fun g hg hh => ?_) (fun g hg => rfl), hy⟩,
    fun i hi => Zac.to (h.gown i hi) (fun g hg hh => ?_) (fun g hg => rfl), h.gsep, fun i hi => (h.ats i hi).to (fun g hg => ⟨hg.1, bad g hg.2⟩) (fun g hg => rfl), h.acl,
    fun i hi => (h.kid i hi).to (fun g hg => ⟨hg.1, bad g hg.2⟩) (fun g hg => rfl), h.kcl⟩
  · exact (ho.out hg).1 (hh.imp .inl id)
  · exact (hq.out hg).1 (hh.imp .inl id)
  · exact ((h.gown i hi).out hg).1 (hh.imp .inl id)
/-- The row of a node's kids, held. -/
theorem RY.holdK {i : Nat} (h : RY K J w p M R G A) (hi : i < M.n) (hne : R i ≠ []) : ∃ g0 o, A.ka i = some ⟨g0, o, none⟩ ∧ g0 < w.heap.size ∧ ¬ (K g0 ∧ J g0) ∧ RX (fun k => K k ∨ k = g0) (fun k => J k ∧ k ≠ g0) w p M R G ∧ Zan (fun k => k = g0) w (A.ka i) (R i) := by
  have hl : 0 < (R i).length := List.length_pos_iff.2 hne
  obtain ⟨g0, o, e, hF, _⟩ := h.kid i hi 0 hl
  refine ⟨g0, o, e, hF.1, fun hh => hF.2 (.inl hh), ⟨A, h.hold hF.1 hF.2⟩, fun j hj => ?_⟩
  obtain ⟨g1, o1, e1, _, c1⟩ := h.kid i hi j hj
  rw [e] at e1
  injection e1 with e1
  injection e1 with a1 a2
  subst a1
  subst a2
  exact ⟨g0, o, e, rfl, c1⟩
end
end Go.Proofs.YtfeinppedejlpaaGreat
