/-
  What is told of a document that only is read.
-/
import Derived.Test.YtbhfnbplbkncmaaGreatY37
import Derived.Test.YtbhfnbplbkncmaaGreatYM38
import Derived.Test.YtbhfnbplbkncmaaGreatVOMUedSc
import Derived.Test.YtbhfnbplbkncmaaGreatZ23
import Derived.Test.YtbhfnbplbkncmaaGreatVOMUedPu
import Derived.BigQuiet
namespace Go.Proofs.YtbhfnbplbkncmaaGreat
open Go.RowKit
set_option linter.unusedVariables false
theorem u16_of {i : Int} (h : (Lit.int .u16 i).wf = true) : 0 ≤ i ∧ i ≤ 65535 := by
  have h1 : IntKind.min .u16 ≤ i ∧ i ≤ IntKind.max .u16 := by simpa [Lit.wf] using h
  exact h1
section
variable {K E : Nat → Prop} {w : World} {p r : Nat} {M : Dm} {R G : Nat → List Nat} {rk : Nat → Nat} {lim : Nat}
theorem Grown.nle (h : Grown K E w p r M R G rk lim) (hl : lim ≤ 100000) : M.n ≤ 100000 := by have := h.le; rw [h.lim] at this; omega
theorem Grown.root (h : Grown K E w p r M R G rk lim) (hl : lim ≤ 100000) {i t : Nat} (hi : i < M.n) (hT : TopOf M i t) {X : World} (hk : Kept (fun k => k < w.heap.size) w X) :
    Calls Tryz.prog 26 #[.pointer (some ⟨p, 0, none⟩), .int .i64 (i : Int)] X fun e w' => e = .returned (.int .i64 (t : Int)) ∧ Kept (fun k => k < X.heap.size) X w' :=
  (oroot_any _ p i M R rk X (h.two.d.kept hk) h.inv.good hi (by have := h.nle hl; omega)).mono fun e w' ⟨t', _, h2, h3, h4⟩ => by rw [h2.one hT] at h3; exact ⟨h3, h4⟩
theorem Grown.of (h : Grown K E w p r M R G rk lim) (hl : lim ≤ 100000) {i : Nat} {z : Int} (hi : i < M.n) (hT : OfOf M i z) {X : World} (hk : Kept (fun k => k < w.heap.size) w X) :
    Calls Tryz.prog 42 #[.pointer (some ⟨p, 0, none⟩), .int .i64 (i : Int)] X fun e w' => e = .returned (.int .i64 z) ∧ Kept (fun k => k < X.heap.size) X w' :=
  (of_any _ p i M R rk X (h.two.d.kept hk) h.inv.good hi (by have := h.nle hl; omega)).mono fun e w' ⟨t', h2, h3, h4⟩ => by rw [h2.one hT] at h3; exact ⟨h3, h4⟩
theorem Inv.of (h : Inv M R G rk) {i : Nat} (hi : i < M.n) : ∃ z t, OfOf M i z ∧ t < M.n ∧ TopOf M i t ∧ ((z = (t : Int) ∧ (M.nd t).kind = 5) ∨ (z = -1 ∧ (M.nd t).kind ≠ 5)) := by
  obtain ⟨t, ht, hT, _⟩ := h.good.top (rk i + 1) i (Nat.lt_succ_self _) hi
  by_cases c : (M.nd t).kind = 5
  · exact ⟨_, t, .yes hT c, ht, hT, .inl ⟨rfl, c⟩⟩
  · exact ⟨_, t, .no hT c, ht, hT, .inr ⟨rfl, c⟩⟩
/-- The way upwards is not touched by what is put below. -/
theorem top_ins {u k j t : Nat} (h4 : (M.nd k).kind ≠ 4) (hw : ¬ Wi M k j) (hT : TopOf M j t) : TopOf (M.setP (putD M R u k (-1))) j t := by
  have hbk : ¬ (-1 : Int) = (k : Int) := by omega
  have hup : ∀ x, x ≠ k → ((M.setP (putD M R u k (-1))).pl x).up = (M.pl x).up := fun x hx => by
    show (putD M R u k (-1) x).up = _
    unfold putD
    rw [if_neg h4, if_neg hbk]
    exact put_up hx
  induction hT with
  | @here x h0 =>
    have hx : x ≠ k := fun e => hw (by rw [e]; exact .here)
    exact .here ((hup x hx).trans h0)
  | @up x m t e _ ih =>
    have hx : x ≠ k := fun e => hw (by rw [e]; exact .here)
    have hp : parI M x = (m : Int) := by unfold parI; rw [if_neg (by omega)]; exact e
    exact .up ((hup x hx).trans e) (ih fun hh => hw (.up hp hh))
end
end Go.Proofs.YtbhfnbplbkncmaaGreat
