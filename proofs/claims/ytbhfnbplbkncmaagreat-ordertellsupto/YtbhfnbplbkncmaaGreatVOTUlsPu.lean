/-
  What is true of trees of a document (pure).
-/
import Derived.Test.YtbhfnbplbkncmaaGreatYT33
import Derived.Test.YtbhfnbplbkncmaaGreatZ28
import Derived.Test.YtbhfnbplbkncmaaGreatVOTUlsPt
namespace Go.Proofs.YtbhfnbplbkncmaaGreat
open Go.RowKit
set_option linter.unusedVariables false
section
variable {M : Dm} {R G : Nat → List Nat} {rk : Nat → Nat}
theorem Good.kid (h : Good M R rk) {i k : Nat} (hi : i < M.n) (hk : k ∈ R i) : k < M.n ∧ (M.pl k).up = (i : Int) ∧ rk i < rk k := by
  have hl := h.wf.lt i hi k hk
  have hu := h.wf.up hi hk
  refine ⟨hl, hu, ?_⟩
  have hp : parI M k = (i : Int) := by unfold parI; rw [if_neg (by omega)]; exact hu
  rcases h.acy k hl with e | ⟨m, _, e, hr⟩
  · omega
  · have : m = i := by omega
    exact this ▸ hr
theorem Good.falls (h : Good M R rk) : Falls M.n R rk := fun i hi k hk => ⟨(h.kid hi hk).1, (h.kid hi hk).2.2⟩
theorem Good.rk_up (h : Good M R rk) {k u : Nat} (hk : k < M.n) (hu : (M.pl k).up = (u : Int)) : u < M.n ∧ rk u < rk k := by
  rcases h.acy k hk with e | ⟨m, hm, e, hr⟩
  · unfold parI at e; rw [if_neg (by omega)] at e; omega
  · unfold parI at e
    rw [if_neg (by omega)] at e
    have : m = u := by omega
    exact this ▸ ⟨hm, hr⟩
/-- Those that All tells behind a node: its shadow root, its kids. -/
def fwd (M : Dm) (R : Nat → List Nat) (i : Nat) : List Nat := if (M.nd i).shadow = -1 then R i else (M.nd i).shadow.toNat :: R i
theorem Inv.shadow (h : Inv M R G rk) {i s : Nat} (hi : i < M.n) (hs : (M.nd i).shadow = (s : Int)) : s < M.n ∧ (M.nd s).kind = 5 ∧ (M.nd s).host = (i : Int) ∧ (M.pl s).up = -1 ∧ rk i < rk s ∧ (M.nd i).kind = 1 := by
  rcases h.core.shad i hi with e | ⟨k, hk, e, h1, h2, h3⟩
  · omega
  · have : k = s := by omega
    subst this
    have hup : (M.pl k).up = -1 := by
      rcases h.core.host k hk with ⟨e', _⟩ | ⟨u, _, _, hu, _⟩
      · omega
      · exact hu
    refine ⟨hk, h2, h3, hup, ?_, h1⟩
    rcases h.good.acy k hk with e' | ⟨m, _, e', hr⟩
    · unfold parI at e'; rw [if_pos hup] at e'; omega
    · unfold parI at e'
      rw [if_pos hup] at e'
      have : m = i := by omega
      exact this ▸ hr
theorem Inv.falls (h : Inv M R G rk) : Falls M.n (fwd M R) rk := fun i hi k hk => by
  unfold fwd at hk
  by_cases c : (M.nd i).shadow = -1
  · rw [if_pos c] at hk
    exact h.good.falls i hi k hk
  · rw [if_neg c] at hk
    rcases List.mem_cons.1 hk with rfl | hk
    · rcases h.core.shad i hi with e | ⟨s, hs, e, _⟩
      · exact absurd e c
      · rw [e, Int.toNat_natCast]
        have := h.shadow hi e
        exact ⟨this.1, this.2.2.2.2.1⟩
    · exact h.good.falls i hi k hk
/-- A root of a shadow tree has a host. -/
theorem Inv.host (h : Inv M R G rk) {s : Nat} (hs : s < M.n) (hk : (M.nd s).kind = 5) : ∃ i : Nat, i < M.n ∧ (M.nd s).host = (i : Int) ∧ (M.nd i).shadow = (s : Int) ∧ rk i < rk s ∧ (M.pl s).up = -1 := by
  rcases h.core.host s hs with ⟨_, e⟩ | ⟨i, hi, e, hu, _, h1⟩
  · exact absurd hk e
  · have hsh : (M.nd i).shadow = (s : Int) := by
      rcases h1 with ⟨_, h1⟩ | ⟨h1, _⟩
      · exact h1
      · omega
    exact ⟨i, hi, e, hsh, (h.shadow hi hsh).2.2.2.2.1, hu⟩
theorem Good.top (h : Good M R rk) : ∀ (f i : Nat), rk i < f → i < M.n → ∃ t, t < M.n ∧ TopOf M i t ∧ (M.pl t).up = -1 ∧ rk t ≤ rk i
  | 0, i, hf, _ => absurd hf (Nat.not_lt_zero _)
  | f + 1, i, hf, hi => by
    rcases h.wf.inn i hi with h0 | ⟨u, hu, e, _⟩
    · exact ⟨i, hi, .here h0, h0, Nat.le_refl _⟩
    · have hr := (h.rk_up hi e).2
      obtain ⟨t, h1, h2, h3, h4⟩ := Good.top h f u (by omega) hu
      exact ⟨t, h1, .up e h2, h3, by omega⟩
/-- The topmost node above one, through shadow roots. -/
inductive TopT (M : Dm) : Nat → Nat → Prop
  | here {i t : Nat} : TopOf M i t → (M.nd t).kind ≠ 5 → TopT M i t
  | up {i r h t : Nat} : TopOf M i r → (M.nd r).kind = 5 → (M.nd r).host = (h : Int) → TopT M h t → TopT M i t
theorem TopT.one {i t u : Nat} (h : TopT M i t) : TopT M i u → t = u := by
  induction h with
  | here h0 k0 =>
    intro h
    cases h with
    | here h1 k1 => exact h0.one h1
    | up h1 k1 _ _ => rw [h0.one h1] at k0; exact absurd k1 k0
  | up h0 k0 e _ ih =>
    intro h
    cases h with
    | here h1 k1 => rw [h0.one h1] at k0; exact absurd k0 k1
    | up h1 k1 e' h' =>
      have := h0.one h1
      subst this
      have := e.symm.trans e'
      injection this with this
      subst this
      exact ih h'
theorem Inv.topT (h : Inv M R G rk) : ∀ (f i : Nat), rk i < f → i < M.n → ∃ t, t < M.n ∧ TopT M i t ∧ (M.pl t).up = -1 ∧ rk t ≤ rk i ∧ (M.nd t).kind ≠ 5
  | 0, i, hf, _ => absurd hf (Nat.not_lt_zero _)
  | f + 1, i, hf, hi => by
    obtain ⟨r, hr, hT, hu, hle⟩ := h.good.top (rk i + 1) i (Nat.lt_succ_self _) hi
    by_cases c : (M.nd r).kind = 5
    · obtain ⟨o, ho, e, _, hlt, _⟩ := h.host hr c
      obtain ⟨t, h1, h2, h3, h4, h5⟩ := Inv.topT h f o (by omega) ho
      exact ⟨t, h1, .up hT c e h2, h3, by omega, h5⟩
    · exact ⟨r, hr, .here hT c, hu, hle, c⟩
end
end Go.Proofs.YtbhfnbplbkncmaaGreat
