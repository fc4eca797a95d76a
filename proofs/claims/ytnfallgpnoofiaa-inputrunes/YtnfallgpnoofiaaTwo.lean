/-
  Two rows of a call's own, apart from one another, each appended to while the other stays.
-/
import Derived.Test.YtnfallgpnoofiaaDecode
namespace Go.Proofs.Ytnfallgpnoofiaa
open Go.RowKit

/-- K, and the block of another row. -/
def withK (K : Nat → Prop) (o : Option Addr) : Nat → Prop := fun k => K k ∨ o = some ⟨k, 0, none⟩
def apart (a c : Option Addr) : Prop := ∀ g, a = some ⟨g, 0, none⟩ → c ≠ some ⟨g, 0, none⟩
theorem apart.symm {a c : Option Addr} (h : apart a c) : apart c a := fun g h1 h2 => h g h2 h1
theorem Own.guard {K : Nat → Prop} {w : World} {e : TypeId} {a c : Option Addr} {n cap : Nat} {xs : List Value} (h : Own K w e a n cap xs) (ha : apart a c) : Own (withK K c) w e a n cap xs :=
  h.mono fun g _ h1 h2 h3 => by
    rcases h3 with h3 | h3
    · exact h2 h3
    · exact ha g h1 h3
theorem Own.free {K : Nat → Prop} {w : World} {e : TypeId} {a c : Option Addr} {n cap : Nat} {xs : List Value} (h : Own (withK K c) w e a n cap xs) : Own K w e a n cap xs ∧ apart a c := by
  refine ⟨h.mono fun g _ _ h2 h3 => h2 (.inl h3), fun g h1 h2 => ?_⟩
  rcases h.cells with ⟨h3, _⟩ | ⟨g', h3, h4, _⟩
  · rw [h1] at h3; cases h3
  · rw [h1] at h3
    cases h3
    exact h4 (.inr h2)
theorem Own.stay {K : Nat → Prop} {w w' : World} {e : TypeId} {c : Option Addr} {n cap : Nat} {xs : List Value} (h : Own K w e c n cap xs) (hk : Kept (withK K c) w w') : Own K w' e c n cap xs := by
  obtain ⟨h1, h2, h3, h4⟩ := h
  refine ⟨h1, h2, h3, ?_⟩
  rcases h4 with h4 | ⟨g, cur, r1, r2, r3, r4⟩
  · exact .inl h4
  · exact .inr ⟨g, cur, r1, r2, by rw [hk.block g (.inr r1)]; exact r3, r4⟩
theorem withK_lt {K : Nat → Prop} {w : World} {e : TypeId} {c : Option Addr} {n cap : Nat} {xs : List Value} (h : Own K w e c n cap xs) (hK : ∀ k, K k → k < w.heap.size) : ∀ k, withK K c k → k < w.heap.size := by
  intro k hk
  rcases hk with hk | hk
  · exact hK k hk
  · rcases h.cells with ⟨h3, _⟩ | ⟨g', h3, _, h4, _⟩
    · rw [hk] at h3; cases h3
    · rw [hk] at h3; cases h3; exact h4
theorem withK_sub {K : Nat → Prop} {c : Option Addr} (k : Nat) (h : K k) : withK K c k := .inl h

theorem rowB_own {K : Nat → Prop} {w : World} {e : TypeId} {a : Option Addr} {n cap : Nat} {l : List UInt8} (h : Own K w e a n cap (bvs l)) : RowB (fun k => k < w.heap.size) w a l := by
  rcases h.cells with ⟨_, _, _, h3⟩ | ⟨g, h3, _, h4, h5, _⟩
  · left
    simpa [bvs] using h3
  · refine .inr ⟨g, 0, h3, h4, fun j hj => ?_⟩
    rw [Nat.zero_add]
    exact h5 j _ (by simp [bvs, hj])

end Go.Proofs.Ytnfallgpnoofiaa
