/-
  The walk of OrderAhead.
-/
import Derived.Test.YtbhfnbplbkncmaaGreatVOMUedMg
namespace Go.Proofs.YtbhfnbplbkncmaaGreat
open Go.RowKit Go.Sort
set_option linter.unusedVariables false
section
variable {n : Nat} {F : Nat → List Nat} {rk : Nat → Nat}
end
section
variable {M : Dm} {R G : Nat → List Nat} {rk : Nat → Nat}
end
section
variable {K E : Nat → Prop} {w : World} {p r : Nat} {M : Dm} {R G : Nat → List Nat} {rk : Nat → Nat} {lim : Nat}
theorem Grown.before (h : Grown K E w p r M R G rk lim) (hl : lim ≤ 100000) {i k s u : Nat} (hi : i < M.n) (hk' : k < M.n) (hs : TopOf M i s) (hsn : s < M.n) (hu : TopOf M k u) (hun : u < M.n) {X : World} (hk : Kept (fun k => k < w.heap.size) w X) :
    Calls Tryz.prog 34 #[.pointer (some ⟨p, 0, none⟩), .int .i64 (i : Int), .int .i64 (k : Int)] X fun e w' => e = .returned (.bool (befB M R (i : Int) (k : Int) (s : Int) (u : Int))) ∧ Kept (fun k => k < X.heap.size) X w' :=
  before_any _ p M R rk X (h.two.d.kept hk) h.inv.good (h.nle hl) _ _ _ _ (.inr ⟨i, s, hi, rfl, hs, hsn, rfl⟩) (.inr ⟨k, u, hk', rfl, hu, hun, rfl⟩)
end
end Go.Proofs.YtbhfnbplbkncmaaGreat
