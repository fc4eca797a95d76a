/-
  What the chapter's example asks (known).
-/
import Derived.Test.YtncfgahnjakeiaaDoorTkW
namespace Go.Proofs.YtncfgahnjakeiaaDoor
open Go.RowKit

/-- What Tokens answers, of a text whose tokens are known. -/
theorem tokens_of {s : List UInt8} {T : List Tk} {F : List Fl} (hT0 : (tokL s).toks = T) (hF0 : (tokL s).flts = F) (hs : s.length < 100000) (K : Nat → Prop) (w : World) (hK : ∀ k, K k → k < w.heap.size) (hT : Tab w) (h0 : K 0) (h1 : K 1) :
    Calls Tryd.prog 10 #[sv s] w fun e w' => ∃ ta tc fa fc, e = .returned (.tuple #[.slice ta T.length tc, .slice fa F.length fc]) ∧ ToksIn (fun k => k < w'.heap.size) w' ta T ∧ FltsIn (fun k => k < w'.heap.size) w' fa F ∧ Kept K w w' := by
  have := tokens_any s hs K w hK hT h0 h1
  rw [hT0, hF0] at this
  exact this

def exL : List UInt8 := [60, 80, 32, 97, 61, 49, 32, 97, 61, 50, 62, 120, 38, 108, 116, 59, 60, 47, 112, 62]
theorem kn : tokL exL = ⟨[], 20, [⟨1, [112], [⟨[97], [49]⟩], false, [], 0⟩, ⟨3, [], [], false, [120, 60], 11⟩, ⟨2, [112], [], false, [], 16⟩], [⟨5, 7⟩], [], 11⟩ := by kernel_rfl

set_option maxRecDepth 20000 in
set_option maxHeartbeats 4000000 in
theorem known_any (K : Nat → Prop) (w : World) (hK : ∀ k, K k → k < w.heap.size) (hT : Tab w) (h0 : K 0) (h1 : K 1) :
    Calls Tryd.prog 9 #[] w fun e w' => e = .returned (.bool true) ∧ Kept K w w' := by
  have r := tokens_of (congrArg TS.toks kn) (congrArg TS.flts kn) (by decide) K w hK hT h0 h1
  clear hT
  go_enter Tryd.func9, Tryd.ntmps9
  go_wp2_with fail
  refine r.mono ?_
  rintro e w1 ⟨ta, tc, fa, fc, rfl, ht, hf, k1⟩
  obtain ⟨g, aa, ac, rfl, _, ha, c0, c1, c2, c3, c4, c5⟩ := ht 0 (by decide)
  obtain ⟨g', aa1, ac1, e1, _, _, _, _, _, _, d4, _⟩ := ht 1 (by decide)
  obtain ⟨g'', aa2, ac2, e2, _, _, b0, _⟩ := ht 2 (by decide)
  injection e1 with e1
  injection e1 with e1
  injection e2 with e2
  injection e2 with e2
  subst e1
  subst e2
  obtain ⟨ga, rfl, _, a0, a1⟩ := ha 0 (by decide)
  obtain ⟨gf, rfl, _, f0, f1⟩ := hf 0 (by decide)
  dsimp only [List.getElem_cons_zero, List.getElem_cons_succ, List.length_cons, List.length_nil] at c0 c1 c2 c3 c4 c5 d4 b0 a0 a1 f0 f1
  simp only [Nat.zero_mul, Nat.zero_add, Nat.one_mul, Nat.reduceMul, Nat.reduceAdd] at c0 c1 c2 c3 c4 c5 d4 b0 a0 a1 f0 f1
  clear ht hf ha r
  go_wp2
  go_ret
  exact ⟨rfl, k1⟩
end Go.Proofs.YtncfgahnjakeiaaDoor
