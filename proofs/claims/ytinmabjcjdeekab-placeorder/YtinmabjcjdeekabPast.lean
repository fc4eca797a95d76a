/-
  What spot.past answers.
-/
import Derived.Test.YtinmabjcjdeekabProg
import Derived.Test.YtinmabjcjdeekabBase
import Derived.Deep.RegionHeld3
import Derived.Deep.QuietTactic
import Derived.BigQuiet
import Derived.Laws.Rows
namespace Go.Proofs.Ytinmabjcjdeekab
open Go.RowKit

/-- A line and a column, past one more byte. -/
def past (p : Nat × Nat) (b : UInt8) : Nat × Nat :=
  if b.toNat = 10 then (p.1 + 1, 1) else if 128 ≤ b.toNat ∧ b.toNat ≤ 191 then p else (p.1, p.2 + 1)

abbrev spV (l c : Nat) : Value := .agg #[.int .i64 (l : Int), .int .i64 (c : Int)]

set_option maxRecDepth 20000 in
set_option maxHeartbeats 1000000 in
theorem past_any (l c : Nat) (b : UInt8) (K : Nat → Prop) (w : World) (hK : ∀ k, K k → k < w.heap.size) (h1 : l < 1000000) (h2 : c < 1000000) :
    Calls Try.prog 7 #[spV l c, .int .u8 b.toNat] w fun e w' => e = .returned (spV (past (l, c) b).1 (past (l, c) b).2) ∧ Kept K w w' := by
  have kk : ∀ o p, Kept K w ((w.alloc o).alloc p) := fun o p => ((Kept.refl K w).alloc hK o).alloc (fun k hk => by have := hK k hk; simp; omega) p
  by_cases g1 : b.toNat = 10
  · have hp : past (l, c) b = (l + 1, 1) := by simp [past, g1]
    rw [hp]
    have e1 : ((b.toNat : Int) == 10) = true := by simp; omega
    clear hp g1
    go_enter Try.func7, Try.ntmps7
    go_wp2
    refine bodyPost_ret (results_cell_row (p := 4) (ty := 30) rfl _ _ (w.heap.size + 1) 30 _ _ _ rfl (heap_alloc2_new _ _ _) Try.underlying30 rfl rfl) rfl ?_
    exact ⟨rfl, kk _ _⟩
  · have e1 : ((b.toNat : Int) == 10) = false := by simp; omega
    by_cases g2 : 128 ≤ b.toNat
    · have e2 : decide ((b.toNat : Int) ≥ 128) = true := by simp; omega
      by_cases g3 : b.toNat ≤ 191
      · have e3 : decide ((b.toNat : Int) ≤ 191) = true := by simp; omega
        have hp : past (l, c) b = (l, c) := by simp [past, g1, g2, g3]
        rw [hp]
        clear hp g1 g2 g3
        go_enter Try.func7, Try.ntmps7
        go_wp2
        refine bodyPost_ret (results_cell_row (p := 4) (ty := 30) rfl _ _ (w.heap.size + 1) 30 _ _ _ rfl (heap_alloc2_new _ _ _) Try.underlying30 rfl rfl) rfl ?_
        exact ⟨rfl, (kk _ _)⟩
      · have e3 : decide ((b.toNat : Int) ≤ 191) = false := by simp; omega
        have hp : past (l, c) b = (l, c + 1) := by simp [past, g1, g2, g3]
        rw [hp]
        clear hp g1 g2 g3
        go_enter Try.func7, Try.ntmps7
        go_wp2
        refine bodyPost_ret (results_cell_row (p := 4) (ty := 30) rfl _ _ (w.heap.size + 1) 30 _ _ _ rfl (heap_alloc2_new _ _ _) Try.underlying30 rfl rfl) rfl ?_
        exact ⟨rfl, (kk _ _)⟩
    · have e2 : decide ((b.toNat : Int) ≥ 128) = false := by simp; omega
      have hp : past (l, c) b = (l, c + 1) := by simp [past, g1, g2]
      rw [hp]
      clear hp g1 g2
      go_enter Try.func7, Try.ntmps7
      go_wp2
      refine bodyPost_ret (results_cell_row (p := 4) (ty := 30) rfl _ _ (w.heap.size + 1) 30 _ _ _ rfl (heap_alloc2_new _ _ _) Try.underlying30 rfl rfl) rfl ?_
      exact ⟨rfl, (kk _ _)⟩
end Go.Proofs.Ytinmabjcjdeekab
