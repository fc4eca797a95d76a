/-
  The document's own shadow.Open.
-/
import Derived.Test.YtbhfnbplbkncmaaGreatVSTUlsRb
namespace Go.Proofs.YtbhfnbplbkncmaaGreat
open Go.RowKit Go.Sort
set_option linter.unusedVariables false
set_option maxRecDepth 20000 in
set_option maxHeartbeats 1000000 in
theorem pOpen_any (K : Nat → Prop) (p i : Nat) (M : Dm) (R G : Nat → List Nat) (w : World) (h : RX K w p M R G) (hi : i < M.n) (hn : M.n ≤ 1000000) (hs : (M.nd i).shadow = -1 ∨ ∃ s : Nat, s < M.n ∧ (M.nd i).shadow = (s : Int)) :
    Calls Tryz.prog 49 #[.pointer (some ⟨p, 0, none⟩), .int .i64 (i : Int)] w fun e w' => e = .returned (.int .i64 (openI M i)) ∧ Kept (fun k => k < w.heap.size) w w' := by
  obtain ⟨A, h⟩ := h
  obtain ⟨g, hg, -, -, -⟩ := h.nat (by omega)
  have c1 := h.c1
  rw [hg] at c1
  have d6 : w.cell? ⟨g, i * 14 + 6, none⟩ = some (.int .i64 (M.nd i).shadow) := h.cell hg hi 6 _ rfl
  have e0 : decide ((i : Int) < 0) = false := decide_eq_false (by omega)
  have e1 : decide ((i : Int) ≥ (M.n : Int)) = false := decide_eq_false (by omega)
  have e1n : decide (M.n ≤ i) = false := decide_eq_false (by omega)
  unfold openI
  rcases hs with hs | ⟨s, hsn, hs⟩
  · rw [if_pos hs]
    rw [hs] at d6
    have e2 : decide ((-1 : Int) < 0) = true := by decide
    clear h hg hs
    go_enter Tryz.func49, Tryz.ntmps49
    go_upto_region 1 with fail
    go_quiet (fail)
    go_wp2
    go_ret
    exact ⟨rfl, (Kept.refl _ _).drewN _⟩
  · have d9 : w.cell? ⟨g, s * 14 + 9, none⟩ = some (.bool (M.nd s).fl.a) := h.cell hg hsn 9 _ rfl
    rw [hs, if_neg (by omega), Int.toNat_natCast]
    rw [hs] at d6
    have e2 : decide ((s : Int) < 0) = false := decide_eq_false (by omega)
    obtain ⟨b, hb⟩ : ∃ b, (M.nd s).fl.a = b := ⟨_, rfl⟩
    rw [hb] at d9 ⊢
    have d6' : ∀ m, (w.drewN m).cell? ⟨g, i * 14 + 6, none⟩ = some (.int .i64 (s : Int)) := fun m => d6
    have c1' : ∀ m, (w.drewN m).cell? ⟨p, 1, none⟩ = some (.slice (some ⟨g, 0, none⟩) M.n A.nc) := fun m => c1
    have d9' : w.cell? ⟨g, s * 14 + 9 + 0, none⟩ = some (.bool b) := d9
    clear h hg hs hb
    cases b with
    | true =>
      go_enter Tryz.func49, Tryz.ntmps49
      go_upto_region 1 with fail
      go_quiet (fail)
      go_wp2
      go_ret
      exact ⟨rfl, (Kept.refl _ _).drewN _⟩
    | false =>
      go_enter Tryz.func49, Tryz.ntmps49
      go_upto_region 1 with fail
      go_quiet (fail)
      go_wp2
      go_ret
      exact ⟨rfl, (Kept.refl _ _).drewN _⟩
end Go.Proofs.YtbhfnbplbkncmaaGreat
