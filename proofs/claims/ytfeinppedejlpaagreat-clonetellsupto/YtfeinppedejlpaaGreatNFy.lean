/-
  The document's own Given, Slot.
-/
import Derived.Test.YtfeinppedejlpaaGreatNR2
namespace Go.Proofs.YtfeinppedejlpaaGreat
set_option maxHeartbeats 8000000
set_option maxRecDepth 100000
open Go.RowKit Go.Sort
set_option linter.unusedVariables false
theorem ziq (K : Nat -> Prop) (p : Nat) (M : Dm) (R G : Nat -> List Nat) (i : Int) (w : World) (h : RX K TT w p M R G) (hi : i < 0 \/ (M.n : Int) <= i) :
  Calls Tryz.prog 83 #[.pointer (some ⟨p, 0, none⟩), .int .i64 i] w fun e w' => e = .returned (.slice none 0 0) /\ w' = w := by
 have rt := zae K p M R G i w h
 rw [zbv hi] at rt
 clear h hi
 go_enter Tryz.func83, Tryz.ntmps83
 go_wp2_with (go_at_call 160; refine rt.mono ?_; rintro e1 w3 ⟨rfl, hw3⟩; replace hw3 := hw3.symm; subst hw3)
 go_ret
 exact ⟨rfl, rfl⟩
theorem zme (K : Nat -> Prop) (p i : Nat) (M : Dm) (R G : Nat -> List Nat) (w : World) (h : RX K TT w p M R G) (hi : i < M.n) (hn : M.n <= 1000000) (hl : (G i).length <= 1000000) :
  Calls Tryz.prog 83 #[.pointer (some ⟨p, 0, none⟩), .int .i64 (i : Int)] w fun e w' => ∃ ao c, e = .returned (.slice ao (G i).length c) /\ Zac (fun k => k < w.heap.size) w' 3 1 ao (G i).length c (ivs (G i)) /\ Kept (fun k => k < w.heap.size) w w' := by
 have rt := zae K p M R G (i : Int) w h
 rw [zal hi] at rt
 obtain ⟨A, hY⟩ := h
 obtain ⟨g, hg, -, -, hgl⟩ := hY.qat (by omega)
 have c2 := hY.c2
 rw [hg] at c2
 have q0 := hY.qcell hg hi
 have ro := hY.gown i hi
 have ri := zef (G i) (A.ga i) (G i).length (A.gc i) rfl (by omega) w (ro.intsAt fun x hx => (Zac.out ro hx).2)
 obtain ⟨n, hne⟩ : ∃ n, (G i).length = n := ⟨_, rfl⟩
 obtain ⟨ga, hga⟩ : ∃ ga, A.ga i = ga := ⟨_, rfl⟩
 obtain ⟨gc, hgc⟩ : ∃ gc, A.gc i = gc := ⟨_, rfl⟩
 rw [hne, hga, hgc] at q0 ri
 rw [hne]
 clear hY hg ro hga hgc hne
 go_enter Tryz.func83, Tryz.ntmps83
 go_wp2_with (first | (go_at_call 160; refine rt.mono ?_; rintro e1 w3 ⟨rfl, hw3⟩; replace hw3 := hw3.symm; subst hw3) | (go_at_call 161; refine ri.mono ?_; rintro e1 w3 ⟨ao, c, rfl, hO, hK⟩))
 go_ret
 exact ⟨ao, c, rfl, hO, hK⟩
end Go.Proofs.YtfeinppedejlpaaGreat
