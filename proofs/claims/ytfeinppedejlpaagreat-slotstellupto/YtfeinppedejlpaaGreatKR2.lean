/-
 The document's own order.Root, shadow.Of, Open.; What is told of a document that only is read.; Trees have no node twice; who stands in one (pure).
-/
import Derived.Test.YtfeinppedejlpaaGreatKNa
import Derived.Test.YtfeinppedejlpaaGreatKW17
import Derived.Test.YtfeinppedejlpaaGreatKW26
import Derived.Test.YtfeinppedejlpaaGreatKW28
import Derived.Test.YtfeinppedejlpaaGreatKR1
import Derived.Test.YtfeinppedejlpaaGreatKB19
import Derived.BigQuiet
namespace Go.Proofs.YtfeinppedejlpaaGreat
set_option linter.unusedVariables false
set_option maxRecDepth 100000
set_option maxHeartbeats 8000000
section
open Go.RowKit Go.Sort
theorem zs9 (K : Nat -> Prop) (p i : Nat) (M : Dm) (R G : Nat -> List Nat) (rk : Nat -> Nat) (w : World) (h : RX K TT w p M R G) (hG : Good M R rk) (hi : i < M.n) (hn : M.n <= 1000000) :
  Calls Tryz.prog 78 #[.pointer (some ⟨p, 0, none⟩), .int .i64 (i : Int)] w fun e w' => ∃ z : Int, Znb M i z /\ e = .returned (.int .i64 z) /\ w' = w := by
 have r1 := znv K p i M R G rk w h hG hi hn
 obtain ⟨A, h⟩ := h
 obtain ⟨g, hg, -, -, -⟩ := h.nat (by omega)
 have c1 := h.c1
 rw [hg] at c1
 have HC : Hid (∀ k, k < M.n -> w.cell? ⟨g, k * 14, none⟩ = some (.int .u8 ((M.nd k).kind : Int))) := fun k hk => h.cell hg hk 0 _ rfl
 clear h hg hG
 go_enter Tryz.func78, Tryz.ntmps78
 go_wp2_with fail
 refine r1.mono ?_
 rintro e w1 ⟨t, ht, hT, rfl, hw⟩
 replace hw := hw.symm
 subst hw
 have d0 := HC.out t ht
 have HT : Hid (Zbv M i t) := hT
 have e0 : decide ((t : Int) >= 0) = true := decide_eq_true (by omega)
 obtain ⟨kd, hkd⟩ : ∃ kd, (M.nd t).kind = kd := ⟨_, rfl⟩
 have HKD : Hid ((M.nd t).kind = kd) := hkd
 rw [hkd] at d0
 clear r1 hT hkd
 by_cases c : kd = 5
 ·subst c
  go_wp2
  go_ret
  exact ⟨_, .yes HT.out HKD.out, rfl, rfl⟩
 ·have e1 : ((kd : Int) == 5) = false := by simp; omega
  have e2 : ¬ (kd : Int) = 5 := by omega
  go_wp2
  go_ret
  exact ⟨_, .no HT.out (by rw [HKD.out]; exact c), rfl, rfl⟩
end
end Go.Proofs.YtfeinppedejlpaaGreat
