/-
  shadow.Of, isClosed, Open.
-/
import Derived.Test.YtbhfnbplbkncmaaGreatZ28
namespace Go.Proofs.YtbhfnbplbkncmaaGreat
open Go.RowKit
set_option linter.unusedVariables false
set_option maxRecDepth 20000 in
set_option maxHeartbeats 1000000 in
theorem of_any (K : Nat → Prop) (p i : Nat) (M : Dm) (R : Nat → List Nat) (rk : Nat → Nat) (w : World) (h : DX K w p M) (hG : Good M R rk) (hi : i < M.n) (hn : M.n ≤ 1000000) :
    Calls Tryz.prog 42 #[.pointer (some ⟨p, 0, none⟩), .int .i64 (i : Int)] w fun e w' => ∃ z : Int, OfOf M i z ∧ e = .returned (.int .i64 z) ∧ Kept (fun k => k < w.heap.size) w w' := by
  have r1 := oroot_any K p i M R rk w h hG hi hn
  have HG : Hid (Good M R rk) := hG
  have HX : Hid (DX K w p M) := h
  clear h hG
  go_enter Tryz.func42, Tryz.ntmps42
  go_wp2_with fail
  refine r1.mono ?_
  rintro e w1 ⟨t, ht, hT, rfl, hK1⟩
  have r2 := node_any K p t M R w1 (HX.out.kept hK1) HG.out.wf ht hn HG.out.few
  have HT : Hid (TopOf M i t) := hT
  have HK1 : Hid (Kept (fun k => k < w.heap.size) w w1) := hK1
  clear r1 hT hK1
  go_upto_region 2 with fail
  go_wp2_with fail
  refine r2.mono ?_
  rintro e v1 ⟨ao1, ac1, ko1, kc1, rfl, -, -, hK2⟩
  have HK2 : Hid (∀ o, Kept (fun k => k < w.heap.size) w (v1.alloc o)) := fun o => (HK1.out.trans (hK2.mono fun k h => Nat.lt_of_lt_of_le h HK1.out.size)).alloc (fun k h => Nat.lt_of_lt_of_le h (Nat.le_trans HK1.out.size hK2.size)) o
  obtain ⟨kd, hkd⟩ : ∃ kd, (M.nd t).kind = kd := ⟨_, rfl⟩
  have HKD : Hid ((M.nd t).kind = kd) := hkd
  rw [hkd]
  clear r2 hK2 hkd
  by_cases c : kd = 5
  · subst c
    go_wp2
    go_ret
    exact ⟨_, .yes HT.out HKD.out, rfl, HK2.out _⟩
  · have e1 : ((kd : Int) == 5) = false := by simp; omega
    have e2 : ¬ (kd : Int) = 5 := by omega
    go_wp2
    go_ret
    exact ⟨_, .no HT.out (by rw [HKD.out]; exact c), rfl, HK2.out _⟩
end Go.Proofs.YtbhfnbplbkncmaaGreat
