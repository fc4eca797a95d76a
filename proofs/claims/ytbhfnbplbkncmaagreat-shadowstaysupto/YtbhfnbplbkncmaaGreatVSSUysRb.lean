/-
  The document's own order.Root, shadow.Of, Open.
-/
import Derived.Test.YtbhfnbplbkncmaaGreatZ23
import Derived.Test.YtbhfnbplbkncmaaGreatVSSUysPu
import Derived.BigQuiet
namespace Go.Proofs.YtbhfnbplbkncmaaGreat
open Go.RowKit Go.Sort
set_option linter.unusedVariables false
set_option maxRecDepth 20000 in
theorem othere_any (K : Nat → Prop) (p : Nat) (M : Dm) (R G : Nat → List Nat) (i : Int) (w : World) (h : RX K w p M R G) :
    Calls Tryz.prog 84 #[.pointer (some ⟨p, 0, none⟩), .int .i64 i] w fun e w' => e = .returned (.bool (decide (0 ≤ i) && decide (i < (M.n : Int)))) ∧ w' = w := by
  obtain ⟨A, h⟩ := h
  have c1 := h.c1
  clear h
  by_cases h0 : 0 ≤ i
  · have e0 : decide (i ≥ 0) = true := decide_eq_true h0
    rw [decide_eq_true h0]
    go_enter Tryz.func84, Tryz.ntmps84
    go_wp2
    go_ret
    exact ⟨by simp, rfl⟩
  · have e0 : decide (i ≥ 0) = false := decide_eq_false h0
    rw [decide_eq_false h0]
    go_enter Tryz.func84, Tryz.ntmps84
    go_wp2
    go_ret
    exact ⟨by simp, rfl⟩
set_option maxRecDepth 20000 in
set_option maxHeartbeats 1000000 in
theorem pRoot_any (K : Nat → Prop) (p i : Nat) (M : Dm) (R G : Nat → List Nat) (rk : Nat → Nat) (w : World) (h : RX K w p M R G) (hG : Good M R rk) (hi : i < M.n) (hn : M.n ≤ 1000000) :
    Calls Tryz.prog 29 #[.pointer (some ⟨p, 0, none⟩), .int .i64 (i : Int)] w fun e w' => ∃ t, t < M.n ∧ TopOf M i t ∧ e = .returned (.int .i64 (t : Int)) ∧ w' = w := by
  have rt := othere_any K p M R G (i : Int) w h
  rw [there_yes hi] at rt
  obtain ⟨A, h⟩ := h
  obtain ⟨g, hg, -, -, -⟩ := h.nat (by omega)
  have c1 := h.c1
  rw [hg] at c1
  have HC : Hid (∀ k, k < M.n → w.cell? ⟨g, k * 14 + 4, none⟩ = some (.int .i64 (M.pl k).up)) := fun k hk => h.cell hg hk 4 _ rfl
  have HG : Hid (Good M R rk) := hG
  clear h hg hG
  go_enter Tryz.func29, Tryz.ntmps29
  go_upto_region 3 with (go_at_call 84; refine rt.mono ?_; rintro e1 w3 ⟨rfl, hw3⟩; replace hw3 := hw3.symm; subst hw3)
  go_loopg [1] (rk i) (fun gh v wr => wr = w ∧ ∃ k : Nat, gh = rk k ∧ v = .int .i64 (k : Int) ∧ k < M.n ∧ (∀ t, TopOf M k t → TopOf M i t))
  case atStart => exact ⟨rfl, i, rfl, rfl, hi, fun _ h => h⟩
  case round =>
    obtain ⟨rfl, k, hgk, rfl, hk, hT⟩ := hrel
    have HT : Hid (∀ t, TopOf M k t → TopOf M i t) := hT
    have d4 := HC.out k hk
    clear hT
    rcases HG.out.wf.inn k hk with h0 | ⟨u, hu, hup, -⟩
    · rw [h0] at d4
      have H0 : Hid ((M.pl k).up = -1) := h0
      have e0 : decide ((-1 : Int) ≥ 0) = false := by decide
      clear h0
      go_wp2
      go_ret
      exact ⟨k, hk, HT.out k (.here H0.out), rfl, rfl⟩
    · have HUP : Hid ((M.pl k).up = (u : Int)) := hup
      have hrk := (HG.out.rk_up hk hup).2
      have e0 : decide ((u : Int) ≥ 0) = true := decide_eq_true (by omega)
      rw [hup] at d4
      clear hup
      go_wp2
      go_roundg (rk u)
      case rel => exact ⟨rfl, u, rfl, rfl, hu, fun t ht => HT.out t (.up HUP.out ht)⟩
      case measure => omega
theorem OfOf.ex {M : Dm} {R : Nat → List Nat} {rk : Nat → Nat} (h : Good M R rk) {i : Nat} (hi : i < M.n) : ∃ z, OfOf M i z := by
  obtain ⟨t, ht, hT, _⟩ := h.top (rk i + 1) i (Nat.lt_succ_self _) hi
  by_cases c : (M.nd t).kind = 5
  · exact ⟨_, .yes hT c⟩
  · exact ⟨_, .no hT c⟩
set_option maxRecDepth 20000 in
set_option maxHeartbeats 1000000 in
theorem pOf_any (K : Nat → Prop) (p i : Nat) (M : Dm) (R G : Nat → List Nat) (rk : Nat → Nat) (w : World) (h : RX K w p M R G) (hG : Good M R rk) (hi : i < M.n) (hn : M.n ≤ 1000000) :
    Calls Tryz.prog 41 #[.pointer (some ⟨p, 0, none⟩), .int .i64 (i : Int)] w fun e w' => ∃ z : Int, OfOf M i z ∧ e = .returned (.int .i64 z) ∧ w' = w := by
  have r1 := pRoot_any K p i M R G rk w h hG hi hn
  obtain ⟨A, h⟩ := h
  obtain ⟨g, hg, -, -, -⟩ := h.nat (by omega)
  have c1 := h.c1
  rw [hg] at c1
  have HC : Hid (∀ k, k < M.n → w.cell? ⟨g, k * 14, none⟩ = some (.int .u8 ((M.nd k).kind : Int))) := fun k hk => h.cell hg hk 0 _ rfl
  clear h hg hG
  go_enter Tryz.func41, Tryz.ntmps41
  go_wp2_with fail
  refine r1.mono ?_
  rintro e w1 ⟨t, ht, hT, rfl, hw⟩
  replace hw := hw.symm
  subst hw
  have d0 := HC.out t ht
  have HT : Hid (TopOf M i t) := hT
  have e0 : decide ((t : Int) ≥ 0) = true := decide_eq_true (by omega)
  obtain ⟨kd, hkd⟩ : ∃ kd, (M.nd t).kind = kd := ⟨_, rfl⟩
  have HKD : Hid ((M.nd t).kind = kd) := hkd
  rw [hkd] at d0
  clear r1 hT hkd
  by_cases c : kd = 5
  · subst c
    go_wp2
    go_ret
    exact ⟨_, .yes HT.out HKD.out, rfl, rfl⟩
  · have e1 : ((kd : Int) == 5) = false := by simp; omega
    have e2 : ¬ (kd : Int) = 5 := by omega
    go_wp2
    go_ret
    exact ⟨_, .no HT.out (by rw [HKD.out]; exact c), rfl, rfl⟩
end Go.Proofs.YtbhfnbplbkncmaaGreat
