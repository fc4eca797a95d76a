/-
  Several texts, one behind the other.
-/
import Derived.Test.YtbhfnbplbkncmaaGreatZ28
import Derived.Test.YtbhfnbplbkncmaaGreatY37
import Derived.Test.YtbhfnbplbkncmaaGreatY38
import Derived.Test.YtbhfnbplbkncmaaGreatZ23
import Derived.Test.YtbhfnbplbkncmaaGreatVOAUadPu
import Derived.BigQuiet
import Derived.Test.YtbhfnbplbkncmaaGreatVOAUadKh
import Derived.Lib.QuietBelow
namespace Go.Proofs.YtbhfnbplbkncmaaGreat
open Go.RowKit
set_option linter.unusedVariables false
set_option maxRecDepth 20000 in
set_option maxHeartbeats 1000000 in
theorem of_any (K : Nat → Prop) (p i : Nat) (M : Dm) (R : Nat → List Nat) (rk : Nat → Nat) (w : World) (h : DX K w p M) (hG : Good M R rk) (hi : i < M.n) (hn : M.n ≤ 1000000) :
    Calls Tryz.prog 42 #[.pointer (some ⟨p, 0, none⟩), .int .i64 (i : Int)] w fun e w' => ∃ z : Int, OfOf M i z ∧ e = .returned (.int .i64 z) ∧ Kept (fun k => k < w.heap.size) w w' := by
  have r1 := oroot_any K p i M R rk w h hG hi hn
  have HG : Hid (Good M R rk) := hG
  have HX : Hid (DX K w p M) := h
  clear h hG
  go_enter Tryz.func42, Tryz.ntmps42
  go_wp2_with fail
  refine r1.mono ?_
  rintro e w1 ⟨t, ht, hT, rfl, hK1⟩
  have r2 := node_any K p t M R w1 (HX.out.kept hK1) HG.out.wf ht hn HG.out.few
  have HT : Hid (TopOf M i t) := hT
  have HK1 : Hid (Kept (fun k => k < w.heap.size) w w1) := hK1
  clear r1 hT hK1
  go_upto_region 2 with fail
  go_wp2_with fail
  refine r2.mono ?_
  rintro e v1 ⟨ao1, ac1, ko1, kc1, rfl, -, -, hK2⟩
  have HK2 : Hid (∀ o, Kept (fun k => k < w.heap.size) w (v1.alloc o)) := fun o => (HK1.out.trans (hK2.mono fun k h => Nat.lt_of_lt_of_le h HK1.out.size)).alloc (fun k h => Nat.lt_of_lt_of_le h (Nat.le_trans HK1.out.size hK2.size)) o
  obtain ⟨kd, hkd⟩ : ∃ kd, (M.nd t).kind = kd := ⟨_, rfl⟩
  have HKD : Hid ((M.nd t).kind = kd) := hkd
  rw [hkd]
  clear r2 hK2 hkd
  by_cases c : kd = 5
  · subst c
    go_wp2
    go_ret
    exact ⟨_, .yes HT.out HKD.out, rfl, HK2.out _⟩
  · have e1 : ((kd : Int) == 5) = false := by simp; omega
    have e2 : ¬ (kd : Int) = 5 := by omega
    go_wp2
    go_ret
    exact ⟨_, .no HT.out (by rw [HKD.out]; exact c), rfl, HK2.out _⟩
end Go.Proofs.YtbhfnbplbkncmaaGreat
namespace Go.Proofs.YtbhfnbplbkncmaaGreat
open Go.RowKit
set_option linter.unusedVariables false
theorem u16_of {i : Int} (h : (Lit.int .u16 i).wf = true) : 0 ≤ i ∧ i ≤ 65535 := by
  have h1 : IntKind.min .u16 ≤ i ∧ i ≤ IntKind.max .u16 := by simpa [Lit.wf] using h
  exact h1
section
variable {K E : Nat → Prop} {w : World} {p r : Nat} {M : Dm} {R G : Nat → List Nat} {rk : Nat → Nat} {lim : Nat}
theorem Grown.nle (h : Grown K E w p r M R G rk lim) (hl : lim ≤ 100000) : M.n ≤ 100000 := by have := h.le; rw [h.lim] at this; omega
theorem Grown.root (h : Grown K E w p r M R G rk lim) (hl : lim ≤ 100000) {i t : Nat} (hi : i < M.n) (hT : TopOf M i t) {X : World} (hk : Kept (fun k => k < w.heap.size) w X) :
    Calls Tryz.prog 26 #[.pointer (some ⟨p, 0, none⟩), .int .i64 (i : Int)] X fun e w' => e = .returned (.int .i64 (t : Int)) ∧ Kept (fun k => k < X.heap.size) X w' :=
  (oroot_any _ p i M R rk X (h.two.d.kept hk) h.inv.good hi (by have := h.nle hl; omega)).mono fun e w' ⟨t', _, h2, h3, h4⟩ => by rw [h2.one hT] at h3; exact ⟨h3, h4⟩
theorem Grown.of (h : Grown K E w p r M R G rk lim) (hl : lim ≤ 100000) {i : Nat} {z : Int} (hi : i < M.n) (hT : OfOf M i z) {X : World} (hk : Kept (fun k => k < w.heap.size) w X) :
    Calls Tryz.prog 42 #[.pointer (some ⟨p, 0, none⟩), .int .i64 (i : Int)] X fun e w' => e = .returned (.int .i64 z) ∧ Kept (fun k => k < X.heap.size) X w' :=
  (of_any _ p i M R rk X (h.two.d.kept hk) h.inv.good hi (by have := h.nle hl; omega)).mono fun e w' ⟨t', h2, h3, h4⟩ => by rw [h2.one hT] at h3; exact ⟨h3, h4⟩
theorem Inv.of (h : Inv M R G rk) {i : Nat} (hi : i < M.n) : ∃ z t, OfOf M i z ∧ t < M.n ∧ TopOf M i t ∧ ((z = (t : Int) ∧ (M.nd t).kind = 5) ∨ (z = -1 ∧ (M.nd t).kind ≠ 5)) := by
  obtain ⟨t, ht, hT, _⟩ := h.good.top (rk i + 1) i (Nat.lt_succ_self _) hi
  by_cases c : (M.nd t).kind = 5
  · exact ⟨_, t, .yes hT c, ht, hT, .inl ⟨rfl, c⟩⟩
  · exact ⟨_, t, .no hT c, ht, hT, .inr ⟨rfl, c⟩⟩
end
end Go.Proofs.YtbhfnbplbkncmaaGreat
namespace Go.Proofs.YtbhfnbplbkncmaaGreat
open Go.RowKit Go.Sort
set_option linter.unusedVariables false
section
variable {K E : Nat → Prop} {w : World} {p r : Nat} {M : Dm} {R G : Nat → List Nat} {rk : Nat → Nat} {lim : Nat}
theorem Grown.top (h : Grown K E w p r M R G rk lim) (hl : lim ≤ 100000) {i t : Nat} (hi : i < M.n) (hT : TopT M i t) {X : World} (hk : Kept (fun k => k < w.heap.size) w X) :
    Calls Tryz.prog 25 #[.pointer (some ⟨p, 0, none⟩), .int .i64 (i : Int)] X fun e w' => e = .returned (.int .i64 (t : Int)) ∧ Kept (fun k => k < X.heap.size) X w' :=
  top_any _ p M R G rk w h.two.d h.inv (h.nle hl) _ i (Nat.lt_succ_self _) hi t hT X hk
end
end Go.Proofs.YtbhfnbplbkncmaaGreat
namespace Go.Proofs.YtbhfnbplbkncmaaGreat
open Go.RowKit Go.Sort
set_option linter.unusedVariables false
section
variable {K E : Nat → Prop} {w : World} {p r : Nat} {M : Dm} {R G : Nat → List Nat} {rk : Nat → Nat} {lim : Nat}
theorem Grown.tree (h : Grown K E w p r M R G rk lim) (hl : lim ≤ 100000) (i : Int) {X : World} (hk : Kept (fun k => k < w.heap.size) w X) : Calls Tryz.prog 27 #[.pointer (some ⟨p, 0, none⟩), .int .i64 i] X (Lst X (trI M.n R i)) :=
  tree_any _ p M R rk X (h.two.d.kept hk) h.inv.good (h.nle hl) i
theorem Grown.all (h : Grown K E w p r M R G rk lim) (hl : lim ≤ 100000) (i : Int) {X : World} (hk : Kept (fun k => k < w.heap.size) w X) : Calls Tryz.prog 28 #[.pointer (some ⟨p, 0, none⟩), .int .i64 i] X (Lst X (trI M.n (fwd M R) i)) :=
  all_any _ p M R G rk X (h.two.d.kept hk) h.inv (h.nle hl) i
end
end Go.Proofs.YtbhfnbplbkncmaaGreat
