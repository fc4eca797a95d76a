/-
  The walk of OrderTells.
-/
import Derived.Test.YtbhfnbplbkncmaaGreatVOTUlsMg
import Derived.Test.YtbhfnbplbkncmaaGreatVOTUlsNb
import Derived.Test.YtbhfnbplbkncmaaGreatYT30
namespace Go.Proofs.YtbhfnbplbkncmaaGreat
open Go.RowKit Go.Sort
set_option linter.unusedVariables false
section
variable {K E : Nat → Prop} {w : World} {p r : Nat} {M : Dm} {R G : Nat → List Nat} {rk : Nat → Nat} {lim : Nat}
theorem Grown.rootZ (h : Grown K E w p r M R G rk lim) (hl : lim ≤ 100000) (z : Int) : ∃ x : Int, ∀ X, Kept (fun k => k < w.heap.size) w X → Calls Tryz.prog 26 #[.pointer (some ⟨p, 0, none⟩), .int .i64 z] X (fun e w' => e = .returned (.int .i64 x) ∧ Kept (fun k => k < X.heap.size) X w') ∧ Calls Tryz.prog 29 #[.pointer (some ⟨r, 0, none⟩), .int .i64 z] X (fun e w' => e = .returned (.int .i64 x) ∧ w' = X) := by
  obtain ⟨x, hx⟩ := RootI.ex h.inv.good z
  exact ⟨x, fun X hX => ⟨hx.calls (h.two.d.kept hX) h.inv.good (h.nle hl), hx.pcalls (h.two.r.kept hX) h.inv.good (h.nle hl)⟩⟩
theorem Grown.topZ (h : Grown K E w p r M R G rk lim) (hl : lim ≤ 100000) (z : Int) : ∃ x : Int, ∀ X, Kept (fun k => k < w.heap.size) w X → Calls Tryz.prog 25 #[.pointer (some ⟨p, 0, none⟩), .int .i64 z] X (fun e w' => e = .returned (.int .i64 x) ∧ Kept (fun k => k < X.heap.size) X w') ∧ Calls Tryz.prog 30 #[.pointer (some ⟨r, 0, none⟩), .int .i64 z] X (fun e w' => e = .returned (.int .i64 x) ∧ w' = X) := by
  by_cases c : z < 0 ∨ (M.n : Int) ≤ z
  · exact ⟨-1, fun X hX => ⟨top_none _ p M z X (h.two.d.kept hX) c (by have := h.nle hl; omega), pTop_none _ r M R G z X (h.two.r.kept hX) c⟩⟩
  · obtain ⟨i, hi, rfl⟩ : ∃ i : Nat, i < M.n ∧ z = (i : Int) := ⟨z.toNat, by omega, by omega⟩
    obtain ⟨t, _, hT, _⟩ := h.inv.topT _ i (Nat.lt_succ_self _) hi
    exact ⟨(t : Int), fun X hX => ⟨h.top hl hi hT hX, pTop_in _ r M R G rk X (h.two.r.kept hX) h.inv (h.nle hl) _ i (Nat.lt_succ_self _) hi t hT⟩⟩
theorem Grown.pTree (h : Grown K E w p r M R G rk lim) (hl : lim ≤ 100000) (i : Int) {X : World} (hk : Kept (fun k => k < w.heap.size) w X) : Calls Tryz.prog 32 #[.pointer (some ⟨r, 0, none⟩), .int .i64 i] X (Lst X (trI M.n R i)) :=
  pTree_any _ r M R G rk X (h.two.r.kept hk) h.inv (h.nle hl) i
theorem Grown.pAll (h : Grown K E w p r M R G rk lim) (hl : lim ≤ 100000) (i : Int) {X : World} (hk : Kept (fun k => k < w.heap.size) w X) : Calls Tryz.prog 33 #[.pointer (some ⟨r, 0, none⟩), .int .i64 i] X (Lst X (trI M.n (fwd M R) i)) :=
  pAll_any _ r M R G rk X (h.two.r.kept hk) h.inv (h.nle hl) i
theorem Grown.beforeZ (h : Grown K E w p r M R G rk lim) (hl : lim ≤ 100000) (a b : Int) : ∃ x : Bool, ∀ X, Kept (fun k => k < w.heap.size) w X → Calls Tryz.prog 34 #[.pointer (some ⟨p, 0, none⟩), .int .i64 a, .int .i64 b] X (fun e w' => e = .returned (.bool x) ∧ Kept (fun k => k < X.heap.size) X w') ∧ Calls Tryz.prog 35 #[.pointer (some ⟨r, 0, none⟩), .int .i64 a, .int .i64 b] X (fun e w' => e = .returned (.bool x) ∧ Kept (fun k => k < X.heap.size) X w') := by
  obtain ⟨x, hx⟩ := RootI.ex h.inv.good a
  obtain ⟨y, hy⟩ := RootI.ex h.inv.good b
  exact ⟨_, fun X hX => ⟨before_any _ p M R rk X (h.two.d.kept hX) h.inv.good (h.nle hl) a b x y hx hy, pBefore_any _ r M R G rk X (h.two.r.kept hX) h.inv (h.nle hl) a b x y hx hy⟩⟩
/-- Two rows that tell the same. -/
theorem same_lst {X Y Z : World} {T : List Nat} {ao ao2 : Option Addr} {c c2 : Nat} (h1 : OwnZ (fun k => k < X.heap.size) Y 3 1 ao T.length c (ivs T)) (h2 : OwnZ (fun k => k < Y.heap.size) Z 3 1 ao2 T.length c2 (ivs T)) (hk : Kept (fun k => k < Y.heap.size) Y Z) (hT : T.length ≤ 100000) :
    Calls Tryz.prog 31 #[.slice ao T.length c, .slice ao2 T.length c2] Z fun e w' => e = .returned (.bool true) ∧ Kept (fun k => k < Z.heap.size) Z w' := by
  have i1 : IntsAt (fun k => k < Z.heap.size) Z ao T := (h1.intsAt (F := fun g => g < Y.heap.size) fun g hg => (h1.out hg).2).to (fun g hg => Nat.lt_of_lt_of_le hg hk.size) (fun g hg => hk.block g hg)
  have i2 : IntsAt (fun k => k < Z.heap.size) Z ao2 T := h2.intsAt fun g hg => (h2.out hg).2
  have := rsameInts_any T T ao ao2 T.length T.length c c2 rfl rfl (by omega) (by omega) Z i1 i2
  rw [decide_eq_true rfl] at this
  exact this
end
set_option maxRecDepth 20000 in
set_option maxHeartbeats 8000000 in
theorem otl_go (l : List Opx) (n : Nat) (hln : l.length = n) (hnn : n ≤ 60) (a : Option Addr) (c : Nat) (hok : ∀ o ∈ l, OpOk o) (hb : opsH l ≤ 6000) (w : World) (h : OpsAt (fun k => k < w.heap.size) w a l) (za zb : Int) :
    Calls Tryz.prog 5 #[.slice a n c, .int .i64 za, .int .i64 zb] w fun e w' => e = .returned (.bool true) ∧ Kept (fun k => k < w.heap.size) w w' := by
  have rh := heavy9_any l n hln hnn a c (by omega) w h
  rw [decide_eq_false (by omega : ¬ 6000 < opsH l)] at rh
  have RG : Hid (∀ X, Kept (fun k => k < w.heap.size) w X → Calls Tryz.prog 22 #[.slice a n c] X fun e w' => ∃ p r E M R G rk, e = .returned (.tuple #[.pointer (some ⟨p, 0, none⟩), .pointer (some ⟨r, 0, none⟩)]) ∧ Grown (fun k => k < X.heap.size) E w' p r M R G rk 300 ∧ Kept (fun k => k < X.heap.size) X w') := fun X hX => grown9 l n hln (by omega) a c hok (by omega) X (h.kept hX fun g hg => Nat.lt_of_lt_of_le hg hX.size)
  clear hln hok hb h
  go_enter Tryz.func5, Tryz.ntmps5
  go_wp2_with fail
  refine rh.mono ?_
  rintro e w1 ⟨rfl, k1⟩
  have rk0 := oknown_any w1
  clear rh
  go_wp2_with fail
  refine rk0.mono ?_
  rintro e w2 ⟨rfl, k2⟩
  have k12 : Kept (fun k => k < w.heap.size) w w2 := k1.trans (k2.mono fun k h => Nat.lt_of_lt_of_le h k1.size)
  have rg := RG.out w2 k12
  have HK12 : Hid (Kept (fun k => k < w.heap.size) w w2) := k12
  clear rk0 k1 k2 k12 RG
  go_wp2_with fail
  refine rg.mono ?_
  rintro e W ⟨p, r, E, M, R, G, rk, rfl, hG, hK⟩
  have HG : Hid (Grown (fun k => k < w2.heap.size) E W p r M R G rk 300) := hG
  have HKW : Hid (Kept (fun k => k < w.heap.size) w W) := HK12.out.trans (hK.mono fun k h => Nat.lt_of_lt_of_le h HK12.out.size)
  obtain ⟨m, hm⟩ : ∃ m, M.n = m := ⟨_, rfl⟩
  have HM : Hid (M.n = m) := hm
  have hm300 : m ≤ 300 := by have h1 := hG.le; rw [hG.lim, hm] at h1; exact h1
  have hm1 : 1 ≤ m := by rw [← hm]; exact hG.inv.core.pos
  have rl : Calls Tryz.prog 23 #[.pointer (some ⟨p, 0, none⟩)] W fun e w' => e = .returned (.int .i64 (m : Int)) ∧ w' = W := by rw [← hm]; exact hG.len (Kept.refl _ _)
  have NODE : Hid (∀ i, i < m → ∀ X, Kept (fun k => k < W.heap.size) W X → Calls Tryz.prog 24 #[.pointer (some ⟨p, 0, none⟩), .int .i64 (i : Int)] X fun e w' => Told X (M.nd i) (M.pl i).up (R i) e w') := fun i hi X hX => hG.node (by decide) (by rw [hm]; exact hi) hX
  obtain ⟨bv, hbv⟩ := hG.beforeZ (by decide) za zb
  have HBF : Hid (∀ X, Kept (fun k => k < W.heap.size) W X → Calls Tryz.prog 34 #[.pointer (some ⟨p, 0, none⟩), .int .i64 za, .int .i64 zb] X (fun e w' => e = .returned (.bool bv) ∧ Kept (fun k => k < X.heap.size) X w') ∧ Calls Tryz.prog 35 #[.pointer (some ⟨r, 0, none⟩), .int .i64 za, .int .i64 zb] X (fun e w' => e = .returned (.bool bv) ∧ Kept (fun k => k < X.heap.size) X w')) := hbv
  have LEN : Hid (∀ X, Kept (fun k => k < W.heap.size) W X → Calls Tryz.prog 23 #[.pointer (some ⟨p, 0, none⟩)] X fun e w' => e = .returned (.int .i64 (m : Int)) ∧ w' = X) := fun X hX => by rw [← hm]; exact hG.len hX
  have HT1 : Hid (∀ z, (trI M.n R z).length ≤ 100000) := fun z => Nat.le_trans (trI_len hG.inv.good.only z) (hG.nle (by decide))
  have HT2 : Hid (∀ z, (trI M.n (fwd M R) z).length ≤ 100000) := fun z => Nat.le_trans (trI_len hG.inv.only z) (hG.nle (by decide))
  clear rg hG hK hm NODE hbv rl
  go_upto_region 7 with fail
  go_loopg [9] (m + 2) (fun gh v9 wr => ∃ (j : Nat) (z : Int), gh = m + 2 - j ∧ j ≤ m + 2 ∧ v9 = .int .i64 z ∧ z = (j : Int) - 1 ∧ Kept (fun k => k < W.heap.size) W wr)
  case atStart => exact ⟨0, -1, rfl, Nat.zero_le _, rfl, rfl, Kept.refl _ _⟩
  case round =>
    obtain ⟨j, z, hgj, hj, rfl, hz, hK⟩ := hrel
    have rl := LEN.out wr hK
    have HK : Hid (Kept (fun k => k < W.heap.size) W wr) := hK
    by_cases hlt : j < m + 2
    · have e0 : decide (z ≤ (m : Int)) = true := decide_eq_true (by omega)
      obtain ⟨x, hx⟩ := HG.out.rootZ (by decide) z
      obtain ⟨y, hy⟩ := HG.out.topZ (by decide) z
      have r1 := (hx wr hK).1
      have HX : Hid (∀ X, Kept (fun k => k < W.heap.size) W X → Calls Tryz.prog 29 #[.pointer (some ⟨r, 0, none⟩), .int .i64 z] X (fun e w' => e = .returned (.int .i64 x) ∧ w' = X)) := fun X hX => (hx X hX).2
      have HY1 : Hid (∀ X, Kept (fun k => k < W.heap.size) W X → Calls Tryz.prog 25 #[.pointer (some ⟨p, 0, none⟩), .int .i64 z] X (fun e w' => e = .returned (.int .i64 y) ∧ Kept (fun k => k < X.heap.size) X w')) := fun X hX => (hy X hX).1
      have HY2 : Hid (∀ X, Kept (fun k => k < W.heap.size) W X → Calls Tryz.prog 30 #[.pointer (some ⟨r, 0, none⟩), .int .i64 z] X (fun e w' => e = .returned (.int .i64 y) ∧ w' = X)) := fun X hX => (hy X hX).2
      have hz1 : z ≤ 400 := by omega
      have hz2 : -1 ≤ z := by omega
      have HZ : Hid (z = (j : Int) - 1) := hz
      clear hx hy hK hz
      go_upto_region 9 with (go_at_call 23; refine rl.mono ?_; rintro e1 w3 ⟨rfl, hw3⟩; replace hw3 := hw3.symm; subst hw3)
      clear rl
      go_wp2_with fail
      refine r1.mono ?_
      rintro e u1 ⟨rfl, hk⟩
      have hk1 : Kept (fun k => k < W.heap.size) W u1 := HK.out.trans (hk.mono fun k h => Nat.lt_of_lt_of_le h HK.out.size)
      have HK1 : Hid (Kept (fun k => k < W.heap.size) W u1) := hk1
      have r2 := HX.out u1 hk1
      have r3 := HY1.out u1 hk1
      clear r1 hk hk1 HX HY1
      go_wp2_with fail
      refine r2.mono ?_
      rintro e1 w3 ⟨rfl, hw3⟩
      replace hw3 := hw3.symm
      subst hw3
      clear r2
      go_wp2_with fail
      refine r3.mono ?_
      rintro e u2 ⟨rfl, hk⟩
      have hk2 : Kept (fun k => k < W.heap.size) W u2 := HK1.out.trans (hk.mono fun k h => Nat.lt_of_lt_of_le h HK1.out.size)
      have HK2 : Hid (Kept (fun k => k < W.heap.size) W u2) := hk2
      have r4 := HY2.out u2 hk2
      have r5 := HG.out.tree (by decide) z hk2
      clear r3 hk hk2 HY2
      go_wp2_with fail
      refine r4.mono ?_
      rintro e1 w3 ⟨rfl, hw3⟩
      replace hw3 := hw3.symm
      subst hw3
      clear r4
      go_wp2_with fail
      refine r5.mono ?_
      rintro e u3 ⟨ao1, c1, rfl, hO1, hk⟩
      have hka : Kept (fun k => k < W.heap.size) W u3 := HK2.out.trans (hk.mono fun k h => Nat.lt_of_lt_of_le h HK2.out.size)
      have HKa : Hid (Kept (fun k => k < W.heap.size) W u3) := hka
      have r6 := HG.out.pTree (by decide) z hka
      have HO1 : Hid (OwnZ (fun k => k < u2.heap.size) u3 3 1 ao1 (trI M.n R z).length c1 (ivs (trI M.n R z))) := hO1
      obtain ⟨tl, htl⟩ : ∃ tl, (trI M.n R z).length = tl := ⟨_, rfl⟩
      have HTL : Hid ((trI M.n R z).length = tl) := htl
      rw [htl]
      clear r5 hO1 hk hka htl
      go_wp2_with fail
      refine r6.mono ?_
      rintro e u4 ⟨ao2, c2, rfl, hO2, hk⟩
      have hkb : Kept (fun k => k < W.heap.size) W u4 := HKa.out.trans (hk.mono fun k h => Nat.lt_of_lt_of_le h HKa.out.size)
      have HKb : Hid (Kept (fun k => k < W.heap.size) W u4) := hkb
      have r7 := same_lst HO1.out hO2 hk (HT1.out z)
      rw [HTL.out] at r7
      rw [HTL.out]
      clear r6 HO1 hO2 hk hkb
      go_wp2_with fail
      refine r7.mono ?_
      rintro e u5 ⟨rfl, hk⟩
      have hk5 : Kept (fun k => k < W.heap.size) W u5 := HKb.out.trans (hk.mono fun k h => Nat.lt_of_lt_of_le h HKb.out.size)
      have HKu5 : Hid (Kept (fun k => k < W.heap.size) W u5) := hk5
      have r8 := HG.out.all (by decide) z hk5
      clear r7 hk hk5 HKa HKb HTL
      go_wp2_with fail
      refine r8.mono ?_
      rintro e u6 ⟨ao1, c1, rfl, hO1, hk⟩
      have hka : Kept (fun k => k < W.heap.size) W u6 := HKu5.out.trans (hk.mono fun k h => Nat.lt_of_lt_of_le h HKu5.out.size)
      have HKa : Hid (Kept (fun k => k < W.heap.size) W u6) := hka
      have r6 := HG.out.pAll (by decide) z hka
      have HO1 : Hid (OwnZ (fun k => k < u5.heap.size) u6 3 1 ao1 (trI M.n (fwd M R) z).length c1 (ivs (trI M.n (fwd M R) z))) := hO1
      obtain ⟨tl, htl⟩ : ∃ tl, (trI M.n (fwd M R) z).length = tl := ⟨_, rfl⟩
      have HTL : Hid ((trI M.n (fwd M R) z).length = tl) := htl
      rw [htl]
      clear r8 hO1 hk hka htl
      go_wp2_with fail
      refine r6.mono ?_
      rintro e u7 ⟨ao2, c2, rfl, hO2, hk⟩
      have hkb : Kept (fun k => k < W.heap.size) W u7 := HKa.out.trans (hk.mono fun k h => Nat.lt_of_lt_of_le h HKa.out.size)
      have HKb : Hid (Kept (fun k => k < W.heap.size) W u7) := hkb
      have r7 := same_lst HO1.out hO2 hk (HT2.out z)
      rw [HTL.out] at r7
      rw [HTL.out]
      clear r6 HO1 hO2 hk hkb
      go_wp2_with fail
      refine r7.mono ?_
      rintro e u8 ⟨rfl, hk⟩
      have HK8 : Hid (Kept (fun k => k < W.heap.size) W u8) := HKb.out.trans (hk.mono fun k h => Nat.lt_of_lt_of_le h HKb.out.size)
      clear r7 hk
      go_wp2
      go_roundg (m + 2 - (j + 1))
      case rel => exact ⟨j + 1, z + 1, rfl, by omega, by go_num, by rw [HZ.out]; omega, HK8.out⟩
      case measure => omega
    · have e0 : decide (z ≤ (m : Int)) = false := decide_eq_false (by omega)
      have hz2 : -1 ≤ z := by omega
      have r1 := (HBF.out wr hK).1
      clear hK hz
      go_upto_region 11 with (go_at_call 23; refine rl.mono ?_; rintro e1 w3 ⟨rfl, hw3⟩; replace hw3 := hw3.symm; subst hw3)
      clear rl
      go_wp2_with fail
      refine r1.mono ?_
      rintro e u1 ⟨rfl, hk⟩
      have hk1 : Kept (fun k => k < W.heap.size) W u1 := HK.out.trans (hk.mono fun k h => Nat.lt_of_lt_of_le h HK.out.size)
      have r2 := (HBF.out u1 hk1).2
      have HK1 : Hid (Kept (fun k => k < w.heap.size) w u1) := HKW.out.trans (hk1.mono fun k h => Nat.lt_of_lt_of_le h HKW.out.size)
      clear r1 hk hk1
      go_wp2_with (go_at_call 35; refine r2.mono ?_; rintro e u2 ⟨rfl, hk2⟩)
      go_ret
      exact ⟨by simp, HK1.out.trans (hk2.mono fun k h => Nat.lt_of_lt_of_le h HK1.out.size)⟩
set_option maxRecDepth 20000 in
theorem otl_no (a : Option Addr) (n c : Nat) (w : World) (za zb : Int) (rh : Calls Tryz.prog 20 #[.slice a n c] w fun e w' => e = .returned (.bool true) ∧ Kept (fun k => k < w.heap.size) w w') :
    Calls Tryz.prog 5 #[.slice a n c, .int .i64 za, .int .i64 zb] w fun e w' => e = .returned (.bool true) ∧ Kept (fun k => k < w.heap.size) w w' := by
  go_enter Tryz.func5, Tryz.ntmps5
  go_wp2_with fail
  refine rh.mono ?_
  rintro e w1 ⟨rfl, k1⟩
  have rk0 := oknown_any w1
  clear rh
  go_wp2_with (go_at_call 21; refine rk0.mono ?_; rintro e w2 ⟨rfl, k2⟩)
  go_ret
  exact ⟨rfl, k1.trans (k2.mono fun k h => Nat.lt_of_lt_of_le h k1.size)⟩
end Go.Proofs.YtbhfnbplbkncmaaGreat
