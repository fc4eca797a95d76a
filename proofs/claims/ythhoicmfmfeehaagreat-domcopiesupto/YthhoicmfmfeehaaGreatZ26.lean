/-
  The document's own fits.
-/
import Derived.Test.YthhoicmfmfeehaaGreatZ25
import Derived.Test.YthhoicmfmfeehaaGreatZ16
namespace Go.Proofs.YthhoicmfmfeehaaGreat
open Go.RowKit Go.Sort
set_option linter.unusedVariables false
/-- Yes or no. -/
inductive Yn (P : Prop) (e : Ending) : Prop
  | mk (b : Bool) : e = .returned (.bool b) → (b = true ↔ P) → Yn P e
set_option maxRecDepth 20000 in
set_option maxHeartbeats 2000000 in
/-- From where the holder is asked no more. -/
theorem rfits_go (K : Nat → Prop) (p up i : Nat) (M : Dm) (R G : Nat → List Nat) (rk : Nat → Nat) (w : World) (h : RX K w p M R G) (ha : Acy M rk) (hu : up < M.n) (hi : i < M.n) (hn : M.n ≤ 1000000) (hge : ∀ k, k < M.n → (M.pl k).up = -1 ∨ 0 ≤ (M.pl k).up)
    (kd : Nat) (hkd : (M.nd up).kind = kd) (vv : Bool) (hvv : voidP (M.nd up).name = vv) :
    Calls Tryz.prog 82 #[.pointer (some ⟨p, 0, none⟩), .int .i64 (up : Int), .int .i64 (i : Int)] w fun e w' => Yn (RFits M up i) e ∧ Kept (fun k => k < w.heap.size) w w' := by
  have rwi := fun (X : World) (hX : Kept (fun k => k < w.heap.size) w X) => rwithin_any K p up i M R G rk X (h.kept hX) ha hu hi hn hge
  obtain ⟨A, hY⟩ := h
  obtain ⟨g, hg, -, -, hgl⟩ := hY.nat (by omega)
  have hpl := hY.plt
  have c1 := hY.c1
  rw [hg] at c1
  have c0 : w.cell? ⟨g, up * 14, none⟩ = some (.int .u8 ((M.nd up).kind : Int)) := hY.cell hg hu 0 _ rfl
  have d1 : w.cell? ⟨g, up * 14 + 1, none⟩ = some (.string ⟨(M.nd up).name.toArray⟩) := hY.cell hg hu 1 _ rfl
  have d7 : w.cell? ⟨g, i * 14 + 7, none⟩ = some (.int .i64 (M.nd i).host) := hY.cell hg hi 7 _ rfl
  obtain ⟨S, hS⟩ : ∃ S : ByteArray, (⟨(M.nd up).name.toArray⟩ : ByteArray) = S := ⟨_, rfl⟩
  have hSl : S.toList = (M.nd up).name := by rw [← hS, ByteArray.toList_eq]
  rw [hS] at d1
  rw [hkd] at c0
  have rv := rvoid_any S (fun k => k < w.heap.size) w
  rw [hSl, hvv] at rv
  obtain ⟨ho, hho⟩ : ∃ ho, (M.nd i).host = ho := ⟨_, rfl⟩
  rw [hho] at d7
  have HHO : Hid ((M.nd i).host = ho) := hho
  have hHold : holdB (M.nd up) = (if kd = 1 then !vv else decide (kd = 4) || decide (kd = 5)) := by unfold holdB; rw [hkd, hvv]
  obtain ⟨hb, hbe⟩ : ∃ hb, (if kd = 1 then !vv else decide (kd = 4) || decide (kd = 5)) = hb := ⟨_, rfl⟩
  have HH : Hid (holdB (M.nd up) = hb) := hHold.trans hbe
  have HC : Hid (∀ X, Kept (fun k => k < w.heap.size) w X → X.cell? ⟨p, 1, none⟩ = some (.slice (some ⟨g, 0, none⟩) M.n A.nc) ∧ X.cell? ⟨g, i * 14 + 7, none⟩ = some (.int .i64 ho)) := fun X hX => ⟨(hX.cell (p := ⟨p, 1, none⟩) hpl).trans c1, (hX.cell (p := ⟨g, i * 14 + 7, none⟩) hgl).trans d7⟩
  -- what is asked behind the holder
  have HEND : Hid (∀ q : Bool, (q = true ↔ Wi M i up) → hb = true → i ≠ 0 → ho < 0 → ((!q) = true ↔ RFits M up i)) := fun q hq h1 e2 h3 => by
    have e3 : (M.nd i).host < 0 := by rw [HHO.out]; exact h3
    constructor
    · intro hh
      refine ⟨by rw [HH.out]; exact h1, e2, e3, fun hw => ?_⟩
      rw [hq.2 hw] at hh; cases hh
    · intro hh
      cases q with
      | false => rfl
      | true => exact absurd (hq.1 rfl) hh.2.2.2
  have HNO : Hid (hb = false ∨ i = 0 ∨ ¬ ho < 0 → ¬ RFits M up i) := fun hh hf => by
    rcases hh with h1 | h1 | h1
    · have := hf.1; rw [HH.out, h1] at this; cases this
    · exact hf.2.1 h1
    · exact h1 (by rw [← HHO.out]; exact hf.2.2.1)
  have HNO2 : Hid (hb = false ∨ i = 0 ∨ ¬ ho < 0 → (false = true ↔ RFits M up i)) := fun h1 => ⟨fun hh => (by cases hh), fun hh => absurd hh (HNO.out h1)⟩
  clear hY hS hSl hHold hho hkd hvv
  by_cases q1 : kd = 1
  · subst q1
    rw [if_pos rfl] at hbe
    cases vv with
    | true =>
      have hb0 : hb = false := hbe.symm
      subst hb0
      clear rwi hbe
      go_enter Tryz.func82, Tryz.ntmps82
      go_wp2_with (go_at_call 108; refine rv.mono ?_; rintro e3 w3 ⟨rfl, hk3⟩)
      go_ret
      exact ⟨.mk false rfl (HNO2.out (.inl (by simp))), hk3⟩
    | false =>
      have hb0 : hb = true := hbe.symm
      subst hb0
      clear hbe
      go_enter Tryz.func82, Tryz.ntmps82
      go_upto_region 4 with (go_at_call 108; refine rv.mono ?_; rintro e3 w3 ⟨rfl, hk3⟩)
      obtain ⟨f1, f7⟩ := HC.out w3 hk3
      have rwi2 := rwi w3 hk3
      have HKX : Hid (Kept (fun k => k < w.heap.size) w w3) := hk3
      clear rwi rv c1 c0 d1 d7
      by_cases z0 : i = 0
      · subst z0
        go_wp2
        go_ret
        exact ⟨.mk false rfl (HNO2.out (.inr (.inl (by simp)))), HKX.out⟩
      · have z0' : ((i : Int) == 0) = false := by simp; omega
        by_cases zh : ho < 0
        · have zh' : decide (ho < 0) = true := decide_eq_true zh
          go_wp2_with (go_at_call 109; refine rwi2.mono ?_; rintro e4 w4 ⟨q, rfl, hq, hw4⟩; replace hw4 := hw4.symm; subst hw4; have HQ : Hid (q = true ↔ Wi M i up) := hq; clear hq)
          go_ret
          exact ⟨.mk _ rfl (by rw [show ((i : Int) != 0) = true by simp; omega, Bool.true_and]; exact HEND.out q HQ.out (by simp) z0 zh), HKX.out⟩
        · have zh' : decide (ho < 0) = false := decide_eq_false zh
          go_wp2
          go_ret
          exact ⟨.mk false rfl (HNO2.out (.inr (.inr zh))), HKX.out⟩
  have p1 : ((kd : Int) == 1) = false := by simp; omega
  rw [if_neg q1] at hbe
  by_cases q4 : kd = 4
  · subst q4
    have hb0 : hb = true := hbe.symm
    subst hb0
    clear hbe
    go_enter Tryz.func82, Tryz.ntmps82
    go_upto_region 4 with fail
    have hkr : Kept (fun k => k < w.heap.size) w w := Kept.refl _ _
    obtain ⟨f1, f7⟩ := HC.out w hkr
    have rwi2 := rwi w hkr
    have HKX : Hid (Kept (fun k => k < w.heap.size) w w) := hkr
    clear rwi rv c1 c0 d1 d7
    by_cases z0 : i = 0
    · subst z0
      go_wp2
      go_ret
      exact ⟨.mk false rfl (HNO2.out (.inr (.inl (by simp)))), HKX.out⟩
    · have z0' : ((i : Int) == 0) = false := by simp; omega
      by_cases zh : ho < 0
      · have zh' : decide (ho < 0) = true := decide_eq_true zh
        go_wp2_with (go_at_call 109; refine rwi2.mono ?_; rintro e4 w4 ⟨q, rfl, hq, hw4⟩; replace hw4 := hw4.symm; subst hw4; have HQ : Hid (q = true ↔ Wi M i up) := hq; clear hq)
        go_ret
        exact ⟨.mk _ rfl (by rw [show ((i : Int) != 0) = true by simp; omega, Bool.true_and]; exact HEND.out q HQ.out (by simp) z0 zh), HKX.out⟩
      · have zh' : decide (ho < 0) = false := decide_eq_false zh
        go_wp2
        go_ret
        exact ⟨.mk false rfl (HNO2.out (.inr (.inr zh))), HKX.out⟩
  have p4 : ((kd : Int) == 4) = false := by simp; omega
  by_cases q5 : kd = 5
  · subst q5
    have hb0 : hb = true := hbe.symm
    subst hb0
    clear hbe
    go_enter Tryz.func82, Tryz.ntmps82
    go_upto_region 4 with fail
    have hkr : Kept (fun k => k < w.heap.size) w w := Kept.refl _ _
    obtain ⟨f1, f7⟩ := HC.out w hkr
    have rwi2 := rwi w hkr
    have HKX : Hid (Kept (fun k => k < w.heap.size) w w) := hkr
    clear rwi rv c1 c0 d1 d7
    by_cases z0 : i = 0
    · subst z0
      go_wp2
      go_ret
      exact ⟨.mk false rfl (HNO2.out (.inr (.inl (by simp)))), HKX.out⟩
    · have z0' : ((i : Int) == 0) = false := by simp; omega
      by_cases zh : ho < 0
      · have zh' : decide (ho < 0) = true := decide_eq_true zh
        go_wp2_with (go_at_call 109; refine rwi2.mono ?_; rintro e4 w4 ⟨q, rfl, hq, hw4⟩; replace hw4 := hw4.symm; subst hw4; have HQ : Hid (q = true ↔ Wi M i up) := hq; clear hq)
        go_ret
        exact ⟨.mk _ rfl (by rw [show ((i : Int) != 0) = true by simp; omega, Bool.true_and]; exact HEND.out q HQ.out (by simp) z0 zh), HKX.out⟩
      · have zh' : decide (ho < 0) = false := decide_eq_false zh
        go_wp2
        go_ret
        exact ⟨.mk false rfl (HNO2.out (.inr (.inr zh))), HKX.out⟩
  have p5 : ((kd : Int) == 5) = false := by simp; omega
  have hb0 : hb = false := by rw [← hbe, decide_eq_false q4, decide_eq_false q5]; rfl
  subst hb0
  clear hbe rwi rv
  go_enter Tryz.func82, Tryz.ntmps82
  go_wp2
  go_ret
  exact ⟨.mk false rfl (HNO2.out (.inl (by simp))), Kept.refl _ _⟩
end Go.Proofs.YthhoicmfmfeehaaGreat
