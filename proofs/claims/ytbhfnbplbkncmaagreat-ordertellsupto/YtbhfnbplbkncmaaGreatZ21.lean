/-
  The document's own next, fits.
  The document's own fits.
-/
import Derived.Test.YtbhfnbplbkncmaaGreatZ20
import Derived.Test.YtbhfnbplbkncmaaGreatZ17
namespace Go.Proofs.YtbhfnbplbkncmaaGreat
open Go.RowKit Go.Sort
set_option linter.unusedVariables false
set_option maxRecDepth 20000 in
set_option maxHeartbeats 2000000 in
theorem rnext_any (K : Nat → Prop) (p i u : Nat) (M : Dm) (R G : Nat → List Nat) (w : World) (h : RX K w p M R G) (hi : i < M.n) (hu : u < M.n) (hup : (M.pl i).up = (u : Int)) (hn : M.n ≤ 1000000) (a b : List Nat) (hR : R u = a ++ i :: b) (hia : i ∉ a) (hln : (R u).length ≤ 1000000) :
    Calls Tryz.prog 152 #[.pointer (some ⟨p, 0, none⟩), .int .i64 (i : Int)] w fun e w' => e = .returned (.int .i64 (hdD b (-1))) ∧ Kept (fun k => k < w.heap.size) w w' := by
  obtain ⟨A, hY⟩ := h
  obtain ⟨g, hg, -, -, hgl⟩ := hY.nat (by omega)
  have c1 := hY.c1
  rw [hg] at c1
  have c4 : w.cell? ⟨g, i * 14 + 4, none⟩ = some (.int .i64 (u : Int)) := by rw [← hup]; exact hY.cell hg hi 4 _ rfl
  have u5 : w.cell? ⟨g, u * 14 + 5, none⟩ = some (.slice (A.ka u) (R u).length (A.kc u)) := hY.cell hg hu 5 _ rfl
  have hka := hY.kid u hu
  obtain ⟨ka, hkae⟩ : ∃ ka, A.ka u = ka := ⟨_, rfl⟩
  obtain ⟨kc, hkce⟩ : ∃ kc, A.kc u = kc := ⟨_, rfl⟩
  obtain ⟨l, hle⟩ : ∃ l, R u = l := ⟨_, rfl⟩
  obtain ⟨ln, hlne⟩ : ∃ ln, l.length = ln := ⟨_, rfl⟩
  rw [hkae, hkce, hle, hlne] at u5
  rw [hle, hlne] at hln
  rw [hkae, hle] at hka
  rw [hle] at hR
  have HA : Hid (IntsAt (fun x => x < w.heap.size ∧ ¬ A.bad K p M.n x) w ka l) := hka
  have HL : Hid (l.length = ln) := hlne
  have HR : Hid (l = a ++ i :: b) := hR
  have hla : ln = a.length + 1 + b.length := by rw [← hlne, hR, List.length_append, List.length_cons]; omega
  have HIA : Hid (i ∉ a) := hia
  obtain ⟨la, hlae⟩ : ∃ la, a.length = la := ⟨_, rfl⟩
  have HLA : Hid (a.length = la) := hlae
  have HLN : Hid (ln = la + 1 + b.length) := by rw [hlae] at hla; exact (show Hid _ from hla)
  have hlt0 : la < ln := by rw [hlae] at hla; omega
  clear hY hg hka hkae hkce hle hlne hR hia hup hla hlae
  go_enter Tryz.func152, Tryz.ntmps152
  go_upto_region 1 with fail
  go_quiet (fail)
  go_upto_region 3 with fail
  go_loopg [6] ln (fun gh v wr => ∃ j : Nat, gh = ln - j ∧ j ≤ la ∧ v = .int .i64 (j : Int) ∧ wr = w.drewN nq)
  case atStart => exact ⟨0, rfl, Nat.zero_le _, rfl, rfl⟩
  case round =>
    obtain ⟨j, hgj, hj, rfl, rfl⟩ := hrel
    have hjl : j < l.length := by rw [HL.out]; omega
    obtain ⟨g1, o1, rfl, -, hc⟩ := HA.out j hjl
    have d : (w.drewN nq).cell? ⟨g1, o1 + j, none⟩ = some (.int .i64 (l[j] : Int)) := hc
    by_cases hlt : j < la
    · have hne : l[j] ≠ i := by
        have e1 : l[j]? = a[j]? := by rw [HR.out, List.getElem?_append_left (by rw [HLA.out]; exact hlt)]
        rw [List.getElem?_eq_getElem hjl, List.getElem?_eq_getElem (by rw [HLA.out]; exact hlt)] at e1
        injection e1 with e1
        rw [e1]
        intro e
        exact HIA.out (e ▸ List.getElem_mem _)
      obtain ⟨y, hy⟩ : ∃ y, l[j] = y := ⟨_, rfl⟩
      rw [hy] at d hne
      have e1 : ((y : Int) == (i : Int)) = false := by simp; omega
      have e2 : decide ((j : Int) + 1 < (ln : Int)) = true := decide_eq_true (by omega)
      clear hc hy
      go_wp2
      go_roundg (ln - (j + 1))
      case rel => exact ⟨j + 1, rfl, by omega, by go_num, rfl⟩
      case measure => omega
    · have hjla : j = la := by omega
      subst hjla
      have e1 : l[j]? = some i := by rw [HR.out, List.getElem?_append_right (by rw [HLA.out]; exact Nat.le_refl _), HLA.out, Nat.sub_self]; rfl
      rw [List.getElem?_eq_getElem hjl] at e1
      injection e1 with e1
      rw [e1] at d
      cases b with
      | nil =>
        have hln1 : ln = j + 1 := by have := HLN.out; simpa using this
        have e2 : decide ((j : Int) + 1 < (ln : Int)) = false := decide_eq_false (by omega)
        clear hc hln1
        go_wp2
        go_ret
        exact ⟨rfl, (Kept.refl _ w).drewN nq⟩
      | cons y r =>
        have hln1 : j + 1 < ln := by have := HLN.out; simp at this; omega
        have e2 : decide ((j : Int) + 1 < (ln : Int)) = true := decide_eq_true (by omega)
        have hjl2 : j + 1 < l.length := by rw [HL.out]; exact hln1
        obtain ⟨g2, o2, e3, -, hc2⟩ := HA.out (j + 1) hjl2
        injection e3 with e3
        injection e3 with e4 e5
        subst e4 e5
        have e6 : l[j + 1]? = some y := by rw [HR.out, List.getElem?_append_right (by rw [HLA.out]; omega), HLA.out, show j + 1 - j = 1 by omega]; rfl
        rw [List.getElem?_eq_getElem hjl2] at e6
        injection e6 with e6
        rw [e6] at hc2
        have d2 : (w.drewN nq).cell? ⟨g1, o1 + (j + 1), none⟩ = some (.int .i64 (y : Int)) := hc2
        clear hc hc2 e1 e6
        go_wp2
        go_ret
        exact ⟨rfl, (Kept.refl _ w).drewN nq⟩
/-- May a node be put into another one? As the document's own says it. -/
def RFits (M : Dm) (up i : Nat) : Prop := holdB (M.nd up) = true ∧ i ≠ 0 ∧ (M.nd i).host < 0 ∧ ¬ Wi M i up
end Go.Proofs.YtbhfnbplbkncmaaGreat

namespace Go.Proofs.YtbhfnbplbkncmaaGreat
open Go.RowKit Go.Sort
set_option linter.unusedVariables false
/-- Yes or no. -/
inductive Yn (P : Prop) (e : Ending) : Prop
  | mk (b : Bool) : e = .returned (.bool b) → (b = true ↔ P) → Yn P e
set_option maxRecDepth 20000 in
set_option maxHeartbeats 2000000 in
/-- From where the holder is asked no more. -/
theorem rfits_go (K : Nat → Prop) (p up i : Nat) (M : Dm) (R G : Nat → List Nat) (rk : Nat → Nat) (w : World) (h : RX K w p M R G) (ha : Acy M rk) (hu : up < M.n) (hi : i < M.n) (hn : M.n ≤ 1000000) (hge : ∀ k, k < M.n → (M.pl k).up = -1 ∨ 0 ≤ (M.pl k).up)
    (kd : Nat) (hkd : (M.nd up).kind = kd) (vv : Bool) (hvv : voidP (M.nd up).name = vv) :
    Calls Tryz.prog 149 #[.pointer (some ⟨p, 0, none⟩), .int .i64 (up : Int), .int .i64 (i : Int)] w fun e w' => Yn (RFits M up i) e ∧ Kept (fun k => k < w.heap.size) w w' := by
  have rwi := fun (X : World) (hX : Kept (fun k => k < w.heap.size) w X) => rwithin_any K p up i M R G rk X (h.kept hX) ha hu hi hn hge
  obtain ⟨A, hY⟩ := h
  obtain ⟨g, hg, -, -, hgl⟩ := hY.nat (by omega)
  have hpl := hY.plt
  have c1 := hY.c1
  rw [hg] at c1
  have c0 : w.cell? ⟨g, up * 14, none⟩ = some (.int .u8 ((M.nd up).kind : Int)) := hY.cell hg hu 0 _ rfl
  have d1 : w.cell? ⟨g, up * 14 + 1, none⟩ = some (.string ⟨(M.nd up).name.toArray⟩) := hY.cell hg hu 1 _ rfl
  have d7 : w.cell? ⟨g, i * 14 + 7, none⟩ = some (.int .i64 (M.nd i).host) := hY.cell hg hi 7 _ rfl
  obtain ⟨S, hS⟩ : ∃ S : ByteArray, (⟨(M.nd up).name.toArray⟩ : ByteArray) = S := ⟨_, rfl⟩
  have hSl : S.toList = (M.nd up).name := by rw [← hS, ByteArray.toList_eq]
  rw [hS] at d1
  rw [hkd] at c0
  have rv := rvoid_any S (fun k => k < w.heap.size) w
  rw [hSl, hvv] at rv
  obtain ⟨ho, hho⟩ : ∃ ho, (M.nd i).host = ho := ⟨_, rfl⟩
  rw [hho] at d7
  have HHO : Hid ((M.nd i).host = ho) := hho
  have hHold : holdB (M.nd up) = (if kd = 1 then !vv else decide (kd = 4) || decide (kd = 5)) := by unfold holdB; rw [hkd, hvv]
  obtain ⟨hb, hbe⟩ : ∃ hb, (if kd = 1 then !vv else decide (kd = 4) || decide (kd = 5)) = hb := ⟨_, rfl⟩
  have HH : Hid (holdB (M.nd up) = hb) := hHold.trans hbe
  have HC : Hid (∀ X, Kept (fun k => k < w.heap.size) w X → X.cell? ⟨p, 1, none⟩ = some (.slice (some ⟨g, 0, none⟩) M.n A.nc) ∧ X.cell? ⟨g, i * 14 + 7, none⟩ = some (.int .i64 ho)) := fun X hX => ⟨(hX.cell (p := ⟨p, 1, none⟩) hpl).trans c1, (hX.cell (p := ⟨g, i * 14 + 7, none⟩) hgl).trans d7⟩
  -- what is asked behind the holder
  have HEND : Hid (∀ q : Bool, (q = true ↔ Wi M i up) → hb = true → i ≠ 0 → ho < 0 → ((!q) = true ↔ RFits M up i)) := fun q hq h1 e2 h3 => by
    have e3 : (M.nd i).host < 0 := by rw [HHO.out]; exact h3
    constructor
    · intro hh
      refine ⟨by rw [HH.out]; exact h1, e2, e3, fun hw => ?_⟩
      rw [hq.2 hw] at hh; cases hh
    · intro hh
      cases q with
      | false => rfl
      | true => exact absurd (hq.1 rfl) hh.2.2.2
  have HNO : Hid (hb = false ∨ i = 0 ∨ ¬ ho < 0 → ¬ RFits M up i) := fun hh hf => by
    rcases hh with h1 | h1 | h1
    · have := hf.1; rw [HH.out, h1] at this; cases this
    · exact hf.2.1 h1
    · exact h1 (by rw [← HHO.out]; exact hf.2.2.1)
  have HNO2 : Hid (hb = false ∨ i = 0 ∨ ¬ ho < 0 → (false = true ↔ RFits M up i)) := fun h1 => ⟨fun hh => (by cases hh), fun hh => absurd hh (HNO.out h1)⟩
  clear hY hS hSl hHold hho hkd hvv
  by_cases q1 : kd = 1
  · subst q1
    rw [if_pos rfl] at hbe
    cases vv with
    | true =>
      have hb0 : hb = false := hbe.symm
      subst hb0
      clear rwi hbe
      go_enter Tryz.func149, Tryz.ntmps149
      go_wp2_with (go_at_call 182; refine rv.mono ?_; rintro e3 w3 ⟨rfl, hk3⟩)
      go_ret
      exact ⟨.mk false rfl (HNO2.out (.inl (by simp))), hk3⟩
    | false =>
      have hb0 : hb = true := hbe.symm
      subst hb0
      clear hbe
      go_enter Tryz.func149, Tryz.ntmps149
      go_upto_region 4 with (go_at_call 182; refine rv.mono ?_; rintro e3 w3 ⟨rfl, hk3⟩)
      obtain ⟨f1, f7⟩ := HC.out w3 hk3
      have rwi2 := rwi w3 hk3
      have HKX : Hid (Kept (fun k => k < w.heap.size) w w3) := hk3
      clear rwi rv c1 c0 d1 d7
      by_cases z0 : i = 0
      · subst z0
        go_wp2
        go_ret
        exact ⟨.mk false rfl (HNO2.out (.inr (.inl (by simp)))), HKX.out⟩
      · have z0' : ((i : Int) == 0) = false := by simp; omega
        by_cases zh : ho < 0
        · have zh' : decide (ho < 0) = true := decide_eq_true zh
          go_wp2_with (go_at_call 183; refine rwi2.mono ?_; rintro e4 w4 ⟨q, rfl, hq, hw4⟩; replace hw4 := hw4.symm; subst hw4; have HQ : Hid (q = true ↔ Wi M i up) := hq; clear hq)
          go_ret
          exact ⟨.mk _ rfl (by rw [show ((i : Int) != 0) = true by simp; omega, Bool.true_and]; exact HEND.out q HQ.out (by simp) z0 zh), HKX.out⟩
        · have zh' : decide (ho < 0) = false := decide_eq_false zh
          go_wp2
          go_ret
          exact ⟨.mk false rfl (HNO2.out (.inr (.inr zh))), HKX.out⟩
  have p1 : ((kd : Int) == 1) = false := by simp; omega
  rw [if_neg q1] at hbe
  by_cases q4 : kd = 4
  · subst q4
    have hb0 : hb = true := hbe.symm
    subst hb0
    clear hbe
    go_enter Tryz.func149, Tryz.ntmps149
    go_upto_region 4 with fail
    have hkr : Kept (fun k => k < w.heap.size) w w := Kept.refl _ _
    obtain ⟨f1, f7⟩ := HC.out w hkr
    have rwi2 := rwi w hkr
    have HKX : Hid (Kept (fun k => k < w.heap.size) w w) := hkr
    clear rwi rv c1 c0 d1 d7
    by_cases z0 : i = 0
    · subst z0
      go_wp2
      go_ret
      exact ⟨.mk false rfl (HNO2.out (.inr (.inl (by simp)))), HKX.out⟩
    · have z0' : ((i : Int) == 0) = false := by simp; omega
      by_cases zh : ho < 0
      · have zh' : decide (ho < 0) = true := decide_eq_true zh
        go_wp2_with (go_at_call 183; refine rwi2.mono ?_; rintro e4 w4 ⟨q, rfl, hq, hw4⟩; replace hw4 := hw4.symm; subst hw4; have HQ : Hid (q = true ↔ Wi M i up) := hq; clear hq)
        go_ret
        exact ⟨.mk _ rfl (by rw [show ((i : Int) != 0) = true by simp; omega, Bool.true_and]; exact HEND.out q HQ.out (by simp) z0 zh), HKX.out⟩
      · have zh' : decide (ho < 0) = false := decide_eq_false zh
        go_wp2
        go_ret
        exact ⟨.mk false rfl (HNO2.out (.inr (.inr zh))), HKX.out⟩
  have p4 : ((kd : Int) == 4) = false := by simp; omega
  by_cases q5 : kd = 5
  · subst q5
    have hb0 : hb = true := hbe.symm
    subst hb0
    clear hbe
    go_enter Tryz.func149, Tryz.ntmps149
    go_upto_region 4 with fail
    have hkr : Kept (fun k => k < w.heap.size) w w := Kept.refl _ _
    obtain ⟨f1, f7⟩ := HC.out w hkr
    have rwi2 := rwi w hkr
    have HKX : Hid (Kept (fun k => k < w.heap.size) w w) := hkr
    clear rwi rv c1 c0 d1 d7
    by_cases z0 : i = 0
    · subst z0
      go_wp2
      go_ret
      exact ⟨.mk false rfl (HNO2.out (.inr (.inl (by simp)))), HKX.out⟩
    · have z0' : ((i : Int) == 0) = false := by simp; omega
      by_cases zh : ho < 0
      · have zh' : decide (ho < 0) = true := decide_eq_true zh
        go_wp2_with (go_at_call 183; refine rwi2.mono ?_; rintro e4 w4 ⟨q, rfl, hq, hw4⟩; replace hw4 := hw4.symm; subst hw4; have HQ : Hid (q = true ↔ Wi M i up) := hq; clear hq)
        go_ret
        exact ⟨.mk _ rfl (by rw [show ((i : Int) != 0) = true by simp; omega, Bool.true_and]; exact HEND.out q HQ.out (by simp) z0 zh), HKX.out⟩
      · have zh' : decide (ho < 0) = false := decide_eq_false zh
        go_wp2
        go_ret
        exact ⟨.mk false rfl (HNO2.out (.inr (.inr zh))), HKX.out⟩
  have p5 : ((kd : Int) == 5) = false := by simp; omega
  have hb0 : hb = false := by rw [← hbe, decide_eq_false q4, decide_eq_false q5]; rfl
  subst hb0
  clear hbe rwi rv
  go_enter Tryz.func149, Tryz.ntmps149
  go_wp2
  go_ret
  exact ⟨.mk false rfl (HNO2.out (.inl (by simp))), Kept.refl _ _⟩
end Go.Proofs.YtbhfnbplbkncmaaGreat
