/-
  The document's own slots: value, Shown, Is.
-/
import Derived.Test.YtkngpgkldkohgaaGreatE02
import Derived.Test.YtkngpgkldkohgaaGreatB33
namespace Go.Proofs.YtkngpgkldkohgaaGreat
open Go.RowKit Go.Sort
set_option linter.unusedVariables false
/-- The document's own document, read alone. -/
structure Rr (K : Nat → Prop) (w : World) (p : Nat) (M : Dm) (R G : Nat → List Nat) (rk : Nat → Nat) : Prop where
  r : RX K w p M R G
  inv : Inv M R G rk
  le : M.n ≤ 100000
theorem enter70 (args : Array Value) (X : World) : (callFunc 70 args).run Tryz.prog X = .ok (.enter 70 args) X := entersE Tryz.func70 (by kernel_rfl) (c := _) rfl args X
section
variable {K : Nat → Prop} {w : World} {p : Nat} {M : Dm} {R G : Nat → List Nat} {rk : Nat → Nat}
theorem Rr.kept {w' : World} (h : Rr K w p M R G rk) (hk : Kept (fun k => k < w.heap.size) w w') : Rr K w' p M R G rk := ⟨h.r.kept hk, h.inv, h.le⟩
set_option maxRecDepth 20000 in
theorem Rr.shown_no (h : Rr K w p M R G rk) {i : Int} (hi : i < 0 ∨ (M.n : Int) ≤ i) : Calls Tryz.prog 68 #[.pointer (some ⟨p, 0, none⟩), .int .i64 i] w fun e w' => e = .returned (.bool false) ∧ w' = w := by
  obtain ⟨A, hY⟩ := h.r
  have c1 := hY.c1
  obtain ⟨m, hm⟩ : ∃ m, M.n = m := ⟨_, rfl⟩
  rw [hm] at c1 hi
  clear hY h hm
  by_cases h0 : 0 ≤ i
  · have e0 : decide (i ≥ 0) = true := decide_eq_true h0
    have e1 : decide (i < (m : Int)) = false := decide_eq_false (by omega)
    clear hi h0
    go_enter Tryz.func68, Tryz.ntmps68
    go_wp2
    go_ret
    exact ⟨rfl, rfl⟩
  · have e0 : decide (i ≥ 0) = false := decide_eq_false h0
    clear hi h0
    go_enter Tryz.func68, Tryz.ntmps68
    go_wp2
    go_ret
    exact ⟨rfl, rfl⟩
set_option maxRecDepth 20000 in
set_option maxHeartbeats 1000000 in
theorem Rr.shown_in (h : Rr K w p M R G rk) {i : Nat} (hi : i < M.n) : Calls Tryz.prog 68 #[.pointer (some ⟨p, 0, none⟩), .int .i64 (i : Int)] w fun e w' => e = .returned (.bool (showB (M.nd i))) ∧ w' = w := by
  obtain ⟨g, nc, ka, kc, hN⟩ := h.r.nodeAt hi
  have hA := hN w (Kept.refl _ _)
  have c1 := hA.c1
  have c0 := hA.c0
  obtain ⟨kd, hkd⟩ : ∃ kd, (M.nd i).kind = kd := ⟨_, rfl⟩
  have hle := h.le
  obtain ⟨q, hq⟩ : ∃ q, showB (M.nd i) = q := ⟨_, rfl⟩
  have hqq : q = true ↔ kd = 1 ∨ kd = 2 := by rw [← hq, ← hkd]; exact showB_iff
  obtain ⟨m, hm⟩ : ∃ m, M.n = m := ⟨_, rfl⟩
  rw [hm] at c1 hi hle
  rw [hkd] at c0
  rw [hq]
  have e0 : decide ((i : Int) ≥ 0) = true := decide_eq_true (by omega)
  have e9 : decide ((i : Int) < (m : Int)) = true := decide_eq_true (by omega)
  clear hA hN h hm hkd hq
  by_cases k1 : kd = 1
  · subst k1
    have := hqq.2 (.inl rfl)
    subst this
    clear hqq
    go_enter Tryz.func68, Tryz.ntmps68
    go_wp2
    go_ret
    exact ⟨rfl, rfl⟩
  · have e1 : ((kd : Int) == 1) = false := by simp; omega
    by_cases k2 : kd = 2
    · subst k2
      have := hqq.2 (.inr rfl)
      subst this
      clear hqq k1 e1
      go_enter Tryz.func68, Tryz.ntmps68
      go_wp2
      go_ret
      exact ⟨rfl, rfl⟩
    · have e2 : ((kd : Int) == 2) = false := by simp; omega
      have hqf : q = false := by cases q with | false => rfl | true => exact absurd (hqq.1 rfl) (by omega)
      subst hqf
      clear hqq k1 k2
      go_enter Tryz.func68, Tryz.ntmps68
      go_wp2
      go_ret
      exact ⟨rfl, rfl⟩
theorem Rr.of (h : Rr K w p M R G rk) {i : Nat} (hi : i < M.n) : Calls Tryz.prog 27 #[.pointer (some ⟨p, 0, none⟩), .int .i64 (i : Int)] w fun e w' => e = .returned (.int .i64 (ofZ M (i : Int))) ∧ w' = w :=
  (pOf_any K p i M R G rk w h.r h.inv.good hi (Nat.le_trans h.le (by decide))).mono fun e w' ⟨z, hz, he, hw⟩ => ⟨by rw [he, ofZ_eq hi hz], hw⟩
/-- A node's name. -/
theorem RX.name (h : RX K w p M R G) {i : Nat} (hi : i < M.n) : ∃ g nc, ∀ Y, Kept (fun k => k < w.heap.size) w Y → Y.cell? ⟨p, 1, none⟩ = some (.slice (some ⟨g, 0, none⟩) M.n nc) ∧ Y.cell? ⟨g, i * 14, none⟩ = some (.int .u8 ((M.nd i).kind : Int)) ∧ Y.cell? ⟨g, i * 14 + 1, none⟩ = some (sv (M.nd i).name) := by
  obtain ⟨A, h⟩ := h
  obtain ⟨g, hg, -, -, -⟩ := h.nat (by omega)
  refine ⟨g, A.nc, fun Y hY => ?_⟩
  have h' := h.kept hY
  exact ⟨by rw [h'.c1, hg], h'.cell hg hi 0 _ rfl, h'.cell hg hi 1 _ rfl⟩
set_option maxRecDepth 20000 in
theorem Rr.is_no (h : Rr K w p M R G rk) {i : Int} (hi : i < 0 ∨ (M.n : Int) ≤ i) : Calls Tryz.prog 28 #[.pointer (some ⟨p, 0, none⟩), .int .i64 i] w fun e w' => e = .returned (.bool false) ∧ w' = w := by
  have r1 := h.shown_no hi
  clear h hi
  go_enter Tryz.func28, Tryz.ntmps28
  go_wp2_with (go_at_call 68; refine r1.mono ?_; rintro e1 w3 ⟨rfl, hw3⟩; replace hw3 := hw3.symm; subst hw3)
  go_ret
  exact ⟨rfl, rfl⟩
set_option maxRecDepth 20000 in
set_option maxHeartbeats 1000000 in
theorem Rr.is_in (h : Rr K w p M R G rk) {i : Nat} (hi : i < M.n) : Calls Tryz.prog 28 #[.pointer (some ⟨p, 0, none⟩), .int .i64 (i : Int)] w fun e w' => e = .returned (.bool (isS M i)) ∧ w' = w := by
  have r1 := h.shown_in hi
  have r2 := h.of hi
  obtain ⟨g, nc, hN⟩ := h.r.name hi
  obtain ⟨c1, c0, cn⟩ := hN w (Kept.refl _ _)
  have hle := h.le
  have hz := h.inv.ofz hi
  obtain ⟨q, hq⟩ : ∃ q, showB (M.nd i) = q := ⟨_, rfl⟩
  obtain ⟨z, hzz⟩ : ∃ z, ofZ M (i : Int) = z := ⟨_, rfl⟩
  have hz' : z = -1 ∨ 0 ≤ z := by
    rcases hz with ⟨t, _, _, e, _⟩ | ⟨t, _, _, e, _⟩ <;> omega
  obtain ⟨b, hb⟩ : ∃ b, isS M i = b := ⟨_, rfl⟩
  obtain ⟨kd, hkd⟩ : ∃ kd, (M.nd i).kind = kd := ⟨_, rfl⟩
  have hqq : q = true ↔ kd = 1 ∨ kd = 2 := by rw [← hq, ← hkd]; exact showB_iff
  obtain ⟨nb, hnb⟩ : ∃ nb, (⟨(M.nd i).name.toArray⟩ : ByteArray) = nb := ⟨_, rfl⟩
  have hnn : (M.nd i).name = nb.toList := by rw [← hnb, ByteArray.toList_eq]
  have hbb : b = true ↔ kd = 1 ∧ nb.toList = slotN ∧ z ≠ -1 := by
    rw [← hb]
    unfold isS
    rw [Bool.and_eq_true, isSl_iff, decide_eq_true_eq, hkd, hnn, hzz, and_assoc]
  obtain ⟨m, hm⟩ : ∃ m, M.n = m := ⟨_, rfl⟩
  unfold sv at cn
  rw [hnb] at cn
  rw [hm] at c1 hi hle
  rw [hkd] at c0
  rw [hq] at r1
  rw [hzz] at r2
  rw [hb]
  have HBB : Hid (b = true ↔ kd = 1 ∧ nb.toList = slotN ∧ z ≠ -1) := hbb
  clear hN h hm hkd hq hz hzz hb hnb hnn hbb
  by_cases k1 : kd = 1
  · subst k1
    have hqt := hqq.2 (.inl rfl)
    subst hqt
    obtain ⟨qs, hqs⟩ : ∃ q, (nb.toList == [115, 108, 111, 116]) = q := ⟨_, rfl⟩
    cases qs with
    | true =>
      obtain ⟨qz, hqz⟩ : ∃ q, decide (z ≥ 0) = q := ⟨_, rfl⟩
      have hbz : b = qz := by
        have h1 : nb.toList = slotN := by simpa using hqs
        cases qz with
        | true => exact HBB.out.2 ⟨rfl, h1, by have := of_decide_eq_true hqz; omega⟩
        | false =>
          have h2 := of_decide_eq_false hqz
          cases b with
          | false => rfl
          | true => have := (HBB.out.1 rfl).2.2; omega
      subst hbz
      clear HBB hqq hz'
      go_enter Tryz.func28, Tryz.ntmps28
      go_wp2_with (first | (go_at_call 68; refine r1.mono ?_; rintro e1 w3 ⟨rfl, hw3⟩; replace hw3 := hw3.symm; subst hw3) | (go_at_call 27; refine r2.mono ?_; rintro e1 w3 ⟨rfl, hw3⟩; replace hw3 := hw3.symm; subst hw3))
      go_ret
      exact ⟨by simp, rfl⟩
    | false =>
      have hbf : b = false := by
        cases b with
        | false => rfl
        | true => have := (HBB.out.1 rfl).2.1; rw [this] at hqs; simp at hqs
      subst hbf
      clear HBB hqq hz' r2
      go_enter Tryz.func28, Tryz.ntmps28
      go_wp2_with (go_at_call 68; refine r1.mono ?_; rintro e1 w3 ⟨rfl, hw3⟩; replace hw3 := hw3.symm; subst hw3)
      go_ret
      exact ⟨rfl, rfl⟩
  · have e1 : ((kd : Int) == 1) = false := by simp; omega
    have hbf : b = false := by
      cases b with
      | false => rfl
      | true => exact absurd (HBB.out.1 rfl).1 k1
    subst hbf
    clear HBB hqq hz' r2 k1
    go_enter Tryz.func28, Tryz.ntmps28
    cases q with
    | true =>
      go_wp2_with (go_at_call 68; refine r1.mono ?_; rintro e1 w3 ⟨rfl, hw3⟩; replace hw3 := hw3.symm; subst hw3)
      go_ret
      exact ⟨rfl, rfl⟩
    | false =>
      go_wp2_with (go_at_call 68; refine r1.mono ?_; rintro e1 w3 ⟨rfl, hw3⟩; replace hw3 := hw3.symm; subst hw3)
      go_ret
      exact ⟨rfl, rfl⟩
end
end Go.Proofs.YtkngpgkldkohgaaGreat
