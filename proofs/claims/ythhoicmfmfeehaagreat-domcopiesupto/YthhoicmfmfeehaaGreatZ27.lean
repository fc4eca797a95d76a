/-
  The document's own Remove, Write.
-/
import Derived.Test.YthhoicmfmfeehaaGreatZ26
namespace Go.Proofs.YthhoicmfmfeehaaGreat
open Go.RowKit Go.Sort
set_option linter.unusedVariables false
theorem there_no {n : Nat} {i : Int} (h : i < 0 ∨ (n : Int) ≤ i) : (decide (0 ≤ i) && decide (i < (n : Int))) = false := by
  rcases h with h | h
  · rw [decide_eq_false (by omega)]; rfl
  · rw [decide_eq_false (show ¬ i < (n : Int) by omega), Bool.and_false]
theorem there_yes {n k : Nat} (h : k < n) : (decide (0 ≤ (k : Int)) && decide ((k : Int) < (n : Int))) = true := by
  rw [decide_eq_true (by omega), decide_eq_true (by omega)]; rfl
set_option maxRecDepth 20000 in
theorem rremove_none (K : Nat → Prop) (p : Nat) (M : Dm) (R G : Nat → List Nat) (i : Int) (w : World) (h : RX K w p M R G) (hi : i < 0 ∨ (M.n : Int) ≤ i) :
    Calls Tryz.prog 41 #[.pointer (some ⟨p, 0, none⟩), .int .i64 i] w fun e w' => e = .returned (.int .i64 80) ∧ w' = w := by
  have rt := rthere_any K p M R G i w h
  rw [there_no hi] at rt
  clear h hi
  go_enter Tryz.func41, Tryz.ntmps41
  go_wp2_with (go_at_call 81; refine rt.mono ?_; rintro e1 w3 ⟨rfl, hw3⟩; replace hw3 := hw3.symm; subst hw3)
  go_ret
  exact ⟨rfl, rfl⟩
set_option maxRecDepth 20000 in
set_option maxHeartbeats 1000000 in
theorem rremove_in (K : Nat → Prop) (p i : Nat) (M : Dm) (R G : Nat → List Nat) (w : World) (h : RX K w p M R G) (hi : i < M.n) (hn : M.n ≤ 1000000) (hup : (M.pl i).up = -1 ∨ ∃ u : Nat, u < M.n ∧ (M.pl i).up = (u : Int)) (hrl : ∀ u, u < M.n → (R u).length ≤ 1000000) :
    Calls Tryz.prog 41 #[.pointer (some ⟨p, 0, none⟩), .int .i64 (i : Int)] w fun e w' => Kept K w w' ∧ (((M.pl i).up = -1 ∧ e = .returned (.int .i64 81) ∧ RX K w' p M R G) ∨ ((M.pl i).up ≠ -1 ∧ e = .returned (.int .i64 0) ∧ RX K w' p (rOutM M i) (rOutR M R i) G)) := by
  have rt := rthere_any K p M R G (i : Int) w h
  rw [there_yes hi] at rt
  have ro := rout_any K p i M R G w h hi hn hup hrl
  have HX : Hid (RX K w p M R G) := h
  obtain ⟨A, hY⟩ := h
  obtain ⟨g, hg, -, -, hgl⟩ := hY.nat (by omega)
  have c1 := hY.c1
  rw [hg] at c1
  have c4 : w.cell? ⟨g, i * 14 + 4, none⟩ = some (.int .i64 (M.pl i).up) := hY.cell hg hi 4 _ rfl
  clear hY hg hrl
  rcases hup with hup | ⟨u, hu, hup⟩
  · rw [hup] at c4
    have HU : Hid ((M.pl i).up = -1) := hup
    clear ro hup
    go_enter Tryz.func41, Tryz.ntmps41
    go_wp2_with (go_at_call 81; refine rt.mono ?_; rintro e1 w3 ⟨rfl, hw3⟩; replace hw3 := hw3.symm; subst hw3)
    go_ret
    exact ⟨Kept.refl _ _, .inl ⟨HU.out, rfl, HX.out⟩⟩
  · rw [hup] at c4
    have HU : Hid ((M.pl i).up ≠ -1) := by show Hid _; exact (show (M.pl i).up ≠ -1 by omega)
    have e0 : decide ((u : Int) < 0) = false := decide_eq_false (by omega)
    clear hup
    go_enter Tryz.func41, Tryz.ntmps41
    go_wp2_with (first | (go_at_call 81; refine rt.mono ?_; rintro e1 w3 ⟨rfl, hw3⟩; replace hw3 := hw3.symm; subst hw3) | (go_at_call 85; refine ro.mono ?_; rintro e1 w4 ⟨rfl, hX4, hK4⟩))
    go_ret
    exact ⟨hK4, .inr ⟨HU.out, rfl, hX4⟩⟩
set_option maxRecDepth 20000 in
theorem rwrite_none (K : Nat → Prop) (p : Nat) (M : Dm) (R G : Nat → List Nat) (i : Int) (S : ByteArray) (w : World) (h : RX K w p M R G) (hi : i < 0 ∨ (M.n : Int) ≤ i) :
    Calls Tryz.prog 46 #[.pointer (some ⟨p, 0, none⟩), .int .i64 i, .string S] w fun e w' => e = .returned (.int .i64 80) ∧ w' = w := by
  have rt := rthere_any K p M R G i w h
  rw [there_no hi] at rt
  clear h hi
  go_enter Tryz.func46, Tryz.ntmps46
  go_wp2_with (go_at_call 81; refine rt.mono ?_; rintro e1 w3 ⟨rfl, hw3⟩; replace hw3 := hw3.symm; subst hw3)
  go_ret
  exact ⟨rfl, rfl⟩
set_option maxRecDepth 20000 in
set_option maxHeartbeats 1000000 in
theorem rwrite_in (K : Nat → Prop) (p i : Nat) (M : Dm) (R G : Nat → List Nat) (S : ByteArray) (w : World) (h : RX K w p M R G) (hi : i < M.n) (hn : M.n ≤ 1000000) :
    Calls Tryz.prog 46 #[.pointer (some ⟨p, 0, none⟩), .int .i64 (i : Int), .string S] w fun e w' => Kept K w w' ∧ ((((M.nd i).kind ≠ 2 ∧ (M.nd i).kind ≠ 3) ∧ e = .returned (.int .i64 81) ∧ RX K w' p M R G) ∨ (((M.nd i).kind = 2 ∨ (M.nd i).kind = 3) ∧ e = .returned (.int .i64 0) ∧ RX K w' p (M.setN i { M.nd i with data := S.toList }) R G)) := by
  have rt := rthere_any K p M R G (i : Int) w h
  rw [there_yes hi] at rt
  have HX : Hid (RX K w p M R G) := h
  obtain ⟨A, hY⟩ := h
  obtain ⟨g, hg, -, -, hgl⟩ := hY.nat (by omega)
  have c1 := hY.c1
  rw [hg] at c1
  have c0 : w.cell? ⟨g, i * 14, none⟩ = some (.int .u8 ((M.nd i).kind : Int)) := hY.cell hg hi 0 _ rfl
  have c2 : w.cell? ⟨g, i * 14 + 2, none⟩ = some (sv (M.nd i).data) := hY.cell hg hi 2 _ rfl
  have fz := hY.fg hg (i * 14 + 2)
  obtain ⟨hY2, hK2⟩ := hY.setData hg hi S.toList
  have eS : sv S.toList = .string S := by rw [ByteArray.toList_eq]
  rw [eS] at hY2 hK2
  have HX2 : Hid (RX K (w.setCell ⟨g, i * 14 + 2, none⟩ (.string S)) p (M.setN i { M.nd i with data := S.toList }) R G) := ⟨_, hY2⟩
  have HK2 : Hid (Kept K w (w.setCell ⟨g, i * 14 + 2, none⟩ (.string S))) := hK2
  obtain ⟨kd, hkd⟩ : ∃ kd, (M.nd i).kind = kd := ⟨_, rfl⟩
  have HKD : Hid ((M.nd i).kind = kd) := hkd
  rw [hkd] at c0
  clear hY hg hY2 hK2 hkd eS
  by_cases q2 : kd = 2
  · subst q2
    go_enter Tryz.func46, Tryz.ntmps46
    go_wp2_with (go_at_call 81; refine rt.mono ?_; rintro e1 w3 ⟨rfl, hw3⟩; replace hw3 := hw3.symm; subst hw3)
    go_ret
    exact ⟨HK2.out, .inr ⟨.inl HKD.out, rfl, HX2.out⟩⟩
  have p2 : ((kd : Int) == 2) = false := by simp; omega
  by_cases q3 : kd = 3
  · subst q3
    go_enter Tryz.func46, Tryz.ntmps46
    go_wp2_with (go_at_call 81; refine rt.mono ?_; rintro e1 w3 ⟨rfl, hw3⟩; replace hw3 := hw3.symm; subst hw3)
    go_ret
    exact ⟨HK2.out, .inr ⟨.inr HKD.out, rfl, HX2.out⟩⟩
  have p3 : ((kd : Int) == 3) = false := by simp; omega
  have n2 : ((kd : Int) != 2) = true := by simp; omega
  have n3 : ((kd : Int) != 3) = true := by simp; omega
  go_enter Tryz.func46, Tryz.ntmps46
  go_wp2_with (go_at_call 81; refine rt.mono ?_; rintro e1 w3 ⟨rfl, hw3⟩; replace hw3 := hw3.symm; subst hw3)
  go_ret
  exact ⟨Kept.refl _ _, .inl ⟨⟨by rw [HKD.out]; exact q2, by rw [HKD.out]; exact q3⟩, rfl, HX.out⟩⟩
end Go.Proofs.YthhoicmfmfeehaaGreat
