/-
  A document that is made call by call.
-/
import Derived.Test.YtfeinppedejlpaaGreatKLk
namespace Go.Proofs.YtfeinppedejlpaaGreat
open Go.RowKit
set_option linter.unusedVariables false
def q4 : Dm := ((((Dm.new 9).add zvh).add txN).add slN).addR 1 fg0
def q4R : Nat -> List Nat := zaw (zaw (zaw (zaw (fun _ => []) 1 []) 2 []) 3 []) 4 []
def q5 : Dm := q4.setP (zea q4 q4R 1 2 (-1))
def q5R : Nat -> List Nat := zc6 q4 q4R 1 2 (-1)
def q6 : Dm := q5.setP (zea q5 q5R 4 3 (-1))
def q6R : Nat -> List Nat := zc6 q5 q5R 4 3 (-1)
theorem qF4 : Fits q4 1 2 (-1) := ⟨by kernel_rfl, by kernel_rfl, zgx (by kernel_rfl) (by decide), .inl rfl⟩
theorem qF5 : Fits q5 4 3 (-1) := ⟨by kernel_rfl, by kernel_rfl, zh4 (m := 1) (by kernel_rfl) (by decide) (zgx (by kernel_rfl) (by decide)), .inl rfl⟩
section
variable {G : Nat -> List Nat} {rk : Nat -> Nat}
theorem zv5 : ofZ q6 3 = 4 := zcr (M := q6) (i := 3) (z := 4) (by decide +kernel) (.yes (t := 4) (.up (m := 4) (by kernel_rfl) (.here (by kernel_rfl))) (by kernel_rfl))
theorem zvg : za8 q6 q6R G 3 = [2] := by
 unfold za8
 have h1 : za9 (q6.nd 3) = true := by kernel_rfl
 have e : ofZ q6 ((3 : Nat) : Int) = 4 := zv5
 rw [h1, e, if_neg (by simp)]
 show zd7 q6 q6R G 3 4 = [2]
 unfold zd7
 have hb : (q6.nd 4).fl.b = false := by kernel_rfl
 rw [hb, if_neg (by simp)]
 have hf : zkf q6 q6R (atV zbp (q6.nd 3).attrs) 4 = ((3 : Nat) : Int) := by kernel_rfl
 rw [if_pos hf]
 have hr : (q6R (q6.nd 4).host.toNat).filter (fun k => zca (atV zbp (q6.nd 3).attrs) (q6.nd k)) = [2] := by kernel_rfl
 exact hr
theorem ztp : za8 q6 q6R G 2 = [] := by
 unfold za8
 have h1 : za9 (q6.nd 2) = false := by kernel_rfl
 rw [if_pos (.inl h1)]
theorem zvp : fK q6 q6R G 1 = [3] := by
 have h : (q6.nd 1).shadow = 4 := by kernel_rfl
 have hr : q6R 4 = [3] := by kernel_rfl
 unfold fK
 rw [h, if_pos (by decide)]
 exact hr
theorem zu2 : fK q6 q6R G 3 = [2] := by
 have h : (q6.nd 3).shadow = -1 := by kernel_rfl
 unfold fK
 rw [h, if_neg (by decide), zvg, if_neg (by simp)]
theorem zv4 : fK q6 q6R G 2 = [] := by
 have h : (q6.nd 2).shadow = -1 := by kernel_rfl
 have hr : q6R 2 = [] := by kernel_rfl
 unfold fK
 rw [h, if_neg (by decide), ztp, if_pos rfl]
 exact hr
theorem q6W (h : Inv q6 q6R G rk) : tr q6.n (fK q6 q6R G) 1 = [1, 3, 2] := by
 have hF := h.fK_falls
 have n5 : q6.n = 5 := by kernel_rfl
 rw [zcz hF (by rw [n5]; decide), zvp, List.flatMap_singleton, zcz hF (by rw [n5]; decide), zu2, List.flatMap_singleton, zcz hF (by rw [n5]; decide), zv4, List.flatMap_nil]
theorem zv7 (h : Inv q6 q6R G rk) : upZ q6 q6R G 2 = 3 := by
 have n5 : q6.n = 5 := by kernel_rfl
 have := (h.fK_mem (i := 3) (k := 2) (by rw [n5]; decide) (by rw [zu2]; simp)).2.2.2.1 (by decide +kernel)
 exact this
theorem zv8 (h : Inv q6 q6R G rk) : upZ q6 q6R G 3 = 1 := by
 have n5 : q6.n = 5 := by kernel_rfl
 have := (h.fK_mem (i := 1) (k := 3) (by rw [n5]; decide) (by rw [zvp]; simp)).2.2.2.1 (by decide +kernel)
 exact this
end
end Go.Proofs.YtfeinppedejlpaaGreat
