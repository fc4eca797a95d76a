/-
  Elements that end nothing stand within one another: pure.
-/
import Derived.Test.YtffllhohlfblnabEB
namespace Go.Proofs.Ytffllhohlfblnab

theorem seekR_none (so ba : List UInt8 → Bool) : ∀ l : List (List UInt8), (∀ x ∈ l, so x = false) → seekR so ba l = none
  | [], _ => rfl
  | x :: r, h => by
    unfold seekR
    rw [if_neg (by rw [h x (by simp)]; exact Bool.false_ne_true)]
    split
    · rfl
    · exact seekR_none so ba r fun y hy => h y (by simp [hy])
theorem seek_none (so ba : List UInt8 → Bool) (l : List (List UInt8)) (h : ∀ x ∈ l, so x = false) : seek so ba l = none := seekR_none so ba _ fun x hx => h x (List.mem_reverse.1 hx)
theorem fin_none (b : BS) (so ba : List UInt8 → Bool) (h : ∀ x ∈ b.opn, so x = false) : b.fin so ba = b := by
  unfold BS.fin
  rw [seek_none so ba _ h]
  rfl
/-- A name whose beginning ends nothing but paragraphs. -/
structure Mild (n : List UInt8) : Prop where
  valid : validP n = true
  open_ : voidP n = false
  first : ∀ (b : BS) (a : Nat), b.first n a = b
  noP : isIn [[112]] n = false
theorem mild_div : Mild [100, 105, 118] := ⟨by decide, by decide, fun _ _ => rfl, by decide⟩
theorem mild_span : Mild [115, 112, 97, 110] := ⟨by decide, by decide, fun _ _ => rfl, by decide⟩
theorem mild_section : Mild [115, 101, 99, 116, 105, 111, 110] := ⟨by decide, by decide, fun _ _ => rfl, by decide⟩
theorem mild_b : Mild [98] := ⟨by decide, by decide, fun _ _ => rfl, by decide⟩
theorem mild_xa : Mild [120, 45, 97] := ⟨by decide, by decide, fun _ _ => rfl, by decide⟩
def dI (n : List UInt8) (k : Nat) : List It := (List.range k).map fun i => ⟨min i 100, 1, n, [], []⟩
def dS (n : List UInt8) (k : Nat) : BS := ⟨dI n k, [], List.replicate (min k 100) n⟩
theorem dS_take {n : List UInt8} (h : Mild n) (k : Nat) : (dS n k).take ⟨1, n, [], false, [], 0⟩ = dS n (k + 1) := by
  have hp : (dS n k).para n = dS n k := by
    unfold BS.para
    split
    · exact fin_none _ _ _ fun x hx => by rw [(List.mem_replicate.1 hx).2]; exact h.noP
    · rfl
  have e : (dS n k).take ⟨1, n, [], false, [], 0⟩ = ((dS n k).item 1 n [] []).open1 n := by
    show (dS n k).start n [] 0 = _
    unfold BS.start
    rw [if_pos h.valid, h.first, hp]
    rfl
  rw [e]
  have hi : dI n (k + 1) = dI n k ++ [⟨min k 100, 1, n, [], []⟩] := by
    unfold dI
    rw [List.range_succ, List.map_append]
    rfl
  have hl : ((dS n k).item 1 n [] []).opn.length = min k 100 := List.length_replicate
  unfold BS.open1
  by_cases hk : k < 100
  · rw [if_pos ⟨h.open_, by rw [hl]; omega⟩]
    show (⟨dI n k ++ [⟨(List.replicate (min k 100) n).length, 1, n, [], []⟩], [], List.replicate (min k 100) n ++ [n]⟩ : BS) = ⟨dI n (k + 1), [], List.replicate (min (k + 1) 100) n⟩
    rw [hi, List.length_replicate, show min (k + 1) 100 = min k 100 + 1 by omega, List.replicate_succ']
  · rw [if_neg (by rw [hl]; rintro ⟨-, h2⟩; omega)]
    show (⟨dI n k ++ [⟨(List.replicate (min k 100) n).length, 1, n, [], []⟩], [], List.replicate (min k 100) n⟩ : BS) = ⟨dI n (k + 1), [], List.replicate (min (k + 1) 100) n⟩
    rw [hi, List.length_replicate, show min (k + 1) 100 = min k 100 by omega]
theorem dI_len (n : List UInt8) (k : Nat) : (dI n k).length = k := by simp [dI]
theorem dI_last (n : List UInt8) (k : Nat) : lastA (dI n k) = 0 := by
  cases k with
  | zero => rfl
  | succ k =>
    have hi : dI n (k + 1) = dI n k ++ [⟨min k 100, 1, n, [], []⟩] := by
      unfold dI
      rw [List.range_succ, List.map_append]
      rfl
    rw [hi]
    unfold lastA
    rw [List.getLast?_append]
    rfl
def dT (n : List UInt8) (m : Nat) : List Tk := List.replicate m ⟨1, n, [], false, [], 0⟩
theorem dS_build {n : List UInt8} (h : Mild n) (m : Nat) : ∀ k, k + m ≤ 4000 → buildF (dS n k) (dT n m ++ [⟨3, [], [], false, [120], 0⟩]) = some ⟨dI n (k + m) ++ [⟨min (k + m) 100, 2, [], [], [120]⟩], [], List.replicate (min (k + m) 100) n⟩ := by
  induction m with
  | zero =>
    intro k hk
    show buildF (dS n k) [⟨3, [], [], false, [120], 0⟩] = _
    have et : (dS n k).take ⟨3, [], [], false, [120], 0⟩ = ⟨dI n k ++ [⟨(List.replicate (min k 100) n).length, 2, [], [], [120]⟩], [], List.replicate (min k 100) n⟩ := rfl
    rw [List.length_replicate] at et
    unfold buildF
    rw [et]
    have hf : (⟨dI n k ++ [⟨min k 100, 2, [], [], [120]⟩], [], List.replicate (min k 100) n⟩ : BS).full = false := by
      unfold BS.full
      have h1 : lastA (dI n k ++ [⟨min k 100, 2, [], [], [120]⟩]) = 0 := by
        unfold lastA
        rw [List.getLast?_append]
        rfl
      show (decide ((dI n k ++ [_]).length > 5000) || decide (lastA (dI n k ++ [_]) > 50)) = false
      rw [h1, List.length_append, dI_len, decide_eq_false (by simp; omega)]
      rfl
    rw [if_neg (by rw [hf]; exact Bool.false_ne_true)]
    rfl
  | succ m ih =>
    intro k hk
    show buildF (dS n k) (⟨1, n, [], false, [], 0⟩ :: (dT n m ++ [⟨3, [], [], false, [120], 0⟩])) = _
    unfold buildF
    rw [dS_take h]
    have hf : (dS n (k + 1)).full = false := by
      unfold BS.full
      show (decide ((dI n (k + 1)).length > 5000) || decide (lastA (dI n (k + 1)) > 50)) = false
      rw [dI_last, dI_len, decide_eq_false (by omega)]
      rfl
    rw [if_neg (by rw [hf]; exact Bool.false_ne_true), ih (k + 1) (by omega), show k + 1 + m = k + (m + 1) by omega]
def deepB (n : List UInt8) (m : Nat) : BS := ⟨dI n m ++ [⟨min m 100, 2, [], [], [120]⟩], [], List.replicate (min m 100) n⟩
theorem deep_build {n : List UInt8} (h : Mild n) (m : Nat) (hm : m ≤ 4000) : buildL (dT n m ++ [⟨3, [], [], false, [120], 0⟩]) = some (deepB n m) := by
  have := dS_build h m 0 (by omega)
  rw [Nat.zero_add] at this
  exact this
theorem deepB_len (n : List UInt8) (m : Nat) : (deepB n m).items.length = m + 1 := by
  show (dI n m ++ [_]).length = _
  rw [List.length_append, dI_len]
  rfl
theorem deepB_get (n : List UInt8) (m i : Nat) (h : i < (deepB n m).items.length) : (deepB n m).items[i].deep = min i 100 := by
  have hl := deepB_len n m
  show ((dI n m ++ [⟨min m 100, 2, [], [], [120]⟩])[i]'h).deep = _
  by_cases hi : i < m
  · have hi' : i < (dI n m).length := by rw [dI_len]; exact hi
    have e : (dI n m ++ [⟨min m 100, 2, [], [], [120]⟩])[i]'h = (dI n m)[i] := List.getElem_append_left hi'
    rw [e]
    simp [dI]
  · have him : i = m := by omega
    have e : (dI n m ++ [⟨min m 100, 2, [], [], [120]⟩])[i]? = some ⟨min m 100, 2, [], [], [120]⟩ := by
      rw [List.getElem?_append_right (by rw [dI_len]; omega), dI_len, him]
      simp
    have h' : i < (dI n m ++ [(⟨min m 100, 2, [], [], [120]⟩ : It)]).length := h
    rw [List.getElem?_eq_getElem h'] at e
    injection e with e
    show ((dI n m ++ [⟨min m 100, 2, [], [], [120]⟩])[i]'h').deep = _
    rw [e, him]
end Go.Proofs.Ytffllhohlfblnab
