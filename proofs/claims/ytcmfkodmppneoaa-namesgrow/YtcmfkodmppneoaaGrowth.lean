/-
  What holds of names that grow, and of a byte that is put into one: plain functions alone.
-/
import Derived.Test.YtcmfkodmppneoaaPure
namespace Go.Proofs.Ytcmfkodmppneoaa
open Go.RowKit

theorem valid_parts {l : List UInt8} (h : validP l = true) : ∃ a r, l = a :: r ∧ smallP a = true ∧ r.all fineP = true ∧ l.length ≤ 60 := by
  unfold validP at h
  simp only [Bool.and_eq_true, decide_eq_true_eq] at h
  obtain ⟨⟨h1, h2⟩, h3⟩ := h
  cases l with
  | nil => simp at h1
  | cons a r =>
    simp only [fitP, Bool.and_eq_true] at h3
    exact ⟨a, r, rfl, h3.1, h3.2, h2⟩
theorem valid_cons {a : UInt8} {r : List UInt8} (h1 : smallP a = true) (h2 : (a :: r).length ≤ 60) : validP (a :: r) = r.all fineP := by
  unfold validP
  rw [decide_eq_true h2, decide_eq_true (show 1 ≤ (a :: r).length by simp)]
  simp only [fitP, h1, Bool.true_and, Bool.and_self]
theorem valid_long {l : List UInt8} (h : ¬ l.length ≤ 60) : validP l = false := by
  unfold validP
  rw [decide_eq_false h, Bool.and_false, Bool.false_and]

theorem grow_valid {l : List UInt8} (h : validP l = true) (m : Nat) : validP (l ++ List.replicate m 57) = decide (l.length + m ≤ 60) := by
  obtain ⟨a, r, rfl, h1, h2, h3⟩ := valid_parts h
  by_cases hl : (a :: r).length + m ≤ 60
  · rw [decide_eq_true hl, List.cons_append, valid_cons h1 (by simp at hl ⊢; omega), List.all_append, h2, Bool.true_and, List.all_eq_true]
    intro x hx
    rw [(List.mem_replicate.1 hx).2]
    decide
  · rw [decide_eq_false hl]
    exact valid_long (by simp at hl ⊢; omega)
theorem taken_q : ∀ x ∈ takenL, ¬ [45, 113] <:+ x := by decide
theorem grow_custom {l : List UInt8} (h : validP l = true) (h57 : l.length ≤ 57) : customP (l ++ [45, 113]) = true := by
  have hd : dashP (l ++ [45, 113]) = true := by
    unfold dashP
    rw [List.any_append]
    simp
  have ht : takenP (l ++ [45, 113]) = false := by
    cases hh : takenP (l ++ [45, 113])
    · rfl
    · exact absurd (List.suffix_append l [45, 113]) (taken_q _ (any_mem hh))
  have hv : validP (l ++ [45, 113]) = true := by
    obtain ⟨a, r, rfl, h1, h2, h3⟩ := valid_parts h
    rw [List.cons_append, valid_cons h1 (by simp at h57 ⊢; omega), List.all_append, h2, Bool.true_and]
    decide
  unfold customP
  rw [hv, hd, ht]
  rfl
theorem dash_first (l : List UInt8) : validP (45 :: l) = false := by
  unfold validP
  have : fitP (45 :: l) = false := by
    show (smallP 45 && l.all fineP) = false
    have : smallP 45 = false := by decide
    rw [this, Bool.false_and]
  rw [this, Bool.and_false]
theorem byte_valid {l : List UInt8} (h : validP l = true) (h40 : l.length ≤ 40) (c : UInt8) {k : Nat} (hk : 1 ≤ k) : validP (l.take k ++ [c] ++ l.drop k) = fineP c := by
  obtain ⟨a, r, rfl, h1, h2, _⟩ := valid_parts h
  obtain ⟨j, rfl⟩ : ∃ j, k = j + 1 := ⟨k - 1, by omega⟩
  have hr : (r.take j).all fineP = true ∧ (r.drop j).all fineP = true := by
    rw [← List.take_append_drop j r, List.all_append, Bool.and_eq_true] at h2
    exact h2
  rw [List.take_succ_cons, List.drop_succ_cons, List.cons_append, List.cons_append, valid_cons h1]
  · rw [List.all_append, List.all_append, hr.1, hr.2]
    simp
  · simp at h40 ⊢
    omega
/-- A text with more nines behind it. -/
def growT (s : ByteArray) (m : Nat) : ByteArray := ⟨(s.data.toList ++ List.replicate m 57).toArray⟩
theorem growT_zero (s : ByteArray) : growT s 0 = s := by
  unfold growT
  rw [List.replicate_zero, List.append_nil]
theorem growT_succ (s : ByteArray) (m : Nat) : growT s m ++ ⟨#[57]⟩ = growT s (m + 1) := by
  unfold growT
  rw [List.replicate_succ', ← List.append_assoc]
  exact ByteArray.mk_append_mk _ [57]
theorem growT_size (s : ByteArray) (m : Nat) : (growT s m).size = s.size + m := by
  show (s.data.toList ++ List.replicate m 57).toArray.size = _
  rw [List.size_toArray, List.length_append, List.length_replicate]
  rfl
theorem fine_iff (c : UInt8) : fineP c = true ↔ ((97 ≤ c.toNat ∧ c.toNat ≤ 122) ∨ (48 ≤ c.toNat ∧ c.toNat ≤ 57) ∨ c.toNat = 45 ∨ c.toNat = 46 ∨ c.toNat = 95) := by
  unfold fineP smallP innerP
  simp
  omega
end Go.Proofs.Ytcmfkodmppneoaa
