/-
  Names in great letters: plain functions alone.
-/
import Derived.Test.YtcmfkodmppneoabFacts
namespace Go.Proofs.Ytcmfkodmppneoab
open Go.RowKit

def bigB (c : UInt8) : UInt8 := if 97 ≤ c.toNat ∧ c.toNat ≤ 122 then c - 32 else c
def bigL (l : List UInt8) : List UInt8 := l.map bigB
abbrev txt (l : List UInt8) : ByteArray := ⟨l.toArray⟩

theorem bigB_nat {c : UInt8} (h : 97 ≤ c.toNat ∧ c.toNat ≤ 122) : (bigB c).toNat = c.toNat - 32 := by
  unfold bigB
  rw [if_pos h, UInt8.toNat_sub]
  show (256 - 32 + c.toNat) % 256 = _
  omega
theorem bigB_eq {c : UInt8} (h : ¬ (97 ≤ c.toNat ∧ c.toNat ≤ 122)) : bigB c = c := if_neg h
theorem small_iff (c : UInt8) : smallP c = true ↔ 97 ≤ c.toNat ∧ c.toNat ≤ 122 := by simp [smallP]
theorem inner_lt {c : UInt8} (h : innerP c = true) : (c.toNat < 65 ∨ c.toNat = 95) := by
  unfold innerP at h
  simp at h
  omega
theorem low_big {c : UInt8} (h : fineP c = true) : lowB (bigB c) = c := by
  by_cases hs : 97 ≤ c.toNat ∧ c.toNat ≤ 122
  · have e := bigB_nat hs
    apply UInt8.toNat_inj.1
    have : 65 ≤ (bigB c).toNat ∧ (bigB c).toNat ≤ 90 := by omega
    unfold lowB
    rw [if_pos this, UInt8.toNat_add]
    show ((bigB c).toNat + 32) % 256 = _
    omega
  · rw [bigB_eq hs]
    have hi : innerP c = true := by
      unfold fineP at h
      have : smallP c = false := Bool.eq_false_iff.2 fun h => hs ((small_iff c).1 h)
      rwa [this, Bool.false_or] at h
    have := inner_lt hi
    unfold lowB
    rw [if_neg (by omega)]

theorem valid_head {l : List UInt8} (h : validP l = true) : ∃ a r, l = a :: r ∧ smallP a = true ∧ r.all fineP = true := by
  unfold validP at h
  simp only [Bool.and_eq_true, decide_eq_true_eq] at h
  obtain ⟨⟨h1, h2⟩, h3⟩ := h
  cases l with
  | nil => simp at h1
  | cons a r =>
    simp only [fitP, Bool.and_eq_true] at h3
    exact ⟨a, r, rfl, h3.1, h3.2⟩
theorem low_bigL {l : List UInt8} (h : validP l = true) : lowL (bigL l) = l := by
  obtain ⟨a, r, rfl, h1, h2⟩ := valid_head h
  unfold lowL bigL
  rw [List.map_map]
  have : ∀ c ∈ a :: r, (lowB ∘ bigB) c = id c := by
    intro c hc
    refine low_big ?_
    rcases List.mem_cons.1 hc with rfl | hc
    · unfold fineP
      rw [h1, Bool.true_or]
    · exact List.all_eq_true.1 h2 c hc
  rw [List.map_congr_left this, List.map_id]
theorem any_small {l : List UInt8} (h : validP l = true) : l.any smallP = true := by
  obtain ⟨a, r, rfl, h1, _⟩ := valid_head h
  rw [List.any_cons, h1, Bool.true_or]
theorem big_valid {l : List UInt8} (h : validP l = true) : validP (bigL l) = false := by
  obtain ⟨a, r, rfl, h1, _⟩ := valid_head h
  have hs := (small_iff a).1 h1
  have e := bigB_nat hs
  have : smallP (bigB a) = false := Bool.eq_false_iff.2 fun h => by have := (small_iff _).1 h; omega
  unfold validP
  have hf : fitP (bigL (a :: r)) = false := by
    show (smallP (bigB a) && (bigL r).all fineP) = false
    rw [this, Bool.false_and]
  rw [hf, Bool.and_false]
theorem big_custom {l : List UInt8} (h : validP l = true) : customP (bigL l) = false := by
  unfold customP
  rw [big_valid h, Bool.false_and, Bool.false_and]
theorem big_void {l : List UInt8} (h : validP l = true) : voidP (bigL l) = false := by
  cases hv : voidP (bigL l)
  · rfl
  · have := (voidP_valid _ (any_mem hv)).1
    rw [big_valid h] at this
    cases this
theorem bigL_snoc {s : ByteArray} {k : Nat} (hk : k < s.size) : bigL (s.data.toList.take (k + 1)) = bigL (s.data.toList.take k) ++ [bigB s[k]] := by
  have h : k < s.data.toList.length := hk
  rw [List.take_succ_eq_append_getElem h]
  unfold bigL
  rw [List.map_append]
  rfl
theorem any_snoc {s : ByteArray} {k : Nat} (hk : k < s.size) : (s.data.toList.take (k + 1)).any smallP = ((s.data.toList.take k).any smallP || smallP s[k]) := by
  have h : k < s.data.toList.length := hk
  rw [List.take_succ_eq_append_getElem h, List.any_append, List.any_cons, List.any_nil, Bool.or_false]
  rfl
theorem bigL_len {s : ByteArray} (k : Nat) : (bigL (s.data.toList.take k)).length ≤ s.size := by
  unfold bigL
  rw [List.length_map, List.length_take]
  exact Nat.min_le_right _ _
theorem conv_at (X : World) (n : Int) (c : UInt8) (h : n = (c.toNat : Int)) : (convert 25 9 (.slice (some ⟨X.heap.size, 0, none⟩) 1 1)).run Try.prog (X.alloc (.cells #[.int .u8 n] 5)) = .ok (.string ⟨#[c]⟩) (X.alloc (.cells #[.int .u8 n] 5)) := by
  subst h
  have h := conv_new X (c.toNat : Int) X.heap.size rfl
  rw [Int.toNat_natCast, UInt8.ofNat_toNat] at h
  exact h
end Go.Proofs.Ytcmfkodmppneoab
