/-
  What holds of lines and columns: of no program.
-/
import Derived.Test.YtinmabjcjdeekabOf
namespace Go.Proofs.Ytinmabjcjdeekab
open Go.RowKit

theorem wf_u16 {i : Int} (h : (Lit.int .u16 i).wf = true) : 0 ≤ i ∧ i ≤ 65535 := by
  have h1 : IntKind.min .u16 ≤ i ∧ i ≤ IntKind.max .u16 := by simpa [Lit.wf] using h
  exact h1
theorem clip_le {s : ByteArray} {k : Nat} (h : k ≤ s.size) : clip s (k : Int) = k := by simp [clip, h]
theorem hit_iff {s : ByteArray} {line col : Int} {i : Nat} : hit s line col i = true ↔ ((spot (s.data.toList.take i)).1 : Int) = line ∧ ((spot (s.data.toList.take i)).2 : Int) = col := by
  simp [hit]
theorem ofS_of_some {s : ByteArray} {line col : Int} {m : Nat} (h : ofS s line col = some m) : m ≤ s.size ∧ hit s line col m = true ∧ ∀ j, j < m → hit s line col j = false := by
  unfold ofS at h
  rw [List.find?_range_eq_some] at h
  obtain ⟨h1, h2, h3⟩ := h
  refine ⟨by simp at h2; omega, h1, fun j hj => by simpa using h3 j hj⟩
theorem ofS_of_none {s : ByteArray} {line col : Int} (h : ofS s line col = none) : ∀ j, j ≤ s.size → hit s line col j = false := by
  unfold ofS at h
  rw [List.find?_range_eq_none] at h
  intro j hj
  simpa using h j (by omega)
theorem ofS_hit {s : ByteArray} {line col : Int} {k : Nat} (hk : k ≤ s.size) (h : hit s line col k = true) : ∃ m, ofS s line col = some m ∧ m ≤ k ∧ hit s line col m = true := by
  cases ho : ofS s line col with
  | none => have := ofS_of_none ho k hk; rw [h] at this; cases this
  | some m =>
    obtain ⟨h1, h2, h3⟩ := ofS_of_some ho
    refine ⟨m, rfl, ?_, h2⟩
    by_cases hc : m ≤ k
    · exact hc
    · have := h3 k (by omega); rw [h] at this; cases this
theorem past_ge (p : Nat × Nat) (b : UInt8) (h : 1 ≤ p.1 ∧ 1 ≤ p.2) : 1 ≤ (past p b).1 ∧ 1 ≤ (past p b).2 := by
  unfold past; split
  · simp
  · split
    · exact h
    · simp; exact h.1
theorem foldl_ge (l : List UInt8) : ∀ p : Nat × Nat, 1 ≤ p.1 ∧ 1 ≤ p.2 → 1 ≤ (l.foldl past p).1 ∧ 1 ≤ (l.foldl past p).2 := by
  induction l with
  | nil => exact fun p h => h
  | cons b l ih => exact fun p h => ih _ (past_ge p b h)
theorem spot_ge (l : List UInt8) : 1 ≤ (spot l).1 ∧ 1 ≤ (spot l).2 := foldl_ge l (1, 1) (by simp)
/-- No later place has a lesser line, and in one line none a lesser column. -/
def After (p q : Nat × Nat) : Prop := p.1 < q.1 ∨ p.1 = q.1 ∧ p.2 ≤ q.2
theorem past_after (p q : Nat × Nat) (b : UInt8) (h : After p q) : After p (past q b) := by
  unfold After at *
  unfold past; split
  · simp; omega
  · split
    · exact h
    · simp; omega
theorem foldl_after (p : Nat × Nat) (l : List UInt8) : ∀ q : Nat × Nat, After p q → After p (l.foldl past q) := by
  induction l with
  | nil => exact fun q h => h
  | cons b l ih => exact fun q h => ih _ (past_after p q b h)
theorem spot_append (l m : List UInt8) : spot (l ++ m) = m.foldl past (spot l) := by simp [spot]
theorem spot_after (l : List UInt8) (a b : Nat) (h : a ≤ b) : After (spot (l.take a)) (spot (l.take b)) := by
  obtain ⟨d, rfl⟩ := Nat.exists_eq_add_of_le h
  rw [List.take_add, spot_append]
  exact foldl_after _ _ _ (.inr ⟨rfl, Nat.le_refl _⟩)
/-- How many ends of line, and one. -/
def ends (l : List UInt8) : Nat := l.foldl (fun n b => if b.toNat = 10 then n + 1 else n) 1
theorem foldl_line (l : List UInt8) : ∀ p : Nat × Nat, (l.foldl past p).1 = l.foldl (fun n b => if b.toNat = 10 then n + 1 else n) p.1 := by
  induction l with
  | nil => exact fun p => rfl
  | cons b l ih =>
    intro p
    simp only [List.foldl_cons]
    rw [ih]
    congr 1
    unfold past
    by_cases h : b.toNat = 10
    · simp [h]
    · simp only [h, if_false]; split <;> rfl
theorem spot_line (l : List UInt8) : (spot l).1 = ends l := foldl_line l (1, 1)
theorem ends_snoc (l : List UInt8) (b : UInt8) : ends (l ++ [b]) = if b.toNat = 10 then ends l + 1 else ends l := by simp [ends]
theorem ends_step (s : ByteArray) (k : Nat) (hk : k < s.size) : ends (s.data.toList.take (k + 1)) = if s[k].toNat = 10 then ends (s.data.toList.take k) + 1 else ends (s.data.toList.take k) := by
  have : k < s.data.toList.length := by simpa using hk
  rw [List.take_succ_eq_append_getElem this, ends_snoc]
  rfl
theorem ends_le (l : List UInt8) : ends l ≤ 1 + l.length := by rw [← spot_line]; exact (spot_le l).1
/-- A text of one line of letters. -/
theorem spot_letters (l : List UInt8) : (∀ b ∈ l, 32 ≤ b.toNat ∧ b.toNat < 127) → spot l = (1, 1 + l.length) := by
  suffices ∀ p : Nat × Nat, (∀ b ∈ l, 32 ≤ b.toNat ∧ b.toNat < 127) → l.foldl past p = (p.1, p.2 + l.length) from this (1, 1)
  induction l with
  | nil => exact fun p _ => rfl
  | cons b l ih =>
    intro p h
    have hb := h b (by simp)
    have h1 : past p b = (p.1, p.2 + 1) := by
      unfold past; rw [if_neg (by omega), if_neg (by omega)]
    rw [List.foldl_cons, h1, ih _ (fun c hc => h c (by simp [hc]))]
    simp; omega
theorem size_toList (s : ByteArray) : s.data.toList.length = s.size := by simp
end Go.Proofs.Ytinmabjcjdeekab
