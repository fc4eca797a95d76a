/-
  TreeAttrs: what is built of one token, as plain functions; a token whose attributes came in.
-/
import Derived.Test.YtffllhohlfblnaaED
import Derived.Laws.StructEq
namespace Go.Proofs.Ytffllhohlfblnaa
open Go.RowKit Go.Sort

theorem keepA_sub : ∀ (l : List Atr) (ah : List (List UInt8)), (keepA ah l).Sublist l
  | [], _ => List.nil_sublist _
  | a :: r, ah => by
    simp only [keepA]
    split
    · exact (keepA_sub r _).cons_cons a
    · exact (keepA_sub r _).cons a
theorem allW_keep : ∀ (l : List Atr) (ah bh : List (List UInt8)), (∀ x ∈ bh, x ∈ ah) → allW bh (keepA ah l) = true
  | [], _, _, _ => rfl
  | a :: r, ah, bh, h => by
    have hs : ∀ x ∈ a.name :: bh, x ∈ a.name :: ah := by
      intro x hx
      rcases List.mem_cons.1 hx with rfl | hx
      · exact List.mem_cons_self ..
      · exact List.mem_cons_of_mem _ (h x hx)
    simp only [keepA]
    by_cases c : (writP a && !ah.contains a.name) = true
    · rw [if_pos c]
      have hc : (writP a && !bh.contains a.name) = true := by
        rw [Bool.and_eq_true] at c ⊢
        refine ⟨c.1, ?_⟩
        have c2 := c.2
        simp only [Bool.not_eq_true', List.contains_eq_mem, decide_eq_false_iff_not] at c2 ⊢
        exact fun hh => c2 (h _ hh)
      show ((writP a && !bh.contains a.name) && allW (a.name :: bh) (keepA (a.name :: ah) r)) = true
      rw [hc, Bool.true_and]
      exact allW_keep r _ _ hs
    · rw [if_neg c]
      exact allW_keep r _ _ fun x hx => List.mem_cons_of_mem _ (h x hx)
def divN : List UInt8 := [100, 105, 118]
theorem build1 (l : List Atr) (h : (keepA [] l).length ≤ 50) : buildL [⟨1, [100, 105, 118], l, false, [], 0⟩] = some ⟨[⟨0, 1, [100, 105, 118], keepA [] l, []⟩], List.replicate (l.length - (keepA [] l).length) ⟨5, 0⟩, [[100, 105, 118]]⟩ := by
  have e : BS.new.take ⟨1, [100, 105, 118], l, false, [], 0⟩ = ⟨[⟨0, 1, [100, 105, 118], keepA [] l, []⟩], List.replicate (l.length - (keepA [] l).length) ⟨5, 0⟩, [[100, 105, 118]]⟩ := rfl
  show (if (BS.new.take ⟨1, [100, 105, 118], l, false, [], 0⟩).full = true then none else some (BS.new.take ⟨1, [100, 105, 118], l, false, [], 0⟩)) = _
  rw [e, if_neg]
  simp only [BS.full, lastA, List.getLast?_singleton, List.length_cons, List.length_nil]
  simp
  omega
theorem sound1 (l : List Atr) (h : (keepA [] l).length ≤ 50) : soundL [(⟨0, 1, [100, 105, 118], keepA [] l, []⟩ : It).z] = true := by
  have ha : soundA (keepA [] l) = true := by
    unfold soundA
    rw [decide_eq_true h, allW_keep l [] [] fun _ h => h]
    rfl
  have hk : kindP (⟨0, 1, [100, 105, 118], keepA [] l, []⟩ : It).z true = true := by
    show ((validP [100, 105, 118] && (([] : List UInt8) == [])) && soundA (keepA [] l)) = true
    rw [ha]
    rfl
  show (decide (1 ≤ 5000) && (((!(decide ((0 : Int) < 0) || decide ((0 : Int) > 0))) && kindP (⟨0, 1, [100, 105, 118], keepA [] l, []⟩ : It).z true) && true)) = true
  rw [hk]
  rfl
theorem greedy_eq {s l : List Atr} {j i : Nat} (hj : j < s.length) (hi : i < l.length) (e : s[j] = l[i]) (h : (s.drop j).Sublist (l.drop i)) : (s.drop (j + 1)).Sublist (l.drop (i + 1)) := by
  rw [List.drop_eq_getElem_cons hj, List.drop_eq_getElem_cons hi, e] at h
  exact List.cons_sublist_cons.1 h
theorem greedy_ne {s l : List Atr} {j i : Nat} (hj : j < s.length) (hi : i < l.length) (e : s[j] ≠ l[i]) (h : (s.drop j).Sublist (l.drop i)) : (s.drop j).Sublist (l.drop (i + 1)) := by
  rw [List.drop_eq_getElem_cons hi] at h
  rw [List.drop_eq_getElem_cons hj] at h ⊢
  generalize s[j] = x at e h ⊢
  generalize l[i] = y at e h
  cases h with
  | cons _ h => exact h
  | cons_cons => exact absurd rfl e
theorem greedy_end {s l : List Atr} {j : Nat} (h : (s.drop j).Sublist (l.drop l.length)) : s.length ≤ j := by
  rw [List.drop_length] at h
  have := List.sublist_nil.1 h
  exact List.drop_eq_nil_iff.1 this
/-- How many bytes there are in all. -/
def sumA : List Atr → Nat
  | [] => 0
  | a :: r => a.name.length + a.value.length + sumA r
theorem sumA_snoc (a : Atr) : ∀ l : List Atr, sumA (l ++ [a]) = sumA l + (a.name.length + a.value.length)
  | [] => by simp [sumA]
  | x :: r => by simp only [List.cons_append, sumA, sumA_snoc a r]; omega
theorem sumA_take (l : List Atr) (k : Nat) (h : k < l.length) : sumA (l.take (k + 1)) = sumA (l.take k) + (l[k].name.length + l[k].value.length) := by
  rw [List.take_succ_eq_append_getElem h, sumA_snoc]
theorem sumA_le : ∀ (l : List Atr) (B : Nat), (∀ x ∈ l, x.name.length ≤ B ∧ x.value.length ≤ B) → sumA l ≤ l.length * (2 * B)
  | [], _, _ => by simp [sumA]
  | a :: r, B, h => by
    have h1 := h a (List.mem_cons_self ..)
    have h2 := sumA_le r B fun x hx => h x (List.mem_cons_of_mem _ hx)
    simp only [sumA, List.length_cons, Nat.add_mul, Nat.one_mul]
    omega
theorem sumA_mem : ∀ (l : List Atr), ∀ x ∈ l, x.name.length ≤ sumA l ∧ x.value.length ≤ sumA l
  | a :: r, x, hx => by
    simp only [sumA]
    rcases List.mem_cons.1 hx with rfl | hx
    · omega
    · have := sumA_mem r x hx
      omega
end Go.Proofs.Ytffllhohlfblnaa
