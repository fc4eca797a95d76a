/-
  How many are shown in all slots (pure).
-/
import Derived.Test.YtljnjdckhkglfaaYj
namespace Go.Proofs.Ytljnjdckhkglfaa
open Go.RowKit
set_option linter.unusedVariables false
theorem range_count (P : UInt8 → Bool) : ∀ (T : List UInt8) (s : Nat), ((List.range' s T.length).filter fun k => P (T.getD (k - s) 0)).length = T.countP P
  | [], s => rfl
  | c :: r, s => by
    show ((s :: List.range' (s + 1) r.length).filter fun k => P ((c :: r).getD (k - s) 0)).length = _
    have e : (List.range' (s + 1) r.length).filter (fun k => P ((c :: r).getD (k - s) 0)) = (List.range' (s + 1) r.length).filter fun k => P (r.getD (k - (s + 1)) 0) := by
      refine List.filter_congr fun k hk => ?_
      rw [List.mem_range'_1] at hk
      obtain ⟨d, rfl⟩ : ∃ d, k = s + 1 + d := ⟨k - (s + 1), by omega⟩
      rw [show s + 1 + d - s = d + 1 by omega, show s + 1 + d - (s + 1) = d by omega]
      rfl
    rw [List.filter_cons, Nat.sub_self, e, List.countP_cons]
    show (if P c = true then _ else _ : List Nat).length = _
    by_cases h : P c = true
    · rw [if_pos h, if_pos h, List.length_cons, range_count P r (s + 1)]
    · rw [if_neg h, if_neg h, range_count P r (s + 1)]; rfl
theorem asks_num (c : UInt8) {t : Nat} (ht : t < 4) : asksB (nmQ t) (kidC c) = decide (tK c = t) := by
  unfold asksB
  rw [(kidC_ok c).sh, kidC_at, Bool.true_and]
  by_cases h : tK c = t
  · rw [decide_eq_true h, decide_eq_true (by rw [h])]
  · rw [decide_eq_false h, decide_eq_false (nmQ_ne (tK_lt c) ht h)]
theorem askL_count (a : Nat) (T : List UInt8) {t : Nat} (ht : t < 4) : (askL a T t).length = T.countP fun c => decide (tK c = t) := by
  unfold askL
  rw [range_count (fun c => asksB (nmQ t) (kidC c)) T (3 + a)]
  exact List.countP_congr fun c _ => by rw [asks_num c ht]
/-- What is shown in the i-th slot. -/
def asgS (S T : List UInt8) (i : Nat) : List Nat := if plcT (S.map tOf) (tOf (S.getD i 0)) = 3 + (i : Int) then askL S.length T (tOf (S.getD i 0)) else []
def cntS (S T : List UInt8) (m : Nat) : Nat := T.countP fun c => decide (3 ≤ plcT (S.map tOf) (tK c) ∧ plcT (S.map tOf) (tK c) < 3 + (m : Int))
theorem countP_two (p q r : UInt8 → Bool) (h : ∀ c, r c = (p c || q c) ∧ (p c && q c) = false) : ∀ T : List UInt8, T.countP r = T.countP p + T.countP q
  | [] => rfl
  | c :: l => by
    rw [List.countP_cons, List.countP_cons, List.countP_cons, countP_two p q r h l]
    obtain ⟨h1, h2⟩ := h c
    have e : (if r c = true then 1 else 0) = (if p c = true then 1 else 0) + (if q c = true then 1 else 0) := by
      rw [h1]
      revert h2
      cases p c <;> cases q c <;> simp
    rw [e]
    omega
theorem plcT_num {N : List Nat} {t m : Nat} (h : plcT N t = 3 + (m : Int)) : ∃ hm : m < N.length, N[m] = t := by
  rcases plcT_or t N with ⟨e, _⟩ | ⟨i, hi, e, e2⟩
  · omega
  · have : i = m := by omega
    subst this
    exact ⟨hi, e⟩
theorem cntS_zero (S T : List UInt8) : cntS S T 0 = 0 := by
  unfold cntS
  rw [List.countP_eq_zero]
  intro c _
  simp only [decide_eq_true_eq]
  omega
theorem cntS_step (S T : List UInt8) {m : Nat} (hm : m < S.length) : cntS S T (m + 1) = cntS S T m + (asgS S T m).length := by
  have eg : S.getD m 0 = S[m] := by simp [hm]
  unfold asgS
  rw [eg]
  by_cases c : plcT (S.map tOf) (tOf S[m]) = 3 + (m : Int)
  · rw [if_pos c, askL_count _ _ (tOf_lt _)]
    unfold cntS
    refine countP_two _ _ _ (fun x => ?_) T
    have key : plcT (S.map tOf) (tK x) = 3 + (m : Int) ↔ tK x = tOf S[m] := by
      constructor
      · intro h
        obtain ⟨h1, h2⟩ := plcT_num h
        rw [List.getElem_map] at h2
        exact h2.symm
      · intro h; rw [h]; exact c
    by_cases d : tK x = tOf S[m]
    · have e := key.2 d
      refine ⟨?_, ?_⟩
      · rw [decide_eq_true d, Bool.or_true]
        exact decide_eq_true (by omega)
      · rw [decide_eq_false (by omega)]; rfl
    · have e : plcT (S.map tOf) (tK x) ≠ 3 + (m : Int) := fun h => d (key.1 h)
      refine ⟨?_, ?_⟩
      · rw [decide_eq_false d, Bool.or_false]
        exact decide_eq_decide.2 (by omega)
      · rw [decide_eq_false d, Bool.and_false]
  · rw [if_neg c]
    unfold cntS
    refine List.countP_congr fun x _ => ?_
    have e : plcT (S.map tOf) (tK x) ≠ 3 + (m : Int) := fun h => by
      obtain ⟨h1, h2⟩ := plcT_num h
      rw [List.getElem_map] at h2
      rw [← h2] at h
      exact c h
    simp only [decide_eq_true_eq]
    omega
theorem cntS_all (S T : List UInt8) : cntS S T S.length = T.countP fun c => decide (0 ≤ plcT (S.map tOf) (tK c)) := by
  unfold cntS
  refine List.countP_congr fun x _ => ?_
  simp only [decide_eq_true_eq]
  rcases plcT_or (tK x) (S.map tOf) with ⟨e, _⟩ | ⟨i, hi, _, e⟩
  · omega
  · rw [List.length_map] at hi; omega
theorem askL_asc (a : Nat) (T : List UInt8) (t : Nat) : (askL a T t).Pairwise (· < ·) := by
  unfold askL
  exact (List.pairwise_lt_range' ..).filter _
theorem asgS_asc (S T : List UInt8) (i : Nat) {k : Nat} (h0 : 0 < k) (hk : k < (asgS S T i).length) : ∃ x y : Nat, (asgS S T i)[k - 1]? = some x ∧ (asgS S T i)[k]? = some y ∧ x < y ∧ 3 + S.length ≤ x := by
  have hp : (asgS S T i).Pairwise (· < ·) := by
    unfold asgS; split
    · exact askL_asc ..
    · exact List.Pairwise.nil
  have hm : ∀ x ∈ asgS S T i, 3 + S.length ≤ x := fun x hx => by
    unfold asgS at hx
    split at hx
    · unfold askL at hx
      have := List.mem_range'_1.1 (List.mem_filter.1 hx).1
      omega
    · cases hx
  have h1 : k - 1 < (asgS S T i).length := by omega
  exact ⟨_, _, List.getElem?_eq_getElem h1, List.getElem?_eq_getElem hk, List.pairwise_iff_getElem.1 hp (k - 1) k h1 hk (by omega), hm _ (List.getElem_mem _)⟩
theorem asgS_len (S T : List UInt8) (i : Nat) : (asgS S T i).length ≤ T.length := by
  unfold asgS; split
  · exact askL_len ..
  · exact Nat.zero_le _
section
variable {M : Dm} {R G : Nat → List Nat} {rk : Nat → Nat} {S T : List UInt8}
theorem sum_asg (hd : Ds M R G (xsH (S.map nmC) (T.map kidC)) (QH (List.range' 3 S.length) (List.range' (3 + S.length) T.length))) (hI : Inv M R G rk) {i : Nat} (hi : i < S.length) : asgI M R G ((3 + i : Nat) : Int) = asgS S T i := by
  have eg : S.getD i 0 = S[i] := by simp [hi]
  have := namesE_asg (S := S) (T := T) (E := []) (by rw [List.append_nil]; exact hd) hI hi
  unfold asgS
  rw [eg]
  exact this
theorem sum_slots (hd : Ds M R G (xsH (S.map nmC) (T.map kidC)) (QH (List.range' 3 S.length) (List.range' (3 + S.length) T.length))) (hI : Inv M R G rk) : ((trI M.n R 2).filter fun k => isSl (M.nd k)).length = S.length := by
  have hl : (xsH (S.map nmC) (T.map kidC)).length = 3 + S.length + T.length := by rw [xsH_len]; simp
  have e := trI_in (n := M.n) (F := R) (i := 2) (by rw [hd.n]; omega)
  have e' : trI M.n R 2 = tr M.n R 2 := e
  rw [e', hd.r, host_tree hd hI (by omega) (fun k hk => by rw [List.mem_range'_1] at hk; omega), List.filter_cons, hd.nd 2 (by omega), xsH_2, if_neg (by decide)]
  rw [List.filter_eq_self.2 fun k hk => ?_, List.length_range']
  rw [List.mem_range'_1] at hk
  obtain ⟨i, rfl⟩ : ∃ i, k = 3 + i := ⟨k - 3, by omega⟩
  rw [hd.nd _ (by omega), xsH_s (by rw [List.length_map]; omega)]
  rfl
end
end Go.Proofs.Ytljnjdckhkglfaa
