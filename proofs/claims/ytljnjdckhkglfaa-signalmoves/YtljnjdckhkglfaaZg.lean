/-
  A kid that goes from one slot to another one (pure).
-/
import Derived.Test.YtljnjdckhkglfaaZf
import Derived.Test.YtljnjdckhkglfaaYi
namespace Go.Proofs.Ytljnjdckhkglfaa
open Go.RowKit
set_option linter.unusedVariables false
abbrev AB : List (List UInt8) := [nmQ 1, nmQ 2]
/-- A kid: no slot, and shown. -/
structure KdG (x : Nd) : Prop where
  sl : isSl x = false
  sh : showB x = true
def kdC : Nd := { elD [98] with attrs := [⟨slotN, [97]⟩, ⟨[99, 108, 97, 115, 115], [98]⟩] }
theorem kdE_g (n : List UInt8) : KdG (kdE n) := ⟨by rfl, rfl⟩
theorem kdC_g : KdG kdC := ⟨by rfl, rfl⟩
section
variable {M : Dm} {R G : Nat → List Nat} {rk : Nat → Nat} {B : List Nd}
theorem mv_len : (xsH AB B).length = 5 + B.length := by rw [xsH_len]; rfl
theorem mv_n (hd : Ds M R G (xsH AB B) (QH [3, 4] (List.range' 5 B.length))) : M.n = 5 + B.length := hd.n.trans mv_len
theorem mv_kid (hd : Ds M R G (xsH AB B) (QH [3, 4] (List.range' 5 B.length))) {j : Nat} (hj : j < B.length) : M.nd (5 + j) = B[j] := by
  have hl := mv_len (B := B)
  rw [hd.nd (5 + j) (by omega)]
  exact xsH_t (S := AB) (T := B) hj (by show 5 + j < _; omega)
theorem mv_not (hd : Ds M R G (xsH AB B) (QH [3, 4] (List.range' 5 B.length))) (hB : ∀ x ∈ B, KdG x) {i : Nat} (hi : i < 5 + B.length) (h3 : i ≠ 3) (h4 : i ≠ 4) : asgL M R G i = [] := by
  have hl := mv_len (B := B)
  refine u_not ?_
  by_cases c : i < 5
  · rcases (show i = 0 ∨ i = 1 ∨ i = 2 by omega) with rfl | rfl | rfl <;> (rw [hd.nd _ (by omega)]; rfl)
  · obtain ⟨j, rfl⟩ : ∃ j, i = 5 + j := ⟨i - 5, by omega⟩
    rw [mv_kid hd (by omega)]
    exact (hB _ (List.getElem_mem _)).sl
theorem mv_fst (hd : Ds M R G (xsH AB B) (QH [3, 4] (List.range' 5 B.length))) : fstO (fun j => slNm (nmQ 1) (M.nd j)) [3, 4] = 3 ∧ fstO (fun j => slNm (nmQ 2) (M.nd j)) [3, 4] = 4 := by
  have hl := mv_len (B := B)
  have e3 : M.nd 3 = slN1 (nmQ 1) := by rw [hd.nd 3 (by omega)]; rfl
  have e4 : M.nd 4 = slN1 (nmQ 2) := by rw [hd.nd 4 (by omega)]; rfl
  constructor
  · rw [fstO_cns, e3, if_pos (by decide)]; rfl
  · rw [fstO_cns, e3, if_neg (by decide), fstO_cns, e4, if_pos (by decide)]; rfl
theorem mv_asg (hd : Ds M R G (xsH AB B) (QH [3, 4] (List.range' 5 B.length))) (hI : Inv M R G rk) : asgL M R G 3 = (List.range' 5 B.length).filter (fun k => asksB (nmQ 1) (M.nd k)) ∧ asgL M R G 4 = (List.range' 5 B.length).filter (fun k => asksB (nmQ 2) (M.nd k)) := by
  have hl := mv_len (B := B)
  have hsl : ∀ j ∈ [3, 4], 3 ≤ j ∧ j < (xsH AB B).length := fun j hj => by
    rcases List.mem_cons.1 hj with rfl | hj
    · omega
    · rw [List.mem_singleton.1 hj]; omega
  have hkd : 2 ∉ List.range' 5 B.length := fun h => by rw [List.mem_range'_1] at h; omega
  have a3 := host_asg hd hI (by omega) hsl hkd (xsH_2 (by omega)) (i := 3) (by omega) (by simp) (nm := nmQ 1) rfl
  have a4 := host_asg hd hI (by omega) hsl hkd (xsH_2 (by omega)) (i := 4) (by omega) (by simp) (nm := nmQ 2) rfl
  rw [asgI_in (by rw [mv_n hd]; omega)] at a3 a4
  rw [(mv_fst hd).1, if_pos (show (3 : Int) = ((3 : Nat) : Int) from rfl)] at a3
  rw [(mv_fst hd).2, if_pos (show (4 : Int) = ((4 : Nat) : Int) from rfl)] at a4
  exact ⟨a3, a4⟩
/-- What is seen of the slots. -/
theorem filter_five (P : Nat → Bool) (m : Nat) (hP : ∀ i, 5 ≤ i → i < 5 + m → P i = false) : (List.range (5 + m)).filter P = (List.range 5).filter P := by
  induction m with
  | zero => rfl
  | succ m ih =>
    rw [show 5 + (m + 1) = (5 + m) + 1 by omega, List.range_succ, List.filter_append, ih fun i h1 h2 => hP i h1 (by omega), List.filter_cons, if_neg (by rw [hP (5 + m) (by omega) (by omega)]; decide)]
    simp
theorem see_slots {asg kn : Nat → List Nat} {N : Nat} (h : ∀ i, i < 5 + N → i ≠ 3 → i ≠ 4 → asg i = kn i) :
    seeP asg kn [] (5 + N) = (if asg 3 = kn 3 then [] else [3]) ++ (if asg 4 = kn 4 then [] else [4]) := by
  rw [seeP_filter, filter_five _ N fun i h1 h2 => by rw [decide_eq_false (fun hh => hh (h i h2 (by omega) (by omega)))]]
  have e : (List.range 5).filter (fun i => decide (asg i ≠ kn i)) = [3, 4].filter (fun i => decide (asg i ≠ kn i)) := by
    show [0, 1, 2, 3, 4].filter _ = _
    rw [List.filter_cons, if_neg (by simp [h 0 (by omega) (by decide) (by decide)]), List.filter_cons, if_neg (by simp [h 1 (by omega) (by decide) (by decide)]), List.filter_cons, if_neg (by simp [h 2 (by omega) (by decide) (by decide)])]
  rw [e, List.filter_cons, List.filter_cons, List.filter_nil]
  by_cases c3 : asg 3 = kn 3 <;> by_cases c4 : asg 4 = kn 4 <;> simp [c3, c4]
def knE (N : Nat) : Nat → List Nat := fun i => if i = 3 then List.range' 5 N else []
abbrev reB (N : Nat) : List Nd := List.replicate N (kdE (nmQ 1))
theorem mv_all {N : Nat} (hd : Ds M R G (xsH AB B) (QH [3, 4] (List.range' 5 B.length))) (hI : Inv M R G rk) (hN : B.length = N) (h1 : ∀ x ∈ B, asksB (nmQ 1) x = true ∧ asksB (nmQ 2) x = false) : asgL M R G 3 = List.range' 5 N ∧ asgL M R G 4 = [] := by
  subst hN
  obtain ⟨e3, e4⟩ := mv_asg hd hI
  rw [e3, e4]
  have key : ∀ k ∈ List.range' 5 B.length, asksB (nmQ 1) (M.nd k) = true ∧ asksB (nmQ 2) (M.nd k) = false := fun k hk => by
    rw [List.mem_range'_1] at hk
    obtain ⟨j, rfl⟩ : ∃ j, k = 5 + j := ⟨k - 5, by omega⟩
    rw [mv_kid hd (by omega)]
    exact h1 _ (List.getElem_mem _)
  exact ⟨List.filter_eq_self.2 fun k hk => (key k hk).1, List.filter_eq_nil_iff.2 fun k hk => by rw [(key k hk).2]; decide⟩
theorem asks1 : asksB (nmQ 1) (kdE (nmQ 1)) = true ∧ asksB (nmQ 2) (kdE (nmQ 1)) = false := ⟨by decide, by decide⟩
theorem asksC : asksB (nmQ 1) kdC = true ∧ asksB (nmQ 2) kdC = false := ⟨by decide, by decide⟩
theorem one_see {N : Nat} (hd : Ds M R G (xsH AB (reB N)) (QH [3, 4] (List.range' 5 N))) (hI : Inv M R G rk) (hN : 0 < N) : seeP (asgL M R G) (fun _ => []) [] (5 + N) = [3] ∧ seeK (asgL M R G) (fun _ => []) (5 + N) = knE N := by
  have hl : (reB N).length = N := List.length_replicate ..
  have hd' : Ds M R G (xsH AB (reB N)) (QH [3, 4] (List.range' 5 (reB N).length)) := by rw [hl]; exact hd
  have hB : ∀ x ∈ reB N, KdG x := fun x hx => by rw [(List.mem_replicate.1 hx).2]; exact kdE_g _
  obtain ⟨e3, e4⟩ := mv_all hd' hI hl (fun x hx => by rw [(List.mem_replicate.1 hx).2]; exact asks1)
  have hno : ∀ i, i < 5 + N → i ≠ 3 → i ≠ 4 → asgL M R G i = [] := fun i hi h3 h4 => mv_not hd' hB (by rw [hl]; exact hi) h3 h4
  refine ⟨?_, ?_⟩
  · rw [see_slots hno, e3, e4, if_neg (by simp; omega), if_pos rfl]; rfl
  · funext i
    unfold seeK knE
    by_cases h3 : i = 3
    · subst h3; rw [if_pos (by omega), if_pos rfl, e3]
    · rw [if_neg h3]
      by_cases hi : i < 5 + N
      · rw [if_pos hi]
        by_cases h4 : i = 4
        · subst h4; exact e4
        · exact hno i hi h3 h4
      · rw [if_neg hi]
theorem two_stay {N j : Nat} (hd : Ds M R G (xsH AB ((reB N).set j kdC)) (QH [3, 4] (List.range' 5 N))) (hI : Inv M R G rk) : seeP (asgL M R G) (knE N) [] (5 + N) = [] := by
  have hl : ((reB N).set j kdC).length = N := by rw [List.length_set]; exact List.length_replicate ..
  have hd' : Ds M R G (xsH AB ((reB N).set j kdC)) (QH [3, 4] (List.range' 5 ((reB N).set j kdC).length)) := by rw [hl]; exact hd
  have hm : ∀ x ∈ (reB N).set j kdC, x = kdE (nmQ 1) ∨ x = kdC := fun x hx => by
    rcases List.mem_or_eq_of_mem_set hx with h | h
    · exact .inl (List.mem_replicate.1 h).2
    · exact .inr h
  obtain ⟨e3, e4⟩ := mv_all hd' hI hl (fun x hx => by rcases hm x hx with rfl | rfl; exact asks1; exact asksC)
  have hno : ∀ i, i < 5 + N → i ≠ 3 → i ≠ 4 → asgL M R G i = knE N i := fun i hi h3 h4 => by
    rw [mv_not hd' (fun x hx => by rcases hm x hx with rfl | rfl; exact kdE_g _; exact kdC_g) (by rw [hl]; exact hi) h3 h4]
    unfold knE; rw [if_neg h3]
  rw [see_slots hno, e3, e4, if_pos (by unfold knE; rw [if_pos rfl]), if_pos (by unfold knE; rw [if_neg (by decide)])]; rfl
theorem two_move {N j : Nat} (hj : j < N) (hd : Ds M R G (xsH AB ((reB N).set j (kdE (nmQ 2)))) (QH [3, 4] (List.range' 5 N))) (hI : Inv M R G rk) : seeP (asgL M R G) (knE N) [] (5 + N) = [3, 4] := by
  have hl : ((reB N).set j (kdE (nmQ 2))).length = N := by rw [List.length_set]; exact List.length_replicate ..
  have hd' : Ds M R G (xsH AB ((reB N).set j (kdE (nmQ 2)))) (QH [3, 4] (List.range' 5 ((reB N).set j (kdE (nmQ 2))).length)) := by rw [hl]; exact hd
  have hm : ∀ x ∈ (reB N).set j (kdE (nmQ 2)), KdG x := fun x hx => by
    rcases List.mem_or_eq_of_mem_set hx with h | h
    · rw [(List.mem_replicate.1 h).2]; exact kdE_g _
    · rw [h]; exact kdE_g _
  obtain ⟨e3, e4⟩ := mv_asg hd' hI
  rw [hl] at e3 e4
  have ek : M.nd (5 + j) = kdE (nmQ 2) := by rw [mv_kid hd' (by rw [hl]; exact hj), List.getElem_set_self]
  have n3 : 5 + j ∉ asgL M R G 3 := fun h => by
    rw [e3] at h
    have := (List.mem_filter.1 h).2
    rw [ek] at this
    exact absurd this (by decide)
  have n4 : 5 + j ∈ asgL M R G 4 := by
    rw [e4]
    exact List.mem_filter.2 ⟨List.mem_range'_1.2 (by omega), by rw [ek]; decide⟩
  have hno : ∀ i, i < 5 + N → i ≠ 3 → i ≠ 4 → asgL M R G i = knE N i := fun i hi h3 h4 => by
    rw [mv_not hd' hm (by rw [hl]; exact hi) h3 h4]
    unfold knE; rw [if_neg h3]
  rw [see_slots hno, if_neg (fun h => ?_), if_neg (fun h => ?_)]
  · rfl
  · rw [h] at n4
    unfold knE at n4
    rw [if_neg (by decide)] at n4
    cases n4
  · rw [h] at n3
    unfold knE at n3
    rw [if_pos rfl] at n3
    exact n3 (List.mem_range'_1.2 (by omega))
end
section
variable {K K' : Nat → Prop} {w w' : World} {p : Nat} {xs : List Nd} {Q : Nat → List Nat} {N j : Nat}
theorem Dst.grow (h : Dst K w p xs Q) (hk : Kept (fun k => k < w.heap.size ∧ ¬ K k) w w') (hs : ∀ k, K' k → K k ∨ w.heap.size ≤ k) (hl : ∀ k, K' k → k < w'.heap.size) : Dst K' w' p xs Q := by
  obtain ⟨M, R, G, a, b⟩ := h
  exact ⟨M, R, G, a.grow hk hs hl, b⟩
theorem set_rep {x : Nd} (hj : j < N) : (xsH AB (reB N)).set (5 + j) x = xsH AB ((reB N).set j x) := by
  unfold xsH
  rw [List.set_append_right _ _ (by show 5 ≤ 5 + j; omega)]
  congr 2
  show 5 + j - 5 = j
  omega
theorem stM_set (h : Dst K w p (xsH AB (reB N)) Q) (hj : j < N) (S T : ByteArray) (l : List Atr) (x : Nd) (hx : x = { kdE (nmQ 1) with attrs := l }) (hl : setA [⟨slotN, [97]⟩] ⟨S.toList, T.toList⟩ = l) (hs : soundL [⟨0, 1, [98], l, []⟩] = true) (hs2 : soundA l = true) (hS : S.size ≤ 1000000000) (hT : T.size ≤ 1000000000) {k : Nat} (hk : 5 + j = k) :
    Calls Try.prog 14 #[.pointer (some ⟨p, 0, none⟩), .int .i64 (k : Int), .string S, .string T] w fun e w' => e = .returned (.int .u16 0) ∧ Dst K w' p (xsH AB ((reB N).set j x)) Q ∧ Kept K w w' := by
  subst hk
  have hlen : (xsH AB (reB N)).length = 5 + N := by rw [mv_len]; simp
  have e : (xsH AB (reB N))[5 + j]'(by omega) = kdE (nmQ 1) := by
    have := xsH_t (S := AB) (T := reB N) (j := j) (by simp; exact hj) (by show 5 + j < _; omega)
    have h2 : (xsH AB (reB N))[5 + j]'(by omega) = (reB N)[j]'(by simp; exact hj) := this
    rw [h2, List.getElem_replicate]
  refine (h.set (5 + j) S T (by omega) (by rw [e]; rfl) l (by rw [e]; exact hl) (by rw [e]; exact hs) hs2 (fun y hy => ?_) hS hT).mono ?_
  · rw [e] at hy
    rw [List.mem_singleton.1 hy]
    exact ⟨by show (4 : Nat) ≤ _; decide, by show (1 : Nat) ≤ _; decide⟩
  rintro e' w' ⟨rfl, h', hk⟩
  rw [e, ← hx, set_rep hj] at h'
  exact ⟨rfl, h', hk⟩
end
end Go.Proofs.Ytljnjdckhkglfaa
