/-
  A host with a root, slots of names in it, and nodes in the host (pure).
-/
import Derived.Test.YtljnjdckhkglfaaYn
namespace Go.Proofs.Ytljnjdckhkglfaa
open Go.RowKit
set_option linter.unusedVariables false
/-- A name, by its number. -/
def nmQ (t : Nat) : List UInt8 := if t = 0 then [] else if t = 1 then [97] else if t = 2 then [98] else [99]
theorem nmB_list (t : Nat) : (nmB t).toList = nmQ t := by
  unfold nmB nmQ
  split
  · rw [ByteArray.toList_eq]
  · split
    · rw [ByteArray.toList_eq]
    · split <;> rw [ByteArray.toList_eq]
theorem nmQ_ne {a b : Nat} (ha : a < 4) (hb : b < 4) (h : a ≠ b) : nmQ a ≠ nmQ b := fun e => nmB_ne ha hb h (ByteArray.ext (by
  rw [← nmB_list, ← nmB_list, ByteArray.toList_eq, ByteArray.toList_eq] at e; exact Array.toList_inj.1 e))
def slN1 (n : List UInt8) : Nd := slA [⟨nameN, n⟩]
def kdE (n : List UInt8) : Nd := { elD [98] with attrs := [⟨slotN, n⟩] }
abbrev hd3 : List Nd := [frag0.new, divS, rtN fg0 1]
abbrev xsH (S : List (List UInt8)) (T : List Nd) : List Nd := hd3 ++ S.map slN1 ++ T
def QH (sl kd : List Nat) : Nat → List Nat := fun k => if k = 2 then sl else if k = 1 then kd else []
theorem QH_far {sl kd : List Nat} {k : Nat} (h : 3 ≤ k) : QH sl kd k = [] := by
  unfold QH; rw [if_neg (by omega), if_neg (by omega)]
theorem QH_mem {sl kd : List Nat} {k u : Nat} (h : k ∈ QH sl kd u) : k ∈ sl ∧ u = 2 ∨ k ∈ kd ∧ u = 1 := by
  unfold QH at h
  by_cases c2 : u = 2
  · rw [if_pos c2] at h; exact .inl ⟨h, c2⟩
  · rw [if_neg c2] at h
    by_cases c1 : u = 1
    · rw [if_pos c1] at h; exact .inr ⟨h, c1⟩
    · rw [if_neg c1] at h; cases h
theorem QH_slot (sl kd : List Nat) (i : Nat) : updR (QH sl kd) 2 (QH sl kd 2 ++ [i]) = QH (sl ++ [i]) kd := by
  funext k
  unfold updR
  by_cases c : k = 2
  · rw [if_pos c]; subst c; rfl
  · rw [if_neg c]; unfold QH; rw [if_neg c, if_neg c]
theorem QH_kid (sl kd : List Nat) (i : Nat) : updR (QH sl kd) 1 (QH sl kd 1 ++ [i]) = QH sl (kd ++ [i]) := by
  funext k
  unfold updR
  by_cases c : k = 1
  · rw [if_pos c]; subst c; rfl
  · rw [if_neg c]; unfold QH; rw [if_neg c, if_neg c]
inductive KdOk : Nd → Prop
  | t : KdOk (txD [120])
  | e (n : List UInt8) : KdOk (kdE n)
theorem KdOk.sh {x : Nd} (h : KdOk x) : showB x = true := by cases h <;> rfl
theorem KdOk.host {x : Nd} (h : KdOk x) : x.host = -1 := by cases h <;> rfl
theorem KdOk.k5 {x : Nd} (h : KdOk x) : x.kind ≠ 5 := by
  cases h
  · decide
  · show (1 : Nat) ≠ 5; decide
theorem KdOk.k4 {x : Nd} (h : KdOk x) : x.kind ≠ 4 := by
  cases h
  · decide
  · show (1 : Nat) ≠ 4; decide
theorem xsH_len (S : List (List UInt8)) (T : List Nd) : (xsH S T).length = 3 + S.length + T.length := by
  unfold xsH; rw [List.length_append, List.length_append, List.length_map]; rfl
section
variable {S : List (List UInt8)} {T : List Nd}
theorem xsH_1 (h : 1 < (xsH S T).length) : (xsH S T)[1] = divS := by
  unfold xsH; rw [List.getElem_append_left (by simp [hd3] <;> omega), List.getElem_append_left (by simp [hd3])]; rfl
theorem xsH_2 (h : 2 < (xsH S T).length) : (xsH S T)[2] = rtN fg0 1 := by
  unfold xsH; rw [List.getElem_append_left (by simp [hd3] <;> omega), List.getElem_append_left (by simp [hd3])]; rfl
theorem xsH_s {i : Nat} (hi : i < S.length) (h : 3 + i < (xsH S T).length) : (xsH S T)[3 + i] = slN1 S[i] := by
  unfold xsH
  rw [List.getElem_append_left (by simp [hd3] <;> omega), List.getElem_append_right (by simp [hd3])]
  rw [List.getElem_map]
  congr 1
  simp [hd3]
theorem xsH_t {j : Nat} (hj : j < T.length) (h : 3 + S.length + j < (xsH S T).length) : (xsH S T)[3 + S.length + j] = T[j] := by
  unfold xsH
  rw [List.getElem_append_right (by simp [hd3] <;> omega)]
  congr 1
  simp [hd3]; omega
theorem xsH_host (hT : ∀ x ∈ T, x.host = -1) {k : Nat} (h : k < (xsH S T).length) : (xsH S T)[k].host = -1 ∨ (xsH S T)[k].host = 1 := by
  have hl := xsH_len S T
  have : k = 0 ∨ k = 1 ∨ k = 2 ∨ (∃ i, i < S.length ∧ k = 3 + i) ∨ ∃ j, j < T.length ∧ k = 3 + S.length + j := by
    by_cases c : k < 3
    · omega
    · by_cases c2 : k < 3 + S.length
      · exact .inr (.inr (.inr (.inl ⟨k - 3, by omega, by omega⟩)))
      · exact .inr (.inr (.inr (.inr ⟨k - 3 - S.length, by omega, by omega⟩)))
  rcases this with rfl | rfl | rfl | ⟨i, hi, rfl⟩ | ⟨j, hj, rfl⟩
  · left; unfold xsH; rw [List.getElem_append_left (by simp [hd3] <;> omega), List.getElem_append_left (by simp [hd3])]; rfl
  · rw [xsH_1]; exact .inl rfl
  · rw [xsH_2]; exact .inr rfl
  · rw [xsH_s hi]; exact .inl rfl
  · rw [xsH_t hj]; exact .inl (hT _ (List.getElem_mem _))
end
section
variable {K : Nat → Prop} {w w' : World} {p : Nat} {M : Dm} {R G : Nat → List Nat} {rk : Nat → Nat} {xs : List Nd} {sl kd : List Nat}
theorem host_tree (hd : Ds M R G xs (QH sl kd)) (hI : Inv M R G rk) (h2 : 2 < xs.length) (hsl : ∀ j ∈ sl, 3 ≤ j ∧ j < xs.length) : tr M.n (QH sl kd) 2 = 2 :: sl := by
  have hF : Falls M.n (QH sl kd) rk := by have := hI.good.falls; rw [hd.r] at this; exact this
  rw [tr_row hF (by rw [hd.n]; exact h2) fun j hj => ?_]
  · rfl
  · have := hsl j hj
    exact ⟨by rw [hd.n]; exact this.2, QH_far this.1⟩
theorem host_fst (hd : Ds M R G xs (QH sl kd)) (hI : Inv M R G rk) (h2 : 2 < xs.length) (hsl : ∀ j ∈ sl, 3 ≤ j ∧ j < xs.length) (hr : xs[2] = rtN fg0 1) (nm : List UInt8) : fstO (fun j => slNm nm (M.nd j)) (tr M.n (QH sl kd) 2) = fstO (fun j => slNm nm (M.nd j)) sl := by
  rw [host_tree hd hI h2 hsl]
  have e2 : slNm nm (M.nd 2) = false := by rw [hd.nd 2 h2, hr]; rfl
  unfold fstO
  rw [List.find?_cons, e2]
theorem host_find (hd : Ds M R G xs (QH sl kd)) (hI : Inv M R G rk) (h2 : 2 < xs.length) (hsl : ∀ j ∈ sl, 3 ≤ j ∧ j < xs.length) (h1 : xs[1] = divS) (hr : xs[2] = rtN fg0 1) {k : Nat} (hk : k < xs.length) (hm : k ∈ kd) (hsh : showB xs[k] = true) :
    findI M R (k : Int) = fstO (fun j => slNm (atV slotN xs[k].attrs) (M.nd j)) sl := by
  rw [findI_in (by rw [hd.n]; exact hk), hd.find hI (u := 1) (s := 2) hk (by omega) h2 hm (by rw [h1]; rfl) (by rw [hr]; rfl) hsh, host_fst hd hI h2 hsl hr]
theorem host_asg (hd : Ds M R G xs (QH sl kd)) (hI : Inv M R G rk) (h2 : 2 < xs.length) (hsl : ∀ j ∈ sl, 3 ≤ j ∧ j < xs.length) (hkd : 2 ∉ kd) (hr : xs[2] = rtN fg0 1) {i : Nat} (hi : i < xs.length) (hm : i ∈ sl) {nm : List UInt8} (he : xs[i] = slN1 nm) :
    asgI M R G (i : Int) = if fstO (fun j => slNm nm (M.nd j)) sl = (i : Int) then kd.filter fun k => asksB nm (M.nd k) else [] := by
  have ho : ofZ M (i : Int) = ((2 : Nat) : Int) := hd.of hI (i := i) (s := 2) hi h2 hm (by rw [hr]; rfl) (fun u _ h => by
    rcases QH_mem h with ⟨a, _⟩ | ⟨a, _⟩
    · have := hsl 2 a; omega
    · exact hkd a)
  rw [asgI_in (by rw [hd.n]; exact hi), hd.asg hI (i := i) (s := 2) (o := 1) hi h2 (by rw [he]; rfl) ho (by rw [hr]; rfl) (by rw [hr]; rfl), he, host_fst hd hI h2 hsl hr]
  rfl
end
theorem plcT_ge (S : List Nat) (t : Nat) : plcT S t = -1 ∨ 3 ≤ plcT S t := by
  induction S with
  | nil => exact .inl rfl
  | cons a r ih =>
    unfold plcT
    split
    · exact .inr (by omega)
    · split
      · exact .inl rfl
      · exact .inr (by omega)
theorem plcT_or (t : Nat) : ∀ S : List Nat, (plcT S t = -1 ∧ ∀ x ∈ S, x ≠ t) ∨ ∃ i, ∃ h : i < S.length, S[i] = t ∧ plcT S t = 3 + (i : Int)
  | [] => .inl ⟨rfl, fun x hx => by cases hx⟩
  | a :: r => by
    by_cases c : a = t
    · exact .inr ⟨0, by simp, c, by unfold plcT; rw [if_pos c]; rfl⟩
    · rcases plcT_or t r with ⟨e, hn⟩ | ⟨i, h, e, e2⟩
      · refine .inl ⟨by unfold plcT; rw [if_neg c, if_pos e], fun x hx => ?_⟩
        rcases List.mem_cons.1 hx with rfl | hx
        · exact c
        · exact hn x hx
      · exact .inr ⟨i + 1, by simpa using h, e, by unfold plcT; rw [if_neg c, e2, if_neg (by omega)]; omega⟩
theorem fstO_cns (P : Nat → Bool) (a : Nat) (l : List Nat) : fstO P (a :: l) = if P a = true then (a : Int) else fstO P l := by
  unfold fstO
  rw [List.find?_cons]
  cases P a <;> rfl
theorem plcT_cns (a : Nat) (r : List Nat) (t : Nat) : plcT (a :: r) t = if a = t then 3 else if plcT r t = -1 then -1 else plcT r t + 1 := rfl
/-- The first slot of a name is where its number stands first. -/
theorem fst_plc (P : Nat → Bool) (t : Nat) : ∀ (S : List Nat) (b : Nat), (∀ i (h : i < S.length), P (b + i) = decide (S[i] = t)) → fstO P (List.range' b S.length) = if plcT S t = -1 then -1 else plcT S t - 3 + (b : Int)
  | [], b, _ => by rfl
  | a :: r, b, hP => by
    have h0 : P b = decide (a = t) := hP 0 (by simp)
    have ih := fst_plc P t r (b + 1) fun i h => by
      have := hP (i + 1) (by simpa using h)
      rw [show b + 1 + i = b + (i + 1) by omega]; exact this
    show fstO P (b :: List.range' (b + 1) r.length) = _
    rw [fstO_cns, h0]
    by_cases c : a = t
    · rw [decide_eq_true c, if_pos rfl]
      rw [plcT_cns, if_pos c, if_neg (by decide)]
      omega
    · rw [decide_eq_false c, if_neg (by simp), ih]
      rw [plcT_cns, if_neg c]
      by_cases c2 : plcT r t = -1
      · rw [if_pos c2, if_pos c2, if_pos rfl]
      · have := plcT_ge r t
        rw [if_neg c2, if_neg c2, if_neg (by omega)]
        omega
/-- What came in, as nodes. -/
def nmC (c : UInt8) : List UInt8 := nmQ (tOf c)
def kidC (c : UInt8) : Nd := if c.toNat % 5 = 0 then txD [120] else kdE (nmC c)
theorem kidC_ok (c : UInt8) : KdOk (kidC c) := by unfold kidC; split; exact .t; exact .e _
/-- The number of the name for which one asks. -/
def tK (c : UInt8) : Nat := if c.toNat % 5 = 0 then 0 else tOf c
theorem tK_lt (c : UInt8) : tK c < 4 := by unfold tK; split; decide; exact tOf_lt c
theorem kidC_at (c : UInt8) : atV slotN (kidC c).attrs = nmQ (tK c) := by
  unfold kidC tK
  split
  · rfl
  · rfl
section
variable {M : Dm} {R G : Nat → List Nat} {rk : Nat → Nat} {S T : List UInt8} {kd : List Nat}
/-- Slots of names that came in, and one more row of nodes. -/
theorem names_fst (hd : Ds M R G (xsH (S.map nmC) (T.map kidC)) (QH (List.range' 3 S.length) kd)) {t : Nat} (ht : t < 4) : fstO (fun j => slNm (nmQ t) (M.nd j)) (List.range' 3 S.length) = plcT (S.map tOf) t := by
  have hl := xsH_len (S.map nmC) (T.map kidC)
  rw [List.length_map, List.length_map] at hl
  have := fst_plc (fun j => slNm (nmQ t) (M.nd j)) t (S.map tOf) 3 fun i h => by
    rw [List.length_map] at h
    have e := hd.nd (3 + i) (by omega)
    rw [xsH_s (by rw [List.length_map]; exact h), List.getElem_map] at e
    show slNm (nmQ t) (M.nd (3 + i)) = _
    rw [e, List.getElem_map]
    show (true && decide (nmC S[i] = nmQ t)) = _
    rw [Bool.true_and]
    by_cases c : tOf S[i] = t
    · rw [decide_eq_true c, decide_eq_true (by unfold nmC; rw [c])]
    · rw [decide_eq_false c, decide_eq_false (show nmC S[i] ≠ nmQ t from nmQ_ne (tOf_lt _) ht c)]
  rw [List.length_map] at this
  rw [this]
  rcases plcT_ge (S.map tOf) t with e | e
  · rw [if_pos e, e]
  · rw [if_neg (by omega)]; omega
theorem names_find (hd : Ds M R G (xsH (S.map nmC) (T.map kidC)) (QH (List.range' 3 S.length) (List.range' (3 + S.length) T.length))) (hI : Inv M R G rk) {j : Nat} (hj : j < T.length) : findI M R ((3 + S.length + j : Nat) : Int) = plcT (S.map tOf) (tK T[j]) := by
  have hl := xsH_len (S.map nmC) (T.map kidC)
  rw [List.length_map, List.length_map] at hl
  have e : (xsH (S.map nmC) (T.map kidC))[3 + S.length + j]'(by omega) = kidC T[j] := by
    have := xsH_t (S := S.map nmC) (T := T.map kidC) (j := j) (by rw [List.length_map]; exact hj) (by rw [List.length_map]; omega)
    simp only [List.length_map, List.getElem_map] at this
    exact this
  rw [host_find hd hI (by omega) (fun k hk => by rw [List.mem_range'_1] at hk; omega) (xsH_1 _) (xsH_2 _) (k := 3 + S.length + j) (by omega) (by rw [List.mem_range'_1]; omega) (by rw [e]; exact (kidC_ok _).sh), e, kidC_at]
  exact names_fst hd (tK_lt _)
end
end Go.Proofs.Ytljnjdckhkglfaa
