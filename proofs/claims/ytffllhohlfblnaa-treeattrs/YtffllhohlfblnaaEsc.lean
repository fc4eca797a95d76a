/-
  Texts as they are written, as plain functions on lists of bytes, and what holds of them. No program is named here.
-/
import Derived.Test.YtffllhohlfblnaaPure
namespace Go.Proofs.Ytffllhohlfblnaa

/-- One byte, by itself. -/
def one (q : Bool) (c : UInt8) : List UInt8 :=
  if c = 38 then [38, 97, 109, 112, 59] else if c = 60 then [38, 108, 116, 59] else if c = 62 then [38, 103, 116, 59] else if q = true ∧ c = 34 then [38, 113, 117, 111, 116, 59] else [c]
def nbsp : List UInt8 := [38, 110, 98, 115, 112, 59]
/-- What stands at the front of a text is written so, and is so many bytes. -/
def nbq : List UInt8 → Bool
  | 194 :: 160 :: _ => true
  | _ => false
def front (q : Bool) : List UInt8 → List UInt8
  | [] => []
  | c :: r => if nbq (c :: r) = true then nbsp else one q c
theorem front_cons (q : Bool) (c : UInt8) (r : List UInt8) : front q (c :: r) = if nbq (c :: r) = true then nbsp else one q c := rfl
def far (l : List UInt8) : Nat := if nbq l = true then 2 else 1
def esc (q : Bool) : List UInt8 → List UInt8
  | [] => []
  | [c] => one q c
  | c :: d :: r => if nbq (c :: d :: r) = true then nbsp ++ esc q r else one q c ++ esc q (d :: r)
theorem nbq_iff {l : List UInt8} : nbq l = true ↔ ∃ r, l = 194 :: 160 :: r := by
  constructor
  · intro h
    unfold nbq at h
    split at h
    · exact ⟨_, rfl⟩
    · cases h
  · rintro ⟨r, rfl⟩
    rfl
theorem esc_nil (q : Bool) : esc q [] = [] := rfl
theorem esc_nb (q : Bool) (r : List UInt8) : esc q (194 :: 160 :: r) = nbsp ++ esc q r := rfl
theorem esc_one {q : Bool} {c : UInt8} {r : List UInt8} (h : nbq (c :: r) = false) : esc q (c :: r) = one q c ++ esc q r := by
  cases r with
  | nil => rw [esc, esc, List.append_nil]
  | cons d r => rw [esc, h]; rfl
theorem esc_step (q : Bool) {l : List UInt8} (h : l ≠ []) : esc q l = front q l ++ esc q (l.drop (far l)) := by
  cases l with
  | nil => exact absurd rfl h
  | cons c r =>
    by_cases hn : nbq (c :: r) = true
    · obtain ⟨t, ht⟩ := nbq_iff.1 hn
      unfold far
      rw [front_cons, if_pos hn, if_pos hn, ht]
      rfl
    · have hn' : nbq (c :: r) = false := by simpa using hn
      unfold far
      rw [front_cons, if_neg hn, if_neg hn, esc_one hn']
      rfl
theorem far_le {l : List UInt8} (h : l ≠ []) : 1 ≤ far l ∧ far l ≤ l.length := by
  unfold far
  split
  · rename_i h1
    obtain ⟨r, rfl⟩ := nbq_iff.1 h1
    simp
  · cases l with
    | nil => exact absurd rfl h
    | cons c r => simp

theorem one_len (q : Bool) (c : UInt8) : 1 ≤ (one q c).length ∧ (one q c).length ≤ 6 := by
  unfold one
  repeat' split
  all_goals simp
theorem front_len (q : Bool) {l : List UInt8} (h : l ≠ []) : far l ≤ (front q l).length ∧ (front q l).length ≤ 6 := by
  cases l with
  | nil => exact absurd rfl h
  | cons c r =>
    unfold far
    rw [front_cons]
    split
    · decide
    · exact one_len q c
theorem one_grow (c : UInt8) : (one false c).length ≤ (one true c).length := by
  unfold one
  by_cases h1 : c = 38
  · simp [h1]
  · by_cases h2 : c = 60
    · simp [h2]
    · by_cases h3 : c = 62
      · simp [h3]
      · by_cases h4 : c = 34
        · simp [h4]
        · simp [h1, h2, h3, h4]

/-- Going over a text, a step at a time. -/
theorem walkL {p : List UInt8 → Prop} (h0 : p []) (hs : ∀ l, l ≠ [] → p (l.drop (far l)) → p l) : ∀ (n : Nat) (l : List UInt8), l.length ≤ n → p l
  | 0, l, h => by rw [List.eq_nil_of_length_eq_zero (l := l) (by omega)]; exact h0
  | n + 1, l, h => by
    by_cases hl : l = []
    · rw [hl]; exact h0
    · have := far_le hl
      exact hs l hl (walkL h0 hs n _ (by rw [List.length_drop]; omega))
theorem overL {p : List UInt8 → Prop} (h0 : p []) (hs : ∀ l, l ≠ [] → p (l.drop (far l)) → p l) (l : List UInt8) : p l := walkL h0 hs l.length l (Nat.le_refl _)

theorem esc_long (q : Bool) : ∀ l, l.length ≤ (esc q l).length :=
  overL (Nat.le_refl _) fun l hl ih => by
    rw [esc_step q hl, List.length_append]
    have h1 := front_len q hl
    have h2 := far_le hl
    rw [List.length_drop] at ih
    omega
theorem esc_short (q : Bool) : ∀ l, (esc q l).length ≤ 6 * l.length :=
  overL (Nat.le_refl _) fun l hl ih => by
    rw [esc_step q hl, List.length_append]
    have h1 := front_len q hl
    have h2 := far_le hl
    rw [List.length_drop] at ih
    omega
theorem esc_grow : ∀ l, (esc false l).length ≤ (esc true l).length :=
  overL (Nat.le_refl _) fun l hl ih => by
    rw [esc_step false hl, esc_step true hl, List.length_append, List.length_append]
    have h1 : (front false l).length ≤ (front true l).length := by
      cases l with
      | nil => exact absurd rfl hl
      | cons c r =>
        rw [front_cons, front_cons]
        split
        · exact Nat.le_refl _
        · exact one_grow c
    omega
theorem one_letter {q : Bool} {c : UInt8} (h : 97 ≤ c.toNat ∧ c.toNat ≤ 122) : one q c = [c] := by
  have k : ∀ d : UInt8, d.toNat < 97 → c ≠ d := fun d hd he => by rw [he] at h; omega
  unfold one
  rw [if_neg (k 38 (by decide)), if_neg (k 60 (by decide)), if_neg (k 62 (by decide)), if_neg (fun e => k 34 (by decide) e.2)]
theorem esc_letters (q : Bool) : ∀ l : List UInt8, (∀ c ∈ l, 97 ≤ c.toNat ∧ c.toNat ≤ 122) → esc q l = l
  | [], _ => rfl
  | c :: r, h => by
    have hn : nbq (c :: r) = false := by
      rw [Bool.eq_false_iff]
      intro hh
      obtain ⟨t, ht⟩ := nbq_iff.1 hh
      injection ht with h1 _
      have := (h c List.mem_cons_self).2
      rw [h1] at this
      exact absurd this (by decide)
    rw [esc_one hn, one_letter (h c List.mem_cons_self), esc_letters q r fun d hd => h d (List.mem_cons_of_mem _ hd)]
    rfl

/-- Two texts, if no character is cut. -/
theorem esc_append (q : Bool) (t : List UInt8) : ∀ (s : List UInt8), s.getLast? ≠ some 194 → esc q (s ++ t) = esc q s ++ esc q t :=
  overL (p := fun s => s.getLast? ≠ some 194 → esc q (s ++ t) = esc q s ++ esc q t) (fun _ => rfl) fun l hl ih hlast => by
    cases l with
    | nil => exact absurd rfl hl
    | cons c r =>
      by_cases hn : nbq (c :: r) = true
      · obtain ⟨u, hu⟩ := nbq_iff.1 hn
        have hf : far (c :: r) = 2 := if_pos hn
        rw [hf, hu] at ih
        rw [hu] at hlast ⊢
        have ih' := ih (by
          show u.getLast? ≠ some 194
          intro h
          apply hlast
          cases u with
          | nil => cases h
          | cons a u => rw [List.getLast?_cons_cons, List.getLast?_cons_cons]; exact h)
        show nbsp ++ esc q (u ++ t) = nbsp ++ esc q u ++ esc q t
        rw [List.append_assoc]
        exact congrArg (nbsp ++ ·) ih'
      · have hf : far (c :: r) = 1 := if_neg hn
        rw [hf] at ih
        have hn' : nbq (c :: r) = false := by simpa using hn
        have ih' := ih (by
          show r.getLast? ≠ some 194
          intro h
          apply hlast
          cases r with
          | nil => cases h
          | cons a u => rw [List.getLast?_cons_cons]; exact h)
        have hn2 : nbq (c :: (r ++ t)) = false := by
          rw [Bool.eq_false_iff]
          intro hh
          obtain ⟨u, hu⟩ := nbq_iff.1 hh
          cases r with
          | nil =>
            have : c = 194 := by injection hu
            exact hlast (by rw [this]; rfl)
          | cons a r =>
            rw [List.cons_append] at hu
            injection hu with h1 h2
            injection h2 with h3 _
            exact hn (by rw [h1, h3]; rfl)
        rw [esc_one hn', List.cons_append, esc_one hn2, List.append_assoc]
        exact congrArg (one q c ++ ·) ih'

/-- Which bytes stand in what is written. -/
theorem one_sign {q : Bool} {c d : UInt8} (h : d ∈ one q c) : d ≠ 60 ∧ d ≠ 62 ∧ (q = true → d ≠ 34) := by
  unfold one at h
  by_cases h1 : c = 38
  · rw [if_pos h1] at h
    have : ∀ d ∈ ([38, 97, 109, 112, 59] : List UInt8), d ≠ 60 ∧ d ≠ 62 ∧ d ≠ 34 := by decide
    exact ⟨(this d h).1, (this d h).2.1, fun _ => (this d h).2.2⟩
  · rw [if_neg h1] at h
    by_cases h2 : c = 60
    · rw [if_pos h2] at h
      have : ∀ d ∈ ([38, 108, 116, 59] : List UInt8), d ≠ 60 ∧ d ≠ 62 ∧ d ≠ 34 := by decide
      exact ⟨(this d h).1, (this d h).2.1, fun _ => (this d h).2.2⟩
    · rw [if_neg h2] at h
      by_cases h3 : c = 62
      · rw [if_pos h3] at h
        have : ∀ d ∈ ([38, 103, 116, 59] : List UInt8), d ≠ 60 ∧ d ≠ 62 ∧ d ≠ 34 := by decide
        exact ⟨(this d h).1, (this d h).2.1, fun _ => (this d h).2.2⟩
      · rw [if_neg h3] at h
        by_cases h4 : q = true ∧ c = 34
        · rw [if_pos h4] at h
          have : ∀ d ∈ ([38, 113, 117, 111, 116, 59] : List UInt8), d ≠ 60 ∧ d ≠ 62 ∧ d ≠ 34 := by decide
          exact ⟨(this d h).1, (this d h).2.1, fun _ => (this d h).2.2⟩
        · rw [if_neg h4, List.mem_singleton] at h
          subst h
          exact ⟨h2, h3, fun hq he => h4 ⟨hq, he⟩⟩
theorem front_sign {q : Bool} {l : List UInt8} {d : UInt8} (h : d ∈ front q l) : d ≠ 60 ∧ d ≠ 62 ∧ (q = true → d ≠ 34) := by
  cases l with
  | nil => cases h
  | cons c r =>
    rw [front_cons] at h
    split at h
    · have : ∀ d ∈ nbsp, d ≠ 60 ∧ d ≠ 62 ∧ d ≠ 34 := by decide
      exact ⟨(this d h).1, (this d h).2.1, fun _ => (this d h).2.2⟩
    · exact one_sign h
theorem esc_sign (q : Bool) : ∀ l, ∀ d ∈ esc q l, d ≠ 60 ∧ d ≠ 62 ∧ (q = true → d ≠ 34) :=
  overL (p := fun l => ∀ d ∈ esc q l, d ≠ 60 ∧ d ≠ 62 ∧ (q = true → d ≠ 34)) (fun _ h => by cases h) fun l hl ih d hd => by
    rw [esc_step q hl] at hd
    rcases List.mem_append.1 hd with hd | hd
    · exact front_sign hd
    · exact ih d hd

/-- Each & in what is written begins a reference. -/
def okA (a : List UInt8) : Prop := ∀ i, a[i]? = some 38 → i + 3 < a.length ∧ (a[i + 1]? = some 97 ∨ a[i + 1]? = some 108 ∨ a[i + 1]? = some 103 ∨ a[i + 1]? = some 110)
theorem okA_append {a b : List UInt8} (ha : okA a) (hb : okA b) : okA (a ++ b) := by
  intro i hi
  by_cases h : i < a.length
  · rw [List.getElem?_append_left h] at hi
    obtain ⟨h1, h2⟩ := ha i hi
    rw [List.length_append, List.getElem?_append_left (by omega)]
    exact ⟨by omega, h2⟩
  · rw [List.getElem?_append_right (by omega)] at hi
    obtain ⟨h1, h2⟩ := hb _ hi
    rw [List.length_append, List.getElem?_append_right (by omega), show i + 1 - a.length = i - a.length + 1 by omega]
    exact ⟨by omega, h2⟩
theorem okA_lit {a : List UInt8} (h : ∀ i : Fin a.length, a[i.val]'i.isLt = 38 → i.val + 3 < a.length ∧ (a[i.val + 1]? = some 97 ∨ a[i.val + 1]? = some 108 ∨ a[i.val + 1]? = some 103 ∨ a[i.val + 1]? = some 110)) : okA a := by
  intro i hi
  have hl : i < a.length := by
    rcases Nat.lt_or_ge i a.length with hl | hg
    · exact hl
    · rw [List.getElem?_eq_none hg] at hi; cases hi
  rw [List.getElem?_eq_getElem hl] at hi
  exact h ⟨i, hl⟩ (Option.some.inj hi)
theorem okA_one (c : UInt8) : okA (one false c) := by
  unfold one
  by_cases h1 : c = 38
  · rw [if_pos h1]; exact okA_lit (by decide)
  · rw [if_neg h1]
    by_cases h2 : c = 60
    · rw [if_pos h2]; exact okA_lit (by decide)
    · rw [if_neg h2]
      by_cases h3 : c = 62
      · rw [if_pos h3]; exact okA_lit (by decide)
      · rw [if_neg h3, if_neg (fun h => Bool.noConfusion h.1)]
        intro i hi
        cases i with
        | zero => exact absurd (Option.some.inj hi) h1
        | succ i => simp at hi
theorem okA_esc : ∀ l, okA (esc false l) :=
  overL (fun i h => by simp [esc] at h) fun l hl ih => by
    rw [esc_step false hl]
    refine okA_append ?_ ih
    cases l with
    | nil => exact absurd rfl hl
    | cons c r =>
      rw [front_cons]
      split
      · exact okA_lit (by decide)
      · exact okA_one c

/-! ### What is written comes back -/
theorem scan_amp (r : List UInt8) : scanN (97 :: 109 :: 112 :: 59 :: r) names = ⟨38, 4, true⟩ := rfl
theorem scan_lt (r : List UInt8) : scanN (108 :: 116 :: 59 :: r) names = ⟨60, 3, true⟩ := rfl
theorem scan_gt (r : List UInt8) : scanN (103 :: 116 :: 59 :: r) names = ⟨62, 3, true⟩ := rfl
theorem scan_quot (r : List UInt8) : scanN (113 :: 117 :: 111 :: 116 :: 59 :: r) names = ⟨34, 5, true⟩ := rfl
theorem scan_nbsp (r : List UInt8) : scanN (110 :: 98 :: 115 :: 112 :: 59 :: r) names = ⟨160, 5, true⟩ := rfl
theorem take_name {c : UInt8} {l : List UInt8} {code n : Nat} (attr : Bool) (hc : c ≠ 35) (hs : scanN (c :: l) names = ⟨code, n + 1, true⟩) : (takeL (38 :: c :: l) attr).n = n + 2 ∧ (takeL (38 :: c :: l) attr).text = Utf8.encode code := by
  have h1 : takeL (38 :: c :: l) attr = refL (c :: l) attr := rfl
  have h2 : refL (c :: l) attr = nameL (c :: l) attr := by
    unfold refL
    rw [if_neg]
    simpa [hash] using hc
  rw [h1, h2]
  unfold nameL
  rw [hs]
  unfold endR
  dsimp only
  rw [if_neg (by omega), if_pos rfl]
  dsimp only
  exact ⟨by omega, rfl⟩
theorem all_name {c : UInt8} {l r : List UInt8} {code n : Nat} {b : List UInt8} (attr : Bool) (hc : c ≠ 35) (hs : scanN (c :: l) names = ⟨code, n + 1, true⟩) (hb : (Utf8.encode code).data.toList = b) (hr : (c :: l).drop (n + 1) = r) : allL attr (38 :: c :: l) = b ++ allL attr r := by
  obtain ⟨h1, h2⟩ := take_name attr hc hs
  rw [allL_some (by rw [h1]; omega), h1, h2, hb, ← hr]
  rfl
theorem enc38 : (Utf8.encode (38 : Nat)).data.toList = [38] := by decide +kernel
theorem enc60 : (Utf8.encode (60 : Nat)).data.toList = [60] := by decide +kernel
theorem enc62 : (Utf8.encode (62 : Nat)).data.toList = [62] := by decide +kernel
theorem enc34 : (Utf8.encode (34 : Nat)).data.toList = [34] := by decide +kernel
theorem enc160 : (Utf8.encode (160 : Nat)).data.toList = [194, 160] := by decide +kernel
theorem all_one (attr q : Bool) (c : UInt8) (r : List UInt8) : allL attr (one q c ++ r) = c :: allL attr r := by
  unfold one
  by_cases h1 : c = 38
  · rw [if_pos h1, h1]
    exact all_name attr (by decide) (scan_amp r) enc38 rfl
  · rw [if_neg h1]
    by_cases h2 : c = 60
    · rw [if_pos h2, h2]
      exact all_name attr (by decide) (scan_lt r) enc60 rfl
    · rw [if_neg h2]
      by_cases h3 : c = 62
      · rw [if_pos h3, h3]
        exact all_name attr (by decide) (scan_gt r) enc62 rfl
      · rw [if_neg h3]
        by_cases h4 : q = true ∧ c = 34
        · rw [if_pos h4, h4.2]
          exact all_name attr (by decide) (scan_quot r) enc34 rfl
        · rw [if_neg h4]
          refine allL_none ?_
          unfold takeL
          rw [if_neg]
          · rfl
          · simpa [amp] using h1
theorem all_esc (attr q : Bool) : ∀ l, allL attr (esc q l) = l :=
  overL rfl fun l hl ih => by
    rw [esc_step q hl]
    cases l with
    | nil => exact absurd rfl hl
    | cons c r =>
      rw [front_cons]
      by_cases hn : nbq (c :: r) = true
      · obtain ⟨t, ht⟩ := nbq_iff.1 hn
        have hf : far (c :: r) = 2 := if_pos hn
        rw [hf] at ih ⊢
        rw [if_pos hn, ht]
        rw [ht] at ih
        rw [show nbsp ++ esc q (List.drop 2 (194 :: 160 :: t)) = 38 :: 110 :: (98 :: 115 :: 112 :: 59 :: esc q (List.drop 2 (194 :: 160 :: t))) from rfl, all_name attr (by decide) (scan_nbsp _) enc160 rfl]
        exact congrArg ([194, 160] ++ ·) ih
      · have hf : far (c :: r) = 1 := if_neg hn
        rw [hf] at ih ⊢
        rw [if_neg hn, all_one]
        exact congrArg (c :: ·) ih
end Go.Proofs.Ytffllhohlfblnaa
