/-
  The document's reader as plain functions: what it looks for, and that a text that is ended early makes no difference.
-/
import Derived.Test.YtffllhohlfblnaaTP
namespace Go.Proofs.Ytffllhohlfblnaa

/-- Do these small bytes stand there, of letters of any size? -/
def lkL (t l : List UInt8) : Bool := decide (t.length ≤ l.length) && lowL (l.take t.length) == t
theorem lowB_other {c : UInt8} (h : letterP c = false) : lowB c = c := by
  unfold lowB
  rw [if_neg]
  rintro ⟨h1, h2⟩
  unfold letterP at h
  simp only [Bool.or_eq_false_iff, Bool.and_eq_false_iff, decide_eq_false_iff_not] at h
  omega
theorem lowB_iff {c d : UInt8} (h : letterP d = false) : lowB c = d ↔ c = d := by
  constructor
  · intro e
    by_cases hc : 65 ≤ c.toNat ∧ c.toNat ≤ 90
    · unfold lowB at e
      rw [if_pos hc] at e
      have hn : (c + 32).toNat = c.toNat + 32 := by
        rw [UInt8.toNat_add]
        have : (32 : UInt8).toNat = 32 := rfl
        omega
      rw [e] at hn
      unfold letterP at h
      simp only [Bool.or_eq_false_iff, Bool.and_eq_false_iff, decide_eq_false_iff_not] at h
      omega
    · unfold lowB at e
      rw [if_neg hc] at e
      exact e
  · rintro rfl
    exact lowB_other h
theorem lk_cons {f : UInt8} (hf : letterP f = false) (t : List UInt8) (c : UInt8) (l : List UInt8) : lkL (f :: t) (c :: l) = (f == c && lkL t l) := by
  unfold lkL
  simp only [List.length_cons, List.take_succ_cons, Nat.add_le_add_iff_right]
  have e : lowL (c :: l.take t.length) = lowB c :: lowL (l.take t.length) := rfl
  rw [e, List.cons_beq_cons]
  have e2 : (lowB c == f) = (f == c) := by
    rw [Bool.eq_iff_iff]
    simp only [beq_iff_eq]
    rw [lowB_iff hf]
    exact eq_comm
  rw [e2]
  cases decide (t.length ≤ l.length) <;> cases (f == c) <;> rfl
theorem lk_nil_cons (f : UInt8) (t : List UInt8) : lkL (f :: t) [] = false := by
  unfold lkL
  rw [decide_eq_false (by simp)]
  rfl
theorem lk_pre : ∀ (t l : List UInt8), (∀ c ∈ t, letterP c = false) → lkL t l = pre t l
  | [], l, _ => by simp [lkL, pre, lowL]
  | f :: t, [], _ => by rw [lk_nil_cons]; rfl
  | f :: t, c :: l, h => by
    rw [lk_cons (h f List.mem_cons_self), lk_pre t l (fun d hd => h d (List.mem_cons_of_mem _ hd))]
    rfl
theorem lk_any {f : UInt8} (hf : letterP f = false) (fr l : List UInt8) : lkL (f :: fr) l = anyG (f :: fr) l := by
  cases l with
  | nil =>
    rw [lk_nil_cons]
    unfold anyG
    rw [decide_eq_false (by simp)]
    rfl
  | cons c l =>
    rw [lk_cons hf]
    unfold anyG lkL
    simp only [List.length_cons, List.take_succ_cons, Nat.add_le_add_iff_right, List.head?_cons]
    have e : lowL (c :: l.take fr.length) = lowB c :: lowL (l.take fr.length) := rfl
    rw [e, List.cons_beq_cons]
    by_cases hc : c = f
    · subst hc
      rw [lowB_other hf]
      simp
    · have e1 : (f == c) = false := by simpa using fun h => hc h.symm
      have e2 : ((some c : Option UInt8) == some f) = false := by simpa using hc
      rw [e1, e2]
      simp

/-- The same reader, with other tokens and another text. -/
def TS.wt (s : TS) (T : List Tk) (X : List UInt8) (a : Nat) : TS := { s with toks := T, text := X, tat := a }
theorem wt_self (s : TS) : s.wt s.toks s.text s.tat = s := rfl
theorem cutIf_wt (s : TS) (T : List Tk) (X : List UInt8) (a : Nat) (f : List UInt8) : (s.wt T X a).cutIf f = (s.cutIf f).wt T X a := by
  unfold TS.cutIf
  show (if pre f s.rest = true then _ else _) = _
  split <;> rfl
theorem val2_wt (s : TS) (T : List Tk) (X : List UInt8) (a : Nat) : (s.wt T X a).val2 = ⟨s.val2.st.wt T X a, s.val2.v, s.val2.ok⟩ := by
  unfold TS.val2
  show (if pre [34] s.rest = true then _ else if pre [39] s.rest = true then _ else if pre [62] s.rest = true then _ else _) = _
  split
  · unfold TS.quoted
    show Val.mk (((s.cut 1).wt T X a).cutTo _ |>.cutIf _) _ _ = _
    rw [show ((s.cut 1).wt T X a).cutTo (hdIn [34]) = ((s.cut 1).cutTo (hdIn [34])).wt T X a from rfl, cutIf_wt]
    rfl
  · split
    · unfold TS.quoted
      show Val.mk (((s.cut 1).wt T X a).cutTo _ |>.cutIf _) _ _ = _
      rw [show ((s.cut 1).wt T X a).cutTo (hdIn [39]) = ((s.cut 1).cutTo (hdIn [39])).wt T X a from rfl, cutIf_wt]
      rfl
    · split <;> rfl
theorem value_wt (s : TS) (T : List Tk) (X : List UInt8) (a : Nat) : (s.wt T X a).value = ⟨s.value.st.wt T X a, s.value.v, s.value.ok⟩ := by
  unfold TS.value
  show (if pre [61] (s.cutTo (hdOut blk)).rest = true then ((((s.cutTo (hdOut blk)).cut 1).cutTo (hdOut blk)).wt T X a).val2 else _) = _
  split
  · exact val2_wt _ _ _ _
  · rfl
theorem first_wt (s : TS) (T : List Tk) (X : List UInt8) (a : Nat) : (s.wt T X a).first = s.first.wt T X a := by
  unfold TS.first
  show (if s.rest.take 1 = [61] then _ else _) = _
  split <;> rfl
theorem aname_wt (s : TS) (T : List Tk) (X : List UInt8) (a : Nat) : (s.wt T X a).aname = s.aname := by
  unfold TS.aname
  rw [first_wt]
  rfl
theorem attr_wt (s : TS) (T : List Tk) (X : List UInt8) (a : Nat) (l : List Atr) : (s.wt T X a).attr l = ⟨(s.attr l).st.wt T X a, (s.attr l).attrs⟩ := by
  unfold TS.attr
  rw [first_wt, aname_wt, show (s.first.wt T X a).cutTo (hdIn [9, 10, 12, 32, 47, 62, 61]) = (s.first.cutTo (hdIn [9, 10, 12, 32, 47, 62, 61])).wt T X a from rfl, value_wt]
  dsimp only
  split
  · split <;> rfl
  · rfl
theorem tagF_wt (T : List Tk) (X : List UInt8) (a : Nat) : ∀ (f : Nat) (s : TS) (l : List Atr), TS.tagF f (s.wt T X a) l = ⟨(TS.tagF f s l).st.wt T X a, (TS.tagF f s l).attrs, (TS.tagF f s l).self, (TS.tagF f s l).ok⟩
  | 0, _, _ => rfl
  | f + 1, s, l => by
    rw [tagF_succ, tagF_succ]
    show (if (s.cutTo (hdOut sla)).rest = [] then _ else if pre [62] (s.cutTo (hdOut sla)).rest = true then _ else TS.tagF f (((s.cutTo (hdOut sla)).wt T X a).attr l).st (((s.cutTo (hdOut sla)).wt T X a).attr l).attrs) = _
    rw [attr_wt]
    dsimp only
    split
    · rfl
    · split
      · rfl
      · exact tagF_wt T X a f _ _
theorem tagF_end : ∀ (f : Nat) (s : TS) (l : List Atr), s.rest.length < f → (TS.tagF f s l).ok = false → (TS.tagF f s l).st.rest = []
  | 0, s, l, h, _ => absurd h (Nat.not_lt_zero _)
  | f + 1, s, l, h, ho => by
    rw [tagF_succ] at ho ⊢
    split
    · rename_i h1
      exact h1
    · rename_i h1
      rw [if_neg h1] at ho
      split
      · rename_i h2
        rw [if_pos h2] at ho
        cases ho
      · rename_i h2
        rw [if_neg h2] at ho
        have hlt := attr_lt h1 l
        have hle : (s.cutTo (hdOut sla)).rest.length ≤ s.rest.length := (mv_cutTo s (hdOut sla)).le
        exact tagF_end f _ _ (by omega) ho
theorem endT_endT (s : TS) : s.endT.endT = s.endT := by
  by_cases h : s.text = []
  · have e : s.endT = s := by unfold TS.endT; rw [if_pos h]
    rw [e, e]
  · have e : s.endT.text = [] := by unfold TS.endT; rw [if_neg h]
    have e2 : ∀ u : TS, u.text = [] → u.endT = u := fun u hu => by unfold TS.endT; rw [if_pos hu]
    exact e2 _ e
theorem add_endT (s : TS) (t : Tk) : s.endT.add t = s.add t := by
  unfold TS.add
  rw [endT_endT]
theorem cut_endT (s : TS) (n : Nat) : s.endT.cut n = (s.cut n).endT := by
  unfold TS.endT
  show _ = if s.text = [] then _ else _
  split <;> rfl
theorem endT_run_nil {s : TS} (h : s.rest = []) : s.endT.run = s.run := by
  have h2 : s.endT.rest = [] := by unfold TS.endT; split <;> exact h
  rw [run_nil h, run_nil h2, endT_endT]
/-- A TEXT THAT IS ENDED AHEAD OF A TAG MAKES NO DIFFERENCE. -/
theorem flush_tag (s : TS) (k a : Nat) : (s.endT.tag k a).run = (s.tag k a).run := by
  by_cases h0 : s.text = []
  · have : s.endT = s := by unfold TS.endT; rw [if_pos h0]
    rw [this]
  · have hE : s.endT = s.wt (s.toks ++ [⟨3, [], [], false, s.text, s.tat⟩]) [] s.tat := by unfold TS.endT; rw [if_neg h0]; rfl
    obtain ⟨T, hT⟩ : ∃ T, s.toks ++ [⟨3, [], [], false, s.text, s.tat⟩] = T := ⟨_, rfl⟩
    rw [hT] at hE
    rw [hE]
    obtain ⟨c, hc⟩ : ∃ c, s.cutTo (hdIn tgE) = c := ⟨_, rfl⟩
    have hc2 : (s.wt T [] s.tat).cutTo (hdIn tgE) = c.wt T [] s.tat := by rw [← hc]; rfl
    obtain ⟨r, hr⟩ : ∃ r, TS.tagF c.rest.length.succ c [] = r := ⟨_, rfl⟩
    have hr2 : TS.tagF (c.wt T [] s.tat).rest.length.succ (c.wt T [] s.tat) [] = ⟨r.st.wt T [] s.tat, r.attrs, r.self, r.ok⟩ := by
      rw [← hr]
      exact tagF_wt T [] s.tat _ c []
    have hself : r.st = r.st.wt s.toks s.text s.tat := by
      have := tagF_wt s.toks s.text s.tat c.rest.length.succ c []
      rw [show c.wt s.toks s.text s.tat = c by rw [← hc]; rfl, hr] at this
      exact congrArg Tg.st this
    have hadd : ∀ t, (r.st.wt T [] s.tat).add t = r.st.add t := by
      intro t
      rw [hself]
      unfold TS.add TS.endT
      show _ = TS.mk _ _ (TS.toks (if s.text = [] then _ else _) ++ [t]) _ _ _
      rw [if_neg h0, ← hT]
      simp [TS.wt, h0]
    have hf : (s.wt T [] s.tat).front (hdIn tgE) = s.front (hdIn tgE) := rfl
    unfold TS.tag
    rw [hc2, hr2, hc, hr, hf]
    dsimp only
    rw [hadd, hadd]
    split
    · rfl
    · rename_i hok
      have hrest : r.st.rest = [] := by rw [← hr]; exact tagF_end _ _ _ (Nat.lt_succ_self _) (by rw [hr]; simpa using hok)
      rw [run_nil hrest, run_nil (s := r.st.wt T [] s.tat) hrest]
      have e1 : (r.st.wt T [] s.tat).endT = r.st.wt T [] s.tat := by unfold TS.endT; exact if_pos rfl
      rw [e1]
      have e2 : r.st.endT = (r.st.wt s.toks s.text s.tat).endT := congrArg TS.endT hself
      rw [e2]
      unfold TS.endT
      show _ = if s.text = [] then _ else _
      rw [if_neg h0, ← hT]
      rfl
theorem upTo_spec (p : List UInt8 → Bool) : ∀ l : List UInt8, l.drop (upTo p l) = [] ∨ p (l.drop (upTo p l)) = true
  | [] => .inl rfl
  | c :: r => by
    unfold upTo
    split
    · rename_i h; exact .inr h
    · exact upTo_spec p r
/-- What stands at the end of a tag's beginning. -/
theorem run_close {s : TS} {c : UInt8} {r : List UInt8} (h : s.rest = 60 :: 47 :: c :: r) (hc : letterP c = true) : s.run = ((s.cut 2).tag 2 s.pl).run := by
  rw [run_lt h]
  unfold TS.markup TS.opened
  have h1 : (s.cut 1).rest = 47 :: c :: r := by show s.rest.drop 1 = _; rw [h]; rfl
  have h2 : (s.cut 2).rest = c :: r := by show s.rest.drop 2 = _; rw [h]; rfl
  rw [h1, if_neg (show ¬ begL (47 :: c :: r) = true from fun h => by cases (show letterP 47 = true from h)), if_pos (show pre [47] (47 :: c :: r) = true from rfl), cut_cut]
  unfold TS.ending
  rw [h2, if_pos (show begL (c :: r) = true from hc)]
theorem kind_letter {name : List UInt8} (h : softP name = true ∨ rawP name = true) : ∃ d r, name = d :: r ∧ 97 ≤ d.toNat ∧ d.toNat ≤ 122 := by
  have key : ∀ L : List (List UInt8), (∀ x ∈ L, ∃ d r, x = d :: r ∧ 97 ≤ d.toNat ∧ d.toNat ≤ 122) → L.any (name == ·) = true → ∃ d r, name = d :: r ∧ 97 ≤ d.toNat ∧ d.toNat ≤ 122 := by
    intro L hL ha
    obtain ⟨x, hx, e⟩ := List.any_eq_true.1 ha
    have : name = x := by simpa using e
    exact this ▸ hL x hx
  rcases h with h | h
  · refine key softL ?_ h
    intro x hx
    simp only [softL, List.mem_cons, List.not_mem_nil, or_false] at hx
    rcases hx with rfl | rfl <;> exact ⟨_, _, rfl, by decide, by decide⟩
  · refine key rawL ?_ h
    intro x hx
    simp only [rawL, List.mem_cons, List.not_mem_nil, or_false] at hx
    rcases hx with rfl | rfl | rfl | rfl | rfl | rfl <;> exact ⟨_, _, rfl, by decide, by decide⟩
theorem lowB_letter {c d : UInt8} (h : lowB c = d) (h1 : 97 ≤ d.toNat) (h2 : d.toNat ≤ 122) : letterP c = true := by
  rcases Bool.eq_false_or_eq_true (letterP c) with hc | hc
  · exact hc
  rw [lowB_other hc] at h
  rw [h] at hc
  unfold letterP at hc
  simp [h1, h2] at hc
theorem close_shape {name l : List UInt8} (hk : softP name = true ∨ rawP name = true) (h : endOfP name l = true) : ∃ c r, l = 60 :: 47 :: c :: r ∧ letterP c = true := by
  obtain ⟨d, nr, hn, h1, h2⟩ := kind_letter hk
  unfold endOfP at h
  rw [Bool.and_eq_true] at h
  have ha := h.1
  rw [← lk_any (by decide)] at ha
  cases l with
  | nil => rw [lk_nil_cons] at ha; cases ha
  | cons c0 l =>
    rw [lk_cons (by decide), Bool.and_eq_true] at ha
    have e0 : c0 = 60 := (by simpa using ha.1 : (60 : UInt8) = c0).symm
    cases l with
    | nil => rw [lk_nil_cons] at ha; cases ha.2
    | cons c1 l =>
      rw [lk_cons (by decide), Bool.and_eq_true] at ha
      have e1 : c1 = 47 := (by simpa using ha.2.1 : (47 : UInt8) = c1).symm
      have hb := ha.2.2
      rw [hn] at hb
      cases l with
      | nil => rw [lk_nil_cons] at hb; cases hb
      | cons c2 l =>
        refine ⟨c2, l, by rw [e0, e1], ?_⟩
        unfold lkL at hb
        simp only [List.length_cons, List.take_succ_cons, Bool.and_eq_true] at hb
        have e : lowL (c2 :: l.take nr.length) = lowB c2 :: lowL (l.take nr.length) := rfl
        rw [e, List.cons_beq_cons, Bool.and_eq_true] at hb
        exact lowB_letter (by simpa using hb.2.1) h1 h2
/-- A TEXT THAT IS READ AS IT IS MAY BE ENDED AT ONCE. -/
theorem flush_inside {s : TS} (h0 : s.text = []) (name : List UInt8) : (s.inside name).endT.run = (s.inside name).run := by
  by_cases hk : softP name = true ∨ rawP name = true
  · have hm : (s.inside name).rest = s.rest.drop (upTo (endOfP name) s.rest) ∧ True := by
      unfold TS.inside
      split
      · exact ⟨(addT_rest _ _ _).1, trivial⟩
      · rename_i h1
        rw [if_pos (by rcases hk with h | h; exact absurd h h1; exact h)]
        exact ⟨(addT_rest _ _ _).1, trivial⟩
    rcases upTo_spec (endOfP name) s.rest with h | h
    · exact endT_run_nil (hm.1.trans h)
    · obtain ⟨c, r, e, hc⟩ := close_shape hk h
      have hr := hm.1.trans e
      have hr2 : (s.inside name).endT.rest = 60 :: 47 :: c :: r := by
        rw [← hr]
        unfold TS.endT
        split <;> rfl
      have hp : (s.inside name).endT.pl = (s.inside name).pl := by
        unfold TS.endT
        split <;> rfl
      rw [run_close hr hc, run_close hr2 hc, hp, cut_endT, flush_tag]
  · have : s.inside name = s := by
      unfold TS.inside
      rw [if_neg (fun h => hk (.inl h)), if_neg (fun h => hk (.inr h))]
    rw [this]
    have : s.endT = s := by unfold TS.endT; rw [if_pos h0]
    rw [this]
/-- Where a value breaks off, all has been read. -/
theorem quoted_end {s : TS} {q : UInt8} (h : (s.quoted q).ok = false) : (s.quoted q).st.rest = [] := by
  have h1 : pre [q] (s.cutTo (hdIn [q])).rest = false := h
  have h2 : (s.quoted q).st = (s.cutTo (hdIn [q])).cutIf [q] := rfl
  rw [h2]
  unfold TS.cutIf
  rw [h1, if_neg (by decide)]
  rcases upTo_spec (hdIn [q]) s.rest with h3 | h3
  · exact h3
  · exfalso
    have h4 : (s.cutTo (hdIn [q])).rest = s.rest.drop (upTo (hdIn [q]) s.rest) := rfl
    rw [h4] at h1
    cases hl : s.rest.drop (upTo (hdIn [q]) s.rest) with
    | nil => rw [hl] at h3; cases h3
    | cons c r =>
      rw [hl] at h1 h3
      have e3 : ([q] : List UInt8).contains c = true := h3
      have e : c = q := by simpa using e3
      rw [e] at h1
      simp [pre] at h1
theorem value_end {s : TS} (h : s.value.ok = false) : s.value.st.rest = [] := by
  unfold TS.value at h ⊢
  split
  · rename_i h1
    rw [if_pos h1] at h
    unfold TS.val2 at h ⊢
    split
    · rename_i h2; rw [if_pos h2] at h; exact quoted_end h
    · rename_i h2
      rw [if_neg h2] at h
      split
      · rename_i h3; rw [if_pos h3] at h; exact quoted_end h
      · rename_i h3
        rw [if_neg h3] at h
        split at h <;> cases h
  · rename_i h1
    rw [if_neg h1] at h
    cases h
end Go.Proofs.Ytffllhohlfblnaa
