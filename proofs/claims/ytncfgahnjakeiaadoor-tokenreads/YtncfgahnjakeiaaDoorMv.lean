/-
  How far the reader of tokens comes, and how much room it wants: no program is named but in what is imported.
-/
import Derived.Test.YtncfgahnjakeiaaDoorTkU
import Derived.Test.YtncfgahnjakeiaaDoorTkL
namespace Go.Proofs.YtncfgahnjakeiaaDoor

/-- Some bytes further. -/
def Mv (s s' : TS) : Prop := ∃ n, n ≤ s.rest.length ∧ s'.rest = s.rest.drop n ∧ s'.pl = s.pl + n
theorem Mv.refl (s : TS) : Mv s s := ⟨0, Nat.zero_le _, rfl, rfl⟩
theorem Mv.of {s s' : TS} (h1 : s'.rest = s.rest) (h2 : s'.pl = s.pl) : Mv s s' := ⟨0, Nat.zero_le _, h1, h2⟩
theorem Mv.trans {a b c : TS} (h : Mv a b) (k : Mv b c) : Mv a c := by
  obtain ⟨n, h1, h2, h3⟩ := h
  obtain ⟨m, k1, k2, k3⟩ := k
  rw [h2, List.length_drop] at k1
  exact ⟨n + m, by omega, by rw [k2, h2, List.drop_drop], by omega⟩
theorem Mv.le {a b : TS} (h : Mv a b) : b.rest.length ≤ a.rest.length := by
  obtain ⟨n, h1, h2, _⟩ := h
  rw [h2, List.length_drop]
  omega
theorem Mv.sum {a b : TS} (h : Mv a b) : b.pl + b.rest.length = a.pl + a.rest.length := by
  obtain ⟨n, h1, h2, h3⟩ := h
  rw [h2, List.length_drop]
  omega
theorem Mv.pl {a b : TS} (h : Mv a b) : a.pl ≤ b.pl := by
  obtain ⟨n, _, _, h3⟩ := h
  omega
theorem mv_cut (s : TS) {n : Nat} (h : n ≤ s.rest.length) : Mv s (s.cut n) := ⟨n, h, rfl, rfl⟩
theorem mv_flt (s : TS) (k a : Nat) : Mv s (s.flt k a) := .of rfl rfl
theorem mv_endT (s : TS) : Mv s s.endT := by unfold TS.endT; split; exact .refl _; exact .of rfl rfl
theorem mv_add (s : TS) (t : Tk) : Mv s (s.add t) := (mv_endT s).trans (.of rfl rfl)
theorem mv_addT (s : TS) (p : List UInt8) (a : Nat) : Mv s (s.addT p a) := by unfold TS.addT; split; exact .refl _; exact .of rfl rfl
theorem mv_cutTo (s : TS) (p : List UInt8 → Bool) : Mv s (s.cutTo p) := mv_cut s (upTo_le p s.rest)
theorem mv_cutIf (s : TS) (f : List UInt8) : Mv s (s.cutIf f) := by
  unfold TS.cutIf
  split
  · rename_i h
    exact mv_cut s (pre_length h)
  · exact .refl _
theorem mv_cmt (s : TS) (d : List UInt8) (a : Nat) : Mv s (s.cmt d a) := mv_add s _
theorem mv_fltIf (s : TS) (k a : Nat) : Mv s (s.fltIf k a) := by unfold TS.fltIf; split; exact .refl _; exact mv_flt _ _ _
theorem mv_refr (s : TS) (h : s.rest ≠ []) : Mv s s.refr ∧ s.refr.rest.length < s.rest.length := by
  have hp : 0 < s.rest.length := List.length_pos_iff.2 h
  have hn := takeL_n s.rest false
  have hr : (s.fltIf (takeL s.rest false).fault s.pl).rest = s.rest := by unfold TS.fltIf; split <;> rfl
  have hle : (if (takeL s.rest false).n = 0 then 1 else (takeL s.rest false).n) ≤ s.rest.length := by split <;> omega
  have hpos : 1 ≤ (if (takeL s.rest false).n = 0 then 1 else (takeL s.rest false).n) := by split <;> omega
  have m1 := mv_cut (s.fltIf (takeL s.rest false).fault s.pl) (n := (if (takeL s.rest false).n = 0 then 1 else (takeL s.rest false).n)) (by rw [hr]; exact hle)
  have m2 := mv_addT ((s.fltIf (takeL s.rest false).fault s.pl).cut (if (takeL s.rest false).n = 0 then 1 else (takeL s.rest false).n)) (if (takeL s.rest false).n = 0 then [38] else (takeL s.rest false).text.data.toList) s.pl
  refine ⟨((mv_fltIf s _ _).trans m1).trans m2, ?_⟩
  refine Nat.lt_of_le_of_lt m2.le ?_
  simp only [TS.cut, List.length_drop, hr]
  omega
theorem mv_note (s : TS) (a : Nat) : Mv s (s.note a) := (((mv_flt s 7 a).trans (mv_cutTo _ _)).trans (mv_cmt _ _ _)).trans (mv_cutIf _ _)
theorem mv_cmtEnd (s : TS) (a : Nat) : Mv s (s.cmtEnd a) := by
  unfold TS.cmtEnd
  split
  · exact mv_flt _ _ _
  · split
    · rename_i h
      exact mv_cut s (pre_length h)
    · exact (mv_cutIf _ _).trans (mv_flt _ _ _)
theorem mv_comment (s : TS) (a : Nat) : Mv s (s.comment a) := by
  unfold TS.comment
  split
  · rename_i h
    exact ((mv_cut s (n := 1) (pre_length h)).trans (mv_flt _ _ _)).trans (mv_cmt _ _ _)
  · split
    · rename_i h
      exact ((mv_cut s (n := 2) (pre_length h)).trans (mv_flt _ _ _)).trans (mv_cmt _ _ _)
    · exact ((mv_cutTo s _).trans (mv_cmtEnd _ _)).trans (mv_cmt _ _ _)
theorem mv_dtEnd (s : TS) : Mv s s.dtEnd := by
  unfold TS.dtEnd
  split
  · rename_i h
    exact mv_cut s (pre_length h)
  · exact mv_flt _ _ _
theorem mv_doctype (s : TS) (a : Nat) : Mv s (s.doctype a) := ((((mv_cutTo s _).trans (mv_cutTo _ _)).trans (mv_cutTo _ _)).trans (mv_dtEnd _)).trans (mv_add _ _)
theorem mv_val2 (s : TS) : Mv s s.val2.st := by
  unfold TS.val2
  split
  · rename_i h
    exact ((mv_cut s (n := 1) (pre_length h)).trans (mv_cutTo _ _)).trans (mv_cutIf _ _)
  · split
    · rename_i h
      exact ((mv_cut s (n := 1) (pre_length h)).trans (mv_cutTo _ _)).trans (mv_cutIf _ _)
    · split
      · exact mv_flt _ _ _
      · exact mv_cutTo _ _
theorem mv_value (s : TS) : Mv s s.value.st := by
  unfold TS.value
  split
  · rename_i h
    exact (((mv_cutTo s _).trans (mv_cut _ (n := 1) (pre_length h))).trans (mv_cutTo _ _)).trans (mv_val2 _)
  · exact mv_cutTo _ _
theorem mv_first (s : TS) (h : s.rest ≠ []) : Mv s s.first := by
  have hp : 1 ≤ s.rest.length := List.length_pos_iff.2 h
  unfold TS.first
  split
  · exact (mv_cut s hp).trans (mv_flt _ _ _)
  · exact mv_cut s hp
theorem mv_attr (s : TS) (h : s.rest ≠ []) (l : List Atr) : Mv s (s.attr l).st := by
  have m := ((mv_first s h).trans (mv_cutTo _ (hdIn atE))).trans (mv_value _)
  unfold TS.attr
  split
  · split
    · exact m.trans (mv_flt _ _ _)
    · exact m
  · exact m
theorem mv_tagF : ∀ (f : Nat) (s : TS) (l : List Atr), Mv s (TS.tagF f s l).st
  | 0, s, _ => Mv.refl s
  | f + 1, s, l => by
    rw [tagF_succ]
    split
    · exact (mv_cutTo s _).trans (mv_flt _ _ _)
    · rename_i hne
      split
      · rename_i h
        exact (mv_cutTo s _).trans (mv_cut _ (n := 1) (pre_length h))
      · exact ((mv_cutTo s _).trans (mv_attr _ hne l)).trans (mv_tagF f _ _)
theorem mv_inside (s : TS) (name : List UInt8) : Mv s (s.inside name) := by
  unfold TS.inside
  split
  · exact (mv_cutTo s _).trans (mv_addT _ _ _)
  · split
    · exact (mv_cutTo s _).trans (mv_addT _ _ _)
    · exact .refl _
theorem mv_tag (s : TS) (k a : Nat) : Mv s (s.tag k a) := by
  have m := (mv_cutTo s (hdIn tgE)).trans (mv_tagF (s.cutTo (hdIn tgE)).rest.length.succ (s.cutTo (hdIn tgE)) [])
  unfold TS.tag
  split
  · split
    · exact m.trans (mv_add _ _)
    · exact (m.trans (mv_add _ _)).trans (mv_inside _ _)
  · exact m
theorem mv_ending (s : TS) (a : Nat) : Mv s (s.ending a) := by
  unfold TS.ending
  split
  · exact mv_tag _ _ _
  · split
    · exact (mv_flt _ _ _).trans (mv_addT _ _ _)
    · split
      · rename_i h
        exact (mv_cut s (n := 1) (pre_length h)).trans (mv_flt _ _ _)
      · exact mv_note _ _
theorem mv_opened (s : TS) (a : Nat) : Mv s (s.opened a) := by
  unfold TS.opened
  split
  · exact mv_tag _ _ _
  · split
    · rename_i h
      exact (mv_cut s (n := 1) (pre_length h)).trans (mv_ending _ _)
    · split
      · rename_i h
        exact (mv_cut s (n := 3) (pre_length h)).trans (mv_comment _ _)
      · split
        · rename_i h
          exact (mv_cut s (n := 8) (by unfold anyG at h; rw [Bool.and_eq_true] at h; exact of_decide_eq_true h.1)).trans (mv_doctype _ _)
        · split
          · rename_i h
            exact (mv_cut s (n := 1) (pre_length h)).trans (mv_note _ _)
          · split
            · exact mv_note _ _
            · exact (mv_flt _ _ _).trans (mv_addT _ _ _)
theorem mv_markup (s : TS) (h : s.rest ≠ []) : Mv s s.markup ∧ s.markup.rest.length < s.rest.length := by
  have hp : 1 ≤ s.rest.length := List.length_pos_iff.2 h
  have m := mv_opened (s.cut 1) s.pl
  refine ⟨(mv_cut s hp).trans m, Nat.lt_of_le_of_lt m.le ?_⟩
  simp only [TS.cut, List.length_drop]
  omega
theorem upTo_pos {p : List UInt8 → Bool} {c : UInt8} {r : List UInt8} (h : p (c :: r) = false) : 1 ≤ upTo p (c :: r) := by
  rw [upTo_cons, if_neg (by rw [h]; decide)]
  omega
theorem hd3 {c : UInt8} (h1 : c ≠ 60) (h2 : c ≠ 38) (h3 : c ≠ 0) (r : List UInt8) : hdIn [60, 38, 0] (c :: r) = false := by
  show ([60, 38, 0] : List UInt8).contains c = false
  simp [h1, h2, h3]
theorem next_cons {s : TS} {c : UInt8} {r : List UInt8} (h : s.rest = c :: r) : s.next = if c = 60 then s.markup else if c = 38 then s.refr else if c = 0 then (s.flt 3 s.pl).cut 1 else (s.cutTo (hdIn [60, 38, 0])).addT (s.front (hdIn [60, 38, 0])) s.pl := by
  unfold TS.next
  rw [h]
theorem mv_next (s : TS) (h : s.rest ≠ []) : Mv s s.next ∧ s.next.rest.length < s.rest.length := by
  have hp : 1 ≤ s.rest.length := List.length_pos_iff.2 h
  obtain ⟨c, r, hr⟩ : ∃ c r, s.rest = c :: r := by
    cases hh : s.rest with
    | nil => exact absurd hh h
    | cons c r => exact ⟨c, r, rfl⟩
  rw [next_cons hr]
  by_cases h1 : c = 60
  · rw [if_pos h1]; exact mv_markup s h
  · rw [if_neg h1]
    by_cases h2 : c = 38
    · rw [if_pos h2]; exact mv_refr s h
    · rw [if_neg h2]
      by_cases h3 : c = 0
      · rw [if_pos h3]
        refine ⟨(mv_flt s 3 s.pl).trans (mv_cut _ hp), ?_⟩
        simp only [TS.cut, TS.flt, List.length_drop]
        omega
      · rw [if_neg h3]
        have m := mv_addT (s.cutTo (hdIn [60, 38, 0])) (s.front (hdIn [60, 38, 0])) s.pl
        refine ⟨(mv_cutTo s _).trans m, Nat.lt_of_le_of_lt m.le ?_⟩
        have := upTo_pos (p := hdIn [60, 38, 0]) (hd3 h1 h2 h3 r)
        rw [← hr] at this
        simp only [TS.cutTo, TS.cut, List.length_drop]
        omega

/-! ### Room -/
theorem Fit.note {b : Nat} {s : TS} (h : Fit b s) (a : Nat) : Fit (b + 2) (s.note a) := (((h.flt 7 a).cutTo _).cmt _ _).cutIf _
theorem Fit.comment {b : Nat} {s : TS} (h : Fit b s) (a : Nat) : Fit (b + 2) (s.comment a) := by
  unfold TS.comment
  split
  · rename_i hp
    exact ((((h.cut (n := 1) (pre_length hp)).mono (b' := b) (by omega)).flt 7 a).cmt _ _)
  · split
    · rename_i hp
      exact ((((h.cut (n := 2) (pre_length hp)).mono (b' := b) (by omega)).flt 7 a).cmt _ _)
    · exact ((h.cutTo _).cmtEnd a).cmt _ _
theorem Fit.doctype {b : Nat} {s : TS} (h : Fit b s) (a : Nat) : Fit (b + 2) (s.doctype a) := ((((h.cutTo _).cutTo _).cutTo _).dtEnd).add _
theorem Fit.tagF {b : Nat} : ∀ (f : Nat) {s : TS} (l : List Atr), Fit b s → Fit (b + 1) (TS.tagF f s l).st
  | 0, _, _, h => h.mono (by omega)
  | f + 1, s, l, h => by
    rw [tagF_succ]
    split
    · exact (h.cutTo _).flt _ _
    · rename_i hne
      split
      · rename_i hp
        exact ((h.cutTo _).cut (n := 1) (pre_length hp)).mono (by omega)
      · exact Fit.tagF f _ ((h.cutTo _).attr hne l)
theorem Fit.inside {b : Nat} {s : TS} (h : Fit b s) (name : List UInt8) : Fit b (s.inside name) := by
  have hc := h.cut (upTo_le (endOfP name) s.rest)
  have hfr : (s.front (endOfP name)).length = upTo (endOfP name) s.rest := by
    unfold TS.front
    rw [List.length_take]
    have := upTo_le (endOfP name) s.rest
    omega
  have hcl := cleanL_length (s.front (endOfP name))
  have hal := allL_length false _ (cleanL (s.front (endOfP name))) (Nat.le_refl _)
  have hb : 16 * upTo (endOfP name) s.rest ≤ b := by
    have := h.room
    have := upTo_le (endOfP name) s.rest
    unfold pot at *
    omega
  unfold TS.inside
  split
  · exact (hc.addT _ _).mono (by omega)
  · split
    · exact (hc.addT _ _).mono (by omega)
    · exact h
theorem Fit.tag {b : Nat} {s : TS} (h : Fit b s) (k a : Nat) : Fit (b + 2) (s.tag k a) := by
  have m := Fit.tagF (s.cutTo (hdIn tgE)).rest.length.succ [] (h.cutTo (hdIn tgE))
  unfold TS.tag
  split
  · split
    · exact m.add _
    · exact (m.add _).inside _
  · exact m.mono (by omega)
theorem Fit.ending {b : Nat} {s : TS} (h : Fit b s) (a : Nat) : Fit (b + 3) (s.ending a) := by
  unfold TS.ending
  split
  · exact (h.tag _ _).mono (by omega)
  · split
    · exact ((h.flt 6 a).addT [60, 47] a).mono (by simp only [List.length_cons, List.length_nil]; omega)
    · split
      · rename_i hp
        exact ((h.cut (n := 1) (pre_length hp)).flt 4 a).mono (by omega)
      · exact (h.note a).mono (by omega)
theorem Fit.opened {b : Nat} {s : TS} (h : Fit b s) (a : Nat) : Fit (b + 3) (s.opened a) := by
  unfold TS.opened
  split
  · exact (h.tag _ _).mono (by omega)
  · split
    · rename_i hp
      exact ((h.cut (n := 1) (pre_length hp)).ending a).mono (by omega)
    · split
      · rename_i hp
        exact ((h.cut (n := 3) (pre_length hp)).comment a).mono (by omega)
      · split
        · rename_i hp
          exact ((h.cut (n := 8) (by unfold anyG at hp; rw [Bool.and_eq_true] at hp; exact of_decide_eq_true hp.1)).doctype a).mono (by omega)
        · split
          · rename_i hp
            exact ((h.cut (n := 1) (pre_length hp)).note a).mono (by omega)
          · split
            · exact (h.note a).mono (by omega)
            · exact ((h.flt 4 a).addT [60] a).mono (by simp only [List.length_cons, List.length_nil]; omega)
theorem Fit.next {b : Nat} {s : TS} (h : Fit b s) (hne : s.rest ≠ []) : Fit b s.next := by
  have hp : 1 ≤ s.rest.length := List.length_pos_iff.2 hne
  have hb : 16 * s.rest.length ≤ b := by have := h.room; unfold pot at this; omega
  obtain ⟨c, r, hr⟩ : ∃ c r, s.rest = c :: r := by
    cases hh : s.rest with
    | nil => exact absurd hh hne
    | cons c r => exact ⟨c, r, rfl⟩
  rw [next_cons hr]
  by_cases h1 : c = 60
  · rw [if_pos h1]; exact ((h.cut hp).opened s.pl).mono (by omega)
  · rw [if_neg h1]
    by_cases h2 : c = 38
    · rw [if_pos h2]
      have hn := takeL_n s.rest false
      have htx := text_le s.rest false
      have hr' : (s.fltIf (takeL s.rest false).fault s.pl).rest = s.rest := by unfold TS.fltIf; split <;> rfl
      have hle : (if (takeL s.rest false).n = 0 then 1 else (takeL s.rest false).n) ≤ s.rest.length := by split <;> omega
      have hpos : 1 ≤ (if (takeL s.rest false).n = 0 then 1 else (takeL s.rest false).n) := by split <;> omega
      have htl : (if (takeL s.rest false).n = 0 then [38] else (takeL s.rest false).text.data.toList).length ≤ 4 := by
        split
        · decide
        · exact htx
      have fx : Fit (b + 1) (s.fltIf (takeL s.rest false).fault s.pl) := by
        unfold TS.fltIf
        split
        · exact h.mono (by omega)
        · exact h.flt _ _
      exact ((fx.cut (n := (if (takeL s.rest false).n = 0 then 1 else (takeL s.rest false).n)) (by rw [hr']; exact hle)).addT _ _).mono (by omega)
    · rw [if_neg h2]
      by_cases h3 : c = 0
      · rw [if_pos h3]; exact ((h.flt 3 s.pl).cut (n := 1) hp).mono (by omega)
      · rw [if_neg h3]
        have hu := upTo_le (hdIn [60, 38, 0]) s.rest
        have hfr : (s.front (hdIn [60, 38, 0])).length ≤ upTo (hdIn [60, 38, 0]) s.rest := by unfold TS.front; rw [List.length_take]; omega
        exact ((h.cut hu).addT _ _).mono (by omega)
end Go.Proofs.YtncfgahnjakeiaaDoor
