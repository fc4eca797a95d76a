/-
  How many tokens, faults and attributes there are, at most.
-/
import Derived.Test.YtncfgahnjakeiaaDoorSh
import Derived.Test.YtncfgahnjakeiaaDoorSame
namespace Go.Proofs.YtncfgahnjakeiaaDoor

theorem Fit.runF {b : Nat} : ∀ (f : Nat) {s : TS}, Fit b s → Fit b (TS.runF f s)
  | 0, _, h => h.endT
  | f + 1, s, h => by
    rw [TS.runF]
    split
    · exact h.endT
    · rename_i hne
      exact Fit.runF f (h.next hne)
theorem tok_few {l : List UInt8} (hl : l.length < 100000) : (tokL l).toks.length + (tokL l).flts.length ≤ 1600000 := by
  have f0 : Fit (16 * l.length) (TS.new l) := ⟨by show 0 + l.length < 1000000; omega, by show 0 + 0 + 0 + 16 * l.length ≤ _; omega⟩
  have := (Fit.runF (TS.new l).rest.length f0).room
  unfold pot at this
  show (TS.runF _ _).toks.length + (TS.runF _ _).flts.length ≤ _
  omega

/-- No token has too many attributes. -/
def AllA (s : TS) : Prop := ∀ t ∈ s.toks, t.attrs.length ≤ 50
theorem AllA.of {s s' : TS} (h : AllA s) (e : s'.toks = s.toks) : AllA s' := fun t ht => h t (e ▸ ht)
theorem AllA.endT {s : TS} (h : AllA s) : AllA s.endT := by
  unfold TS.endT
  split
  · exact h
  · intro t ht
    rcases List.mem_append.1 ht with ht | ht
    · exact h t ht
    · rw [List.mem_singleton.1 ht]
      exact Nat.zero_le _
theorem AllA.add {s : TS} (h : AllA s) {t : Tk} (ht : t.attrs.length ≤ 50) : AllA (s.add t) := by
  intro u hu
  rcases List.mem_append.1 hu with hu | hu
  · exact h.endT u hu
  · rw [List.mem_singleton.1 hu]
    exact ht
theorem tk_addT (s : TS) (p : List UInt8) (a : Nat) : (s.addT p a).toks = s.toks := by unfold TS.addT; split <;> rfl
theorem tk_cutIf (s : TS) (f : List UInt8) : (s.cutIf f).toks = s.toks := by unfold TS.cutIf; split <;> rfl
theorem tk_fltIf (s : TS) (k a : Nat) : (s.fltIf k a).toks = s.toks := by unfold TS.fltIf; split <;> rfl
theorem tk_cmtEnd (s : TS) (a : Nat) : (s.cmtEnd a).toks = s.toks := by
  unfold TS.cmtEnd
  split
  · rfl
  · split
    · rfl
    · exact tk_cutIf _ _
theorem tk_dtEnd (s : TS) : s.dtEnd.toks = s.toks := by unfold TS.dtEnd; split <;> rfl
theorem tk_val2 (s : TS) : s.val2.st.toks = s.toks := by
  unfold TS.val2
  split
  · exact tk_cutIf _ _
  · split
    · exact tk_cutIf _ _
    · split <;> rfl
theorem tk_value (s : TS) : s.value.st.toks = s.toks := by
  unfold TS.value
  split
  · exact tk_val2 _
  · rfl
theorem tk_first (s : TS) : s.first.toks = s.toks := by unfold TS.first; split <;> rfl
theorem tk_attr (s : TS) (l : List Atr) : (s.attr l).st.toks = s.toks := by
  have e : (s.first.cutTo (hdIn atE)).value.st.toks = s.toks := (tk_value _).trans (tk_first s)
  unfold TS.attr
  split
  · split
    · exact e
    · exact e
  · exact e
theorem tk_tagF : ∀ (f : Nat) (s : TS) (l : List Atr), (TS.tagF f s l).st.toks = s.toks
  | 0, _, _ => rfl
  | f + 1, s, l => by
    rw [tagF_succ]
    split
    · rfl
    · split
      · rfl
      · exact (tk_tagF f _ _).trans (tk_attr _ _)
theorem at_tagF : ∀ (f : Nat) (s : TS) (l : List Atr), l.length ≤ 50 → (TS.tagF f s l).attrs.length ≤ 50
  | 0, _, _, h => h
  | f + 1, s, l, h => by
    rw [tagF_succ]
    split
    · exact h
    · split
      · exact h
      · exact at_tagF f _ _ (attr_few h)
theorem tk_inside (s : TS) (name : List UInt8) : (s.inside name).toks = s.toks := by
  unfold TS.inside
  split
  · exact tk_addT _ _ _
  · split
    · exact tk_addT _ _ _
    · rfl
theorem AllA.cmt {s : TS} (h : AllA s) (d : List UInt8) (a : Nat) : AllA (s.cmt d a) := h.add (Nat.zero_le _)
theorem AllA.note {s : TS} (h : AllA s) (a : Nat) : AllA (s.note a) := by
  have h1 : AllA (((s.flt 7 a).cutTo (hdIn [62])).cmt (s.front (hdIn [62])) a) := AllA.cmt (AllA.of (s' := (s.flt 7 a).cutTo (hdIn [62])) h rfl) _ _
  exact AllA.of h1 (tk_cutIf _ _)
theorem AllA.tag {s : TS} (h : AllA s) (k a : Nat) : AllA (s.tag k a) := by
  have h1 : AllA ((s.cutTo (hdIn tgE)).tagF (s.cutTo (hdIn tgE)).rest.length.succ []).st := AllA.of h (tk_tagF _ _ _)
  unfold TS.tag
  split
  · split
    · exact h1.add (Nat.zero_le _)
    · exact AllA.of (h1.add (at_tagF _ _ _ (Nat.zero_le _))) (tk_inside _ _)
  · exact h1
theorem AllA.ending {s : TS} (h : AllA s) (a : Nat) : AllA (s.ending a) := by
  unfold TS.ending
  split
  · exact h.tag _ _
  · split
    · exact AllA.of (s := s.flt 6 a) (AllA.of h rfl) (tk_addT _ _ _)
    · split
      · exact AllA.of h rfl
      · exact h.note a
theorem AllA.opened {s : TS} (h : AllA s) (a : Nat) : AllA (s.opened a) := by
  unfold TS.opened
  split
  · exact h.tag _ _
  · split
    · exact AllA.ending (AllA.of (s' := s.cut 1) h rfl) a
    · split
      · unfold TS.comment
        split
        · exact AllA.cmt (AllA.of (s' := ((s.cut 3).cut 1).flt 7 a) h rfl) _ _
        · split
          · exact AllA.cmt (AllA.of (s' := ((s.cut 3).cut 2).flt 7 a) h rfl) _ _
          · exact AllA.cmt (AllA.of (s := (s.cut 3).cutTo endsC) (AllA.of h rfl) (tk_cmtEnd _ _)) _ _
      · split
        · unfold TS.doctype
          exact AllA.add (s := ((((s.cut 8).cutTo (hdOut blk)).cutTo (hdIn [9, 10, 12, 32, 62])).cutTo (hdIn [62])).dtEnd) (AllA.of h (tk_dtEnd _)) (t := ⟨5, _, [], false, [], a⟩) (Nat.zero_le _)
        · split
          · exact AllA.note (AllA.of (s' := s.cut 1) h rfl) a
          · split
            · exact h.note a
            · exact AllA.of (s := s.flt 4 a) (AllA.of h rfl) (tk_addT _ _ _)
theorem AllA.next {s : TS} (h : AllA s) : AllA s.next := by
  unfold TS.next
  split
  · exact h
  · split
    · exact AllA.opened (AllA.of (s' := s.cut 1) h rfl) _
    · split
      · unfold TS.refr
        refine AllA.of h ((tk_addT _ _ _).trans ?_)
        exact tk_fltIf _ _ _
      · split
        · exact AllA.of h rfl
        · exact AllA.of h (tk_addT _ _ _)
theorem AllA.runF : ∀ (f : Nat) {s : TS}, AllA s → AllA (TS.runF f s)
  | 0, _, h => h.endT
  | f + 1, s, h => by
    rw [TS.runF]
    split
    · exact h.endT
    · exact AllA.runF f h.next
theorem tok_attrs (l : List UInt8) : ∀ t ∈ (tokL l).toks, t.attrs.length ≤ 50 := AllA.runF _ (s := TS.new l) (fun _ h => by cases h)
end Go.Proofs.YtncfgahnjakeiaaDoor
