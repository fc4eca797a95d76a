/-
  What is read further on, behind other tokens, is read as by itself.
-/
import Derived.Test.YtncfgahnjakeiaaDoorRun
namespace Go.Proofs.YtncfgahnjakeiaaDoor

def shT (d : Nat) (t : Tk) : Tk := { t with pl := t.pl + d }
def shF (d : Nat) (f : Fl) : Fl := { f with pl := f.pl + d }
/-- The same rest, so many bytes further on, behind these tokens and faults. -/
structure Sh (T : List Tk) (F : List Fl) (d : Nat) (s s' : TS) : Prop where
  rest : s'.rest = s.rest
  pl : s'.pl = s.pl + d
  toks : s'.toks = T ++ s.toks.map (shT d)
  flts : s'.flts = F ++ s.flts.map (shF d)
  text : s'.text = s.text
  tat : s.text ≠ [] → s'.tat = s.tat + d

section
variable {T : List Tk} {F : List Fl} {d : Nat} {s s' : TS}
theorem Sh.cut (h : Sh T F d s s') (n : Nat) : Sh T F d (s.cut n) (s'.cut n) := ⟨by simp only [TS.cut, h.rest], by simp only [TS.cut, h.pl]; omega, h.toks, h.flts, h.text, h.tat⟩
theorem Sh.flt (h : Sh T F d s s') (k : Nat) {a a' : Nat} (ha : a' = a + d) : Sh T F d (s.flt k a) (s'.flt k a') := ⟨h.rest, h.pl, h.toks, by simp only [TS.flt, h.flts, List.map_append, List.append_assoc, ha]; rfl, h.text, h.tat⟩
theorem Sh.endT (h : Sh T F d s s') : Sh T F d s.endT s'.endT := by
  unfold TS.endT
  rw [h.text]
  split
  · exact h
  · rename_i ht
    exact ⟨h.rest, h.pl, by simp only [h.toks, List.map_append, List.append_assoc, h.tat ht]; rfl, h.flts, rfl, fun h => absurd rfl h⟩
theorem Sh.add (h : Sh T F d s s') (t : Tk) : Sh T F d (s.add t) (s'.add (shT d t)) := by
  have e := h.endT
  exact ⟨e.rest, e.pl, by simp only [TS.add, e.toks, List.map_append, List.append_assoc]; rfl, e.flts, e.text, e.tat⟩
theorem Sh.addT (h : Sh T F d s s') (p : List UInt8) {a a' : Nat} (ha : a' = a + d) : Sh T F d (s.addT p a) (s'.addT p a') := by
  unfold TS.addT
  split
  · exact h
  · refine ⟨h.rest, h.pl, h.toks, h.flts, by simp only [h.text], fun _ => ?_⟩
    dsimp only
    rw [h.text]
    split
    · exact ha
    · rename_i ht
      exact h.tat ht
theorem Sh.cutIf (h : Sh T F d s s') (f : List UInt8) : Sh T F d (s.cutIf f) (s'.cutIf f) := by
  unfold TS.cutIf
  rw [h.rest]
  split
  · exact h.cut _
  · exact h
theorem Sh.cutTo (h : Sh T F d s s') (p : List UInt8 → Bool) : Sh T F d (s.cutTo p) (s'.cutTo p) := by
  unfold TS.cutTo
  rw [h.rest]
  exact h.cut _
theorem Sh.front (h : Sh T F d s s') (p : List UInt8 → Bool) : s'.front p = s.front p := by
  unfold TS.front
  rw [h.rest]
theorem Sh.cmt (h : Sh T F d s s') (x : List UInt8) {a a' : Nat} (ha : a' = a + d) : Sh T F d (s.cmt x a) (s'.cmt x a') := by
  subst ha
  exact h.add ⟨4, [], [], false, cleanL x, a⟩
theorem Sh.fltIf (h : Sh T F d s s') (k : Nat) {a a' : Nat} (ha : a' = a + d) : Sh T F d (s.fltIf k a) (s'.fltIf k a') := by
  unfold TS.fltIf
  split
  · exact h
  · exact h.flt k ha
theorem Sh.refr (h : Sh T F d s s') : Sh T F d s.refr s'.refr := by
  unfold TS.refr
  rw [h.rest]
  exact ((h.fltIf _ h.pl).cut _).addT _ h.pl
theorem Sh.note (h : Sh T F d s s') {a a' : Nat} (ha : a' = a + d) : Sh T F d (s.note a) (s'.note a') := by
  unfold TS.note
  rw [h.front]
  exact (((h.flt 7 ha).cutTo _).cmt _ ha).cutIf _
theorem Sh.cmtEnd (h : Sh T F d s s') {a a' : Nat} (ha : a' = a + d) : Sh T F d (s.cmtEnd a) (s'.cmtEnd a') := by
  unfold TS.cmtEnd
  rw [h.rest]
  split
  · exact h.flt 6 h.pl
  · split
    · exact h.cut _
    · exact (h.cutIf _).flt 7 ha
theorem Sh.comment (h : Sh T F d s s') {a a' : Nat} (ha : a' = a + d) : Sh T F d (s.comment a) (s'.comment a') := by
  unfold TS.comment
  rw [h.rest, h.front]
  split
  · exact ((h.cut _).flt 7 ha).cmt _ ha
  · split
    · exact ((h.cut _).flt 7 ha).cmt _ ha
    · exact ((h.cutTo _).cmtEnd ha).cmt _ ha
theorem Sh.dtEnd (h : Sh T F d s s') : Sh T F d s.dtEnd s'.dtEnd := by
  unfold TS.dtEnd
  rw [h.rest]
  split
  · exact h.cut _
  · exact h.flt 6 h.pl
theorem Sh.doctype (h : Sh T F d s s') {a a' : Nat} (ha : a' = a + d) : Sh T F d (s.doctype a) (s'.doctype a') := by
  unfold TS.doctype
  rw [(h.cutTo _).front]
  subst ha
  exact ((((h.cutTo _).cutTo _).cutTo _).dtEnd).add ⟨5, _, [], false, [], a⟩
theorem Sh.val2 (h : Sh T F d s s') : Sh T F d s.val2.st s'.val2.st ∧ s'.val2.v = s.val2.v ∧ s'.val2.ok = s.val2.ok := by
  unfold TS.val2
  rw [h.rest]
  split
  · have hc := h.cut 1
    unfold TS.quoted
    dsimp only
    exact ⟨(hc.cutTo _).cutIf _, hc.front _, by rw [(hc.cutTo _).rest]⟩
  · split
    · have hc := h.cut 1
      unfold TS.quoted
      dsimp only
      exact ⟨(hc.cutTo _).cutIf _, hc.front _, by rw [(hc.cutTo _).rest]⟩
    · split
      · exact ⟨h.flt 5 h.pl, rfl, rfl⟩
      · exact ⟨h.cutTo _, h.front _, rfl⟩
theorem Sh.value (h : Sh T F d s s') : Sh T F d s.value.st s'.value.st ∧ s'.value.v = s.value.v ∧ s'.value.ok = s.value.ok := by
  unfold TS.value
  rw [(h.cutTo _).rest]
  split
  · exact (((h.cutTo _).cut 1).cutTo _).val2
  · exact ⟨h.cutTo _, rfl, rfl⟩
theorem Sh.first (h : Sh T F d s s') : Sh T F d s.first s'.first := by
  unfold TS.first
  rw [h.rest]
  split
  · exact (h.cut 1).flt 5 h.pl
  · exact h.cut 1
theorem Sh.aname (h : Sh T F d s s') : s'.aname = s.aname := by
  unfold TS.aname
  rw [h.rest, h.first.front]
theorem Sh.attr (h : Sh T F d s s') (l : List Atr) : Sh T F d (s.attr l).st (s'.attr l).st ∧ (s'.attr l).attrs = (s.attr l).attrs := by
  obtain ⟨h1, h2, h3⟩ := (h.first.cutTo (hdIn atE)).value
  unfold TS.attr
  rw [h3, h2, h.aname]
  split
  · split
    · exact ⟨h1.flt 5 h.pl, rfl⟩
    · exact ⟨h1, rfl⟩
  · exact ⟨h1, rfl⟩
end
theorem Sh.tagF {T : List Tk} {F : List Fl} {d : Nat} : ∀ (f : Nat) {s s' : TS} (l : List Atr), Sh T F d s s' → Sh T F d (TS.tagF f s l).st (TS.tagF f s' l).st ∧ (TS.tagF f s' l).attrs = (TS.tagF f s l).attrs ∧ (TS.tagF f s' l).self = (TS.tagF f s l).self ∧ (TS.tagF f s' l).ok = (TS.tagF f s l).ok
  | 0, _, _, _, h => ⟨h, rfl, rfl, rfl⟩
  | f + 1, s, s', l, h => by
    rw [tagF_succ, tagF_succ, (h.cutTo _).rest, h.front]
    split
    · exact ⟨(h.cutTo _).flt 6 (h.cutTo _).pl, rfl, rfl, rfl⟩
    · split
      · exact ⟨(h.cutTo _).cut 1, rfl, rfl, rfl⟩
      · obtain ⟨h1, h2⟩ := (h.cutTo (hdOut sla)).attr l
        rw [h2]
        exact Sh.tagF f _ h1
section
variable {T : List Tk} {F : List Fl} {d : Nat} {s s' : TS}
theorem Sh.inside (h : Sh T F d s s') (name : List UInt8) : Sh T F d (s.inside name) (s'.inside name) := by
  unfold TS.inside
  rw [h.front]
  split
  · exact (h.cutTo _).addT _ h.pl
  · split
    · exact (h.cutTo _).addT _ h.pl
    · exact h
theorem Sh.tag (h : Sh T F d s s') (k : Nat) {a a' : Nat} (ha : a' = a + d) : Sh T F d (s.tag k a) (s'.tag k a') := by
  have e := (h.cutTo (hdIn tgE)).rest
  obtain ⟨h1, h2, h3, h4⟩ := Sh.tagF (s.cutTo (hdIn tgE)).rest.length.succ [] (h.cutTo (hdIn tgE))
  unfold TS.tag
  rw [e, h4, h3, h2, h.front]
  subst ha
  split
  · split
    · exact h1.add ⟨2, _, [], false, [], a⟩
    · exact (h1.add ⟨k, _, _, _, [], a⟩).inside _
  · exact h1
theorem Sh.ending (h : Sh T F d s s') {a a' : Nat} (ha : a' = a + d) : Sh T F d (s.ending a) (s'.ending a') := by
  unfold TS.ending
  rw [h.rest]
  split
  · exact h.tag 2 ha
  · split
    · exact (h.flt 6 ha).addT _ ha
    · split
      · exact (h.cut 1).flt 4 ha
      · exact h.note ha
theorem Sh.opened (h : Sh T F d s s') {a a' : Nat} (ha : a' = a + d) : Sh T F d (s.opened a) (s'.opened a') := by
  unfold TS.opened
  rw [h.rest]
  split
  · exact h.tag 1 ha
  · split
    · exact (h.cut 1).ending ha
    · split
      · exact (h.cut 3).comment ha
      · split
        · exact (h.cut 8).doctype ha
        · split
          · exact (h.cut 1).note ha
          · split
            · exact h.note ha
            · exact (h.flt 4 ha).addT _ ha
theorem Sh.next (h : Sh T F d s s') : Sh T F d s.next s'.next := by
  unfold TS.next
  rw [h.rest]
  split
  · exact h
  · split
    · exact (h.cut 1).opened h.pl
    · split
      · exact h.refr
      · split
        · exact (h.flt 3 h.pl).cut 1
        · rw [h.front]
          exact (h.cutTo _).addT _ h.pl
end
theorem Sh.runF {T : List Tk} {F : List Fl} {d : Nat} : ∀ (f : Nat) {s s' : TS}, Sh T F d s s' → Sh T F d (TS.runF f s) (TS.runF f s')
  | 0, _, _, h => h.endT
  | f + 1, s, s', h => by
    rw [TS.runF, TS.runF, h.rest]
    split
    · exact h.endT
    · exact Sh.runF f h.next
theorem Sh.run {T : List Tk} {F : List Fl} {d : Nat} {s s' : TS} (h : Sh T F d s s') : Sh T F d s.run s'.run := by
  unfold TS.run
  rw [h.rest]
  exact Sh.runF _ h

/-- Behind a whole comment. -/
theorem tok_behind (l : List UInt8) : (tokL (60 :: 33 :: 45 :: 45 :: 99 :: 45 :: 45 :: 62 :: l)).toks = ⟨4, [], [], false, [99], 0⟩ :: (tokL l).toks.map (shT 8) ∧ (tokL (60 :: 33 :: 45 :: 45 :: 99 :: 45 :: 45 :: 62 :: l)).flts = (tokL l).flts.map (shF 8) := by
  have e : (TS.new (60 :: 33 :: 45 :: 45 :: 99 :: 45 :: 45 :: 62 :: l)).markup = ⟨l, 8, [⟨4, [], [], false, [99], 0⟩], [], [], 0⟩ := rfl
  have h : Sh [⟨4, [], [], false, [99], 0⟩] [] 8 (TS.new l) ⟨l, 8, [⟨4, [], [], false, [99], 0⟩], [], [], 0⟩ := ⟨rfl, rfl, rfl, rfl, rfl, fun h => absurd rfl h⟩
  have hr := h.run
  unfold tokL
  rw [run_lt (s := TS.new (60 :: 33 :: 45 :: 45 :: 99 :: 45 :: 45 :: 62 :: l)) rfl, e]
  exact ⟨hr.toks, hr.flts⟩
end Go.Proofs.YtncfgahnjakeiaaDoor
