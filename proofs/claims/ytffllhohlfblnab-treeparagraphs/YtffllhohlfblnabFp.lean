/-
  The tokens of a text, pure: they are few, and their attributes are small, and each has a name of its own.
-/
import Derived.Test.YtffllhohlfblnabTP
import Derived.Test.YtffllhohlfblnabEB
namespace Go.Proofs.Ytffllhohlfblnab

section
variable {Q : List Atr → Prop} {L : Nat} (q0 : Q []) (q1 : ∀ (s : TS) (l : List Atr), s.rest.length ≤ L → s.rest ≠ [] → Q l → Q (s.attr l).attrs)
/-- What holds of all attributes. -/
def AllQ (Q : List Atr → Prop) (s : TS) : Prop := ∀ t ∈ s.toks, Q t.attrs
theorem AllQ.of {s s' : TS} (h : AllQ Q s) (e : s'.toks = s.toks) : AllQ Q s' := fun t ht => h t (e ▸ ht)
include q0 in
theorem AllQ.endT {s : TS} (h : AllQ Q s) : AllQ Q s.endT := by
  unfold TS.endT
  split
  · exact h
  · intro t ht
    rcases List.mem_append.1 ht with ht | ht
    · exact h t ht
    · rw [List.mem_singleton.1 ht]
      exact q0
include q0 in
theorem AllQ.add {s : TS} (h : AllQ Q s) {t : Tk} (ht : Q t.attrs) : AllQ Q (s.add t) := by
  intro u hu
  rcases List.mem_append.1 hu with hu | hu
  · exact AllQ.endT q0 h u hu
  · rw [List.mem_singleton.1 hu]
    exact ht
theorem cutTo_le (s : TS) (p : List UInt8 → Bool) : (s.cutTo p).rest.length ≤ s.rest.length := (mv_cutTo s p).le
include q1 in
theorem q_tagF : ∀ (f : Nat) (s : TS) (l : List Atr), s.rest.length ≤ L → Q l → Q (TS.tagF f s l).attrs
  | 0, _, _, _, h => h
  | f + 1, s, l, hL, h => by
    rw [tagF_succ]
    split
    · exact h
    · rename_i hne
      split
      · exact h
      · have hc := cutTo_le s (hdOut sla)
        exact q_tagF f _ _ (Nat.le_trans (mv_attr _ hne l).le (by omega)) (q1 _ l (by omega) hne h)
include q0 in
theorem AllQ.cmt {s : TS} (h : AllQ Q s) (d : List UInt8) (a : Nat) : AllQ Q (s.cmt d a) := AllQ.add q0 h q0
include q0 in
theorem AllQ.note {s : TS} (h : AllQ Q s) (a : Nat) : AllQ Q (s.note a) := by
  have h1 : AllQ Q (((s.flt 7 a).cutTo (hdIn [62])).cmt (s.front (hdIn [62])) a) := AllQ.cmt q0 (AllQ.of (s' := (s.flt 7 a).cutTo (hdIn [62])) h rfl) _ _
  exact AllQ.of h1 (tk_cutIf _ _)
include q0 q1 in
theorem AllQ.tag {s : TS} (h : AllQ Q s) (hL : s.rest.length ≤ L) (k a : Nat) : AllQ Q (s.tag k a) := by
  have h1 : AllQ Q ((s.cutTo (hdIn tgE)).tagF (s.cutTo (hdIn tgE)).rest.length.succ []).st := AllQ.of h (tk_tagF _ _ _)
  unfold TS.tag
  split
  · split
    · exact AllQ.add q0 h1 q0
    · exact AllQ.of (AllQ.add q0 h1 (q_tagF q1 _ _ _ (Nat.le_trans (cutTo_le s _) hL) q0)) (tk_inside _ _)
  · exact h1
include q0 q1 in
theorem AllQ.ending {s : TS} (h : AllQ Q s) (hL : s.rest.length ≤ L) (a : Nat) : AllQ Q (s.ending a) := by
  unfold TS.ending
  split
  · exact AllQ.tag q0 q1 h hL _ _
  · split
    · exact AllQ.of (s := s.flt 6 a) (AllQ.of h rfl) (tk_addT _ _ _)
    · split
      · exact AllQ.of h rfl
      · exact AllQ.note q0 h a
include q0 q1 in
theorem AllQ.opened {s : TS} (h : AllQ Q s) (hL : s.rest.length ≤ L) (a : Nat) : AllQ Q (s.opened a) := by
  unfold TS.opened
  split
  · exact AllQ.tag q0 q1 h hL _ _
  · split
    · refine AllQ.ending q0 q1 (AllQ.of (s' := s.cut 1) h rfl) ?_ a
      show (s.rest.drop 1).length ≤ L
      rw [List.length_drop]
      omega
    · split
      · unfold TS.comment
        split
        · exact AllQ.cmt q0 (AllQ.of (s' := ((s.cut 3).cut 1).flt 7 a) h rfl) _ _
        · split
          · exact AllQ.cmt q0 (AllQ.of (s' := ((s.cut 3).cut 2).flt 7 a) h rfl) _ _
          · exact AllQ.cmt q0 (AllQ.of (s := (s.cut 3).cutTo endsC) (AllQ.of h rfl) (tk_cmtEnd _ _)) _ _
      · split
        · unfold TS.doctype
          exact AllQ.add q0 (s := ((((s.cut 8).cutTo (hdOut blk)).cutTo (hdIn [9, 10, 12, 32, 62])).cutTo (hdIn [62])).dtEnd) (AllQ.of h (tk_dtEnd _)) (t := ⟨5, _, [], false, [], a⟩) q0
        · split
          · exact AllQ.note q0 (AllQ.of (s' := s.cut 1) h rfl) a
          · split
            · exact AllQ.note q0 h a
            · exact AllQ.of (s := s.flt 4 a) (AllQ.of h rfl) (tk_addT _ _ _)
include q0 q1 in
theorem AllQ.next {s : TS} (h : AllQ Q s) (hL : s.rest.length ≤ L) : AllQ Q s.next := by
  unfold TS.next
  split
  · exact h
  · split
    · refine AllQ.opened q0 q1 (AllQ.of (s' := s.cut 1) h rfl) ?_ _
      show (s.rest.drop 1).length ≤ L
      rw [List.length_drop]
      omega
    · split
      · unfold TS.refr
        refine AllQ.of h ((tk_addT _ _ _).trans ?_)
        exact tk_fltIf _ _ _
      · split
        · exact AllQ.of h rfl
        · exact AllQ.of h (tk_addT _ _ _)
include q0 q1 in
theorem AllQ.runF : ∀ (f : Nat) {s : TS}, AllQ Q s → s.rest.length ≤ L → AllQ Q (TS.runF f s)
  | 0, _, h, _ => AllQ.endT q0 h
  | f + 1, s, h, hL => by
    rw [TS.runF]
    split
    · exact AllQ.endT q0 h
    · rename_i hne
      exact AllQ.runF f (AllQ.next q0 q1 h hL) (Nat.le_trans (mv_next s hne).1.le hL)
end
/-- Small, few, and each with a name of its own. -/
structure SmallA (L : Nat) (l : List Atr) : Prop where
  small : ∀ x ∈ l, x.name.length ≤ 3 * (L + 1) ∧ x.value.length ≤ 12 * L
  few : l.length ≤ 50
  own : (l.map Atr.name).Nodup
theorem SmallA.nil (L : Nat) : SmallA L [] := ⟨fun _ h => absurd h List.not_mem_nil, Nat.zero_le _, List.nodup_nil⟩
theorem front_le (s : TS) (p : List UInt8 → Bool) : (s.front p).length ≤ s.rest.length := by
  unfold TS.front
  rw [List.length_take]
  omega
theorem val2_v (s : TS) : s.val2.v.length ≤ s.rest.length := by
  unfold TS.val2
  split
  · show ((s.cut 1).front _).length ≤ _
    have := front_le (s.cut 1) (hdIn [34])
    have h2 : (s.cut 1).rest.length ≤ s.rest.length := by show (s.rest.drop 1).length ≤ _; rw [List.length_drop]; omega
    omega
  · split
    · show ((s.cut 1).front _).length ≤ _
      have := front_le (s.cut 1) (hdIn [39])
      have h2 : (s.cut 1).rest.length ≤ s.rest.length := by show (s.rest.drop 1).length ≤ _; rw [List.length_drop]; omega
      omega
    · split
      · exact Nat.zero_le _
      · exact front_le _ _
theorem value_v (s : TS) : s.value.v.length ≤ s.rest.length := by
  unfold TS.value
  split
  · refine Nat.le_trans (val2_v _) ?_
    refine Nat.le_trans (cutTo_le _ _) ?_
    show ((s.cutTo (hdOut blk)).rest.drop 1).length ≤ _
    have := cutTo_le s (hdOut blk)
    rw [List.length_drop]
    omega
  · exact Nat.zero_le _
theorem first_le (s : TS) : s.first.rest.length ≤ s.rest.length := by
  unfold TS.first
  split
  · show (s.rest.drop 1).length ≤ _
    rw [List.length_drop]
    omega
  · show (s.rest.drop 1).length ≤ _
    rw [List.length_drop]
    omega
theorem SmallA.attr (L : Nat) (s : TS) (l : List Atr) (hL : s.rest.length ≤ L) (_ : s.rest ≠ []) (h : SmallA L l) : SmallA L (s.attr l).attrs := by
  unfold TS.attr
  split
  · split
    · exact h
    · rename_i hc
      simp only [not_or, Nat.not_le] at hc
      refine ⟨?_, ?_, ?_⟩
      · intro x hx
        rcases List.mem_append.1 hx with hx | hx
        · exact h.small x hx
        · rw [List.mem_singleton.1 hx]
          have h1 := first_le s
          constructor
          · show (nmL (s.rest.take 1 ++ s.first.front _)).length ≤ _
            unfold nmL
            refine Nat.le_trans (cleanL_length _) ?_
            rw [lowL_length, List.length_append, List.length_take]
            have := front_le s.first (hdIn [9, 10, 12, 32, 47, 62, 61])
            omega
          · show (allL true (cleanL _)).length ≤ _
            refine Nat.le_trans (allL_length true _ _ (Nat.le_refl _)) ?_
            have h2 := cleanL_length (s.first.cutTo (hdIn [9, 10, 12, 32, 47, 62, 61])).value.v
            have h3 := value_v (s.first.cutTo (hdIn [9, 10, 12, 32, 47, 62, 61]))
            have h4 := cutTo_le s.first (hdIn [9, 10, 12, 32, 47, 62, 61])
            omega
      · show (l ++ [_]).length ≤ 50
        rw [List.length_append]
        show l.length + 1 ≤ 50
        omega
      · show ((l ++ [_]).map Atr.name).Nodup
        rw [List.map_append, List.nodup_append]
        refine ⟨h.own, by simp, ?_⟩
        intro a ha b hb
        have hb' : b = s.aname := by simpa using hb
        intro e
        subst e
        subst hb'
        refine hc.2 ?_
        obtain ⟨x, hx, hxe⟩ := List.mem_map.1 ha
        unfold hasN
        rw [List.any_eq_true]
        exact ⟨x, hx, by simpa using hxe⟩
  · exact h
theorem tok_small (s : List UInt8) : ∀ t ∈ (tokL s).toks, SmallA s.length t.attrs :=
  AllQ.runF (SmallA.nil _) (SmallA.attr _) _ (s := TS.new s) (fun _ h => by cases h) (Nat.le_refl _)

/-- How many tokens there are, the text that is open counted too. -/
def cntT (s : TS) : Nat := s.toks.length + if s.text = [] then 0 else 1
theorem cnt_endT (s : TS) : cntT s.endT = cntT s ∧ s.endT.text = [] := by
  unfold TS.endT
  split
  · rename_i h
    exact ⟨rfl, h⟩
  · rename_i h
    refine ⟨?_, rfl⟩
    unfold cntT
    rw [if_neg h]
    show (s.toks ++ [_]).length + (if ([] : List UInt8) = [] then 0 else 1) = _
    rw [if_pos rfl, List.length_append]
    rfl
theorem cnt_add (s : TS) (t : Tk) : cntT (s.add t) = cntT s + 1 ∧ (s.add t).text = [] := by
  obtain ⟨h1, h2⟩ := cnt_endT s
  refine ⟨?_, h2⟩
  rw [← h1]
  unfold cntT
  show (s.endT.toks ++ [t]).length + (if s.endT.text = [] then 0 else 1) = _
  rw [List.length_append]
  show s.endT.toks.length + 1 + _ = _
  omega
theorem cnt_addT (s : TS) (p : List UInt8) (a : Nat) : cntT (s.addT p a) ≤ cntT s + 1 := by
  unfold TS.addT
  split
  · omega
  · unfold cntT
    show s.toks.length + (if s.text ++ p = [] then 0 else 1) ≤ _
    split <;> omega
theorem cnt_of {s s' : TS} (h1 : s'.toks = s.toks) (h2 : s'.text = s.text) : cntT s' = cntT s := by
  unfold cntT
  rw [h1, h2]
theorem tx_cutIf (s : TS) (f : List UInt8) : (s.cutIf f).text = s.text := by unfold TS.cutIf; split <;> rfl
theorem tx_fltIf (s : TS) (k a : Nat) : (s.fltIf k a).text = s.text := by unfold TS.fltIf; split <;> rfl
theorem tx_cmtEnd (s : TS) (a : Nat) : (s.cmtEnd a).text = s.text := by
  unfold TS.cmtEnd
  split
  · rfl
  · split
    · rfl
    · exact tx_cutIf _ _
theorem tx_dtEnd (s : TS) : s.dtEnd.text = s.text := by unfold TS.dtEnd; split <;> rfl
theorem tx_val2 (s : TS) : s.val2.st.text = s.text := by
  unfold TS.val2
  split
  · exact tx_cutIf _ _
  · split
    · exact tx_cutIf _ _
    · split <;> rfl
theorem tx_value (s : TS) : s.value.st.text = s.text := by
  unfold TS.value
  split
  · exact tx_val2 _
  · rfl
theorem tx_first (s : TS) : s.first.text = s.text := by unfold TS.first; split <;> rfl
theorem tx_attr (s : TS) (l : List Atr) : (s.attr l).st.text = s.text := by
  have e : (s.first.cutTo (hdIn atE)).value.st.text = s.text := (tx_value _).trans (tx_first s)
  unfold TS.attr
  split
  · split
    · exact e
    · exact e
  · exact e
theorem tx_tagF : ∀ (f : Nat) (s : TS) (l : List Atr), (TS.tagF f s l).st.text = s.text
  | 0, _, _ => rfl
  | f + 1, s, l => by
    rw [tagF_succ]
    split
    · rfl
    · split
      · rfl
      · exact (tx_tagF f _ _).trans (tx_attr _ _)
theorem cnt_inside (s : TS) (name : List UInt8) : cntT (s.inside name) ≤ cntT s + 1 := by
  unfold TS.inside
  split
  · exact cnt_addT _ _ _
  · split
    · exact cnt_addT _ _ _
    · omega
theorem cnt_cmt (s : TS) (d : List UInt8) (a : Nat) : cntT (s.cmt d a) = cntT s + 1 := (cnt_add _ _).1
theorem cnt_note (s : TS) (a : Nat) : cntT (s.note a) ≤ cntT s + 1 := by
  unfold TS.note
  rw [cnt_of (tk_cutIf _ _) (tx_cutIf _ _), cnt_cmt]
  exact Nat.le_refl _
theorem cnt_tag (s : TS) (k a : Nat) : cntT (s.tag k a) ≤ cntT s + 2 := by
  have h1 : cntT ((s.cutTo (hdIn tgE)).tagF (s.cutTo (hdIn tgE)).rest.length.succ []).st = cntT s := cnt_of (tk_tagF _ _ _) (tx_tagF _ _ _)
  unfold TS.tag
  split
  · split
    · rw [(cnt_add _ _).1, h1]
      omega
    · refine Nat.le_trans (cnt_inside _ _) ?_
      rw [(cnt_add _ _).1, h1]
      exact Nat.le_refl _
  · rw [h1]
    omega
theorem cnt_ending (s : TS) (a : Nat) : cntT (s.ending a) ≤ cntT s + 2 := by
  unfold TS.ending
  split
  · exact cnt_tag _ _ _
  · split
    · refine Nat.le_trans (cnt_addT _ _ _) ?_
      show cntT s + 1 ≤ _
      omega
    · split
      · show cntT s ≤ _
        omega
      · have := cnt_note s a
        omega
theorem cnt_opened (s : TS) (a : Nat) : cntT (s.opened a) ≤ cntT s + 2 := by
  unfold TS.opened
  split
  · exact cnt_tag _ _ _
  · split
    · exact cnt_ending (s.cut 1) a
    · split
      · unfold TS.comment
        split
        · rw [cnt_cmt]
          show cntT s + 1 ≤ _
          omega
        · split
          · rw [cnt_cmt]
            show cntT s + 1 ≤ _
            omega
          · rw [cnt_cmt, cnt_of (tk_cmtEnd _ _) (tx_cmtEnd _ _)]
            show cntT s + 1 ≤ _
            omega
      · split
        · unfold TS.doctype
          rw [(cnt_add _ _).1, cnt_of (tk_dtEnd _) (tx_dtEnd _)]
          show cntT s + 1 ≤ _
          omega
        · split
          · have := cnt_note (s.cut 1) a
            have h2 : cntT (s.cut 1) = cntT s := rfl
            omega
          · split
            · have := cnt_note s a
              omega
            · refine Nat.le_trans (cnt_addT _ _ _) ?_
              show cntT s + 1 ≤ _
              omega
theorem cnt_next (s : TS) : cntT s.next ≤ cntT s + 2 := by
  unfold TS.next
  split
  · omega
  · split
    · exact cnt_opened (s.cut 1) _
    · split
      · unfold TS.refr
        refine Nat.le_trans (cnt_addT _ _ _) ?_
        have : cntT ((s.fltIf (takeL s.rest false).fault s.pl).cut (if (takeL s.rest false).n = 0 then 1 else (takeL s.rest false).n)) = cntT s := cnt_of (tk_fltIf _ _ _) (tx_fltIf _ _ _)
        omega
      · split
        · show cntT s ≤ _
          omega
        · refine Nat.le_trans (cnt_addT _ _ _) ?_
          show cntT s + 1 ≤ _
          omega
theorem cnt_runF : ∀ (f : Nat) (s : TS), cntT (TS.runF f s) ≤ cntT s + 2 * s.rest.length
  | 0, s => by
    rw [TS.runF, (cnt_endT s).1]
    omega
  | f + 1, s => by
    rw [TS.runF]
    split
    · rw [(cnt_endT s).1]
      omega
    · rename_i hne
      have h1 := cnt_runF f s.next
      have h2 := cnt_next s
      have h3 := (mv_next s hne).2
      omega
theorem tok_count (s : List UInt8) : (tokL s).toks.length ≤ 2 * s.length := by
  have h : cntT (tokL s) ≤ cntT (TS.new s) + 2 * s.length := cnt_runF _ (TS.new s)
  have h0 : cntT (TS.new s) = 0 := rfl
  unfold cntT at h
  unfold cntT at h0
  omega
end Go.Proofs.Ytffllhohlfblnab

namespace Go.Proofs.Ytffllhohlfblnab

theorem lastA_snoc (l : List It) (x : It) : lastA (l ++ [x]) = x.attrs.length := by
  unfold lastA
  rw [List.getLast?_append]
  rfl
/-- What is built so far is a front of what is built then. -/
structure Fro (a b : BS) : Prop where
  items : a.items <+: b.items
  flts : a.flts <+: b.flts
theorem Fro.refl (a : BS) : Fro a a := ⟨List.prefix_refl _, List.prefix_refl _⟩
theorem Fro.trans {a b c : BS} (h : Fro a b) (k : Fro b c) : Fro a c := ⟨h.items.trans k.items, h.flts.trans k.flts⟩
theorem Fro.flt (a : BS) (k x : Nat) : Fro a (a.flt k x) := ⟨List.prefix_refl _, List.prefix_append _ _⟩
theorem Fro.fin (a : BS) (so ba : List UInt8 → Bool) : Fro a (a.fin so ba) := by
  have h := fin_opn a so ba
  exact ⟨by rw [h.2.2]; exact List.prefix_refl _, by rw [h.2.1]; exact List.prefix_refl _⟩
theorem Fro.finF (a : BS) (so ba : List UInt8 → Bool) (x : Nat) : Fro a (a.finF so ba x) := by
  unfold BS.finF
  split
  · exact (Fro.fin a so ba).trans (Fro.flt _ _ _)
  · exact Fro.refl _
theorem Fro.first (a : BS) (n : List UInt8) (x : Nat) : Fro a (a.first n x) := by
  unfold BS.first
  split
  · exact Fro.fin _ _ _
  split
  · exact Fro.fin _ _ _
  split
  · exact Fro.fin _ _ _
  split
  · exact (Fro.fin _ _ _).trans (Fro.fin _ _ _)
  split
  · exact Fro.finF _ _ _ _
  split
  · exact Fro.finF _ _ _ _
  · exact Fro.refl _
theorem Fro.para (a : BS) (n : List UInt8) : Fro a (a.para n) := by
  unfold BS.para
  split
  · exact Fro.fin _ _ _
  · exact Fro.refl _
theorem Fro.item (a : BS) (k : Nat) (n : List UInt8) (l : List Atr) (d : List UInt8) : Fro a (a.item k n l d) := ⟨List.prefix_append _ _, List.prefix_refl _⟩
theorem Fro.flts' (a : BS) (n k x : Nat) : Fro a (a.flts' n k x) := ⟨List.prefix_refl _, List.prefix_append _ _⟩
theorem Fro.open1 (a : BS) (n : List UInt8) : Fro a (a.open1 n) := by
  unfold BS.open1
  split <;> exact ⟨List.prefix_refl _, List.prefix_refl _⟩
theorem Fro.start (a : BS) (n : List UInt8) (l : List Atr) (x : Nat) : Fro a (a.start n l x) := by
  unfold BS.start
  split
  · exact ((((Fro.first _ _ _).trans (Fro.para _ _)).trans (Fro.flts' _ _ _ _)).trans (Fro.item _ _ _ _ _)).trans (Fro.open1 _ _)
  · exact Fro.flt _ _ _
theorem Fro.stop (a : BS) (n : List UInt8) (x : Nat) : Fro a (a.stop n x) := by
  cases hq : seek (soughtBy n) (barredBy n) a.opn with
  | none =>
    rw [stop_none hq]
    split
    · exact (Fro.item _ _ _ _ _).trans (Fro.flt _ _ _)
    · exact Fro.flt _ _ _
  | some k =>
    rw [stop_some hq]
    split
    · exact Fro.fin _ _ _
    · exact (Fro.fin _ _ _).trans (Fro.flt _ _ _)
theorem Fro.take (a : BS) (t : Tk) : Fro a (a.take t) := by
  unfold BS.take
  split
  · exact Fro.start _ _ _ _
  split
  · exact Fro.stop _ _ _
  split
  · split
    · exact Fro.refl _
    · exact Fro.item _ _ _ _ _
  split
  · exact Fro.item _ _ _ _ _
  split
  · split
    · exact Fro.item _ _ _ _ _
    · exact Fro.flt _ _ _
  · exact Fro.refl _
theorem fro_build : ∀ (l : List Tk) {a b : BS}, buildF a l = some b → Fro a b
  | [], a, b, h => by
    injection h with h
    subst h
    exact Fro.refl _
  | t :: r, a, b, h => by
    unfold buildF at h
    split at h
    · cases h
    · exact (Fro.take a t).trans (fro_build r h)
theorem build_append : ∀ (l m : List Tk) (a b : BS), buildF a (l ++ m) = some b → ∃ c, buildF a l = some c ∧ buildF c m = some b
  | [], m, a, b, h => ⟨a, rfl, h⟩
  | t :: r, m, a, b, h => by
    rw [List.cons_append] at h
    unfold buildF at h
    split at h
    · cases h
    · rename_i hf
      obtain ⟨c, h1, h2⟩ := build_append r m _ b h
      refine ⟨c, ?_, h2⟩
      unfold buildF
      rw [if_neg hf]
      exact h1

theorem last_start (b : BS) (n : List UInt8) (l : List Atr) (a : Nat) (h : lastA b.items ≤ 50) (hl : l.length ≤ 50) : lastA (b.start n l a).items ≤ 50 := by
  have hk := keepA_len l []
  unfold BS.start
  split
  · have e : (((((b.first n a).para n).flts' (l.length - (keepA [] l).length) 5 a).item 1 n (keepA [] l) []).open1 n).items = ((b.first n a).para n).items ++ [⟨((b.first n a).para n).opn.length, 1, n, keepA [] l, []⟩] := by
      unfold BS.open1
      split <;> rfl
    rw [e, lastA_snoc]
    show (keepA [] l).length ≤ 50
    omega
  · exact h
theorem last_take (b : BS) (t : Tk) (h : lastA b.items ≤ 50) (hl : t.attrs.length ≤ 50) : lastA (b.take t).items ≤ 50 := by
  have item : ∀ (k : Nat) (n d : List UInt8), lastA (b.item k n [] d).items ≤ 50 := fun k n d => by
    show lastA (b.items ++ [_]) ≤ 50
    rw [lastA_snoc]
    exact Nat.zero_le _
  unfold BS.take
  split
  · exact last_start b _ _ _ h hl
  split
  · cases hq : seek (soughtBy t.name) (barredBy t.name) b.opn with
    | none =>
      rw [stop_none hq]
      split
      · exact item 1 t.name []
      · exact h
    | some k =>
      rw [stop_some hq]
      have hf := (fin_opn b (soughtBy t.name) (barredBy t.name)).2.2
      split
      · rw [hf]; exact h
      · show lastA (b.fin (soughtBy t.name) (barredBy t.name)).items ≤ 50
        rw [hf]; exact h
  split
  · split
    · exact h
    · exact item 2 [] t.data
  split
  · exact item 3 [] t.data
  split
  · split
    · exact item 6 t.name []
    · exact h
  · exact h
/-- Nothing is refused. -/
theorem build_ok : ∀ (l : List Tk) (b : BS), b.opn.length ≤ 100 → b.items.length + l.length ≤ 5000 → lastA b.items ≤ 50 → (∀ t ∈ l, t.attrs.length ≤ 50) → ∃ c, buildF b l = some c ∧ c.items.length ≤ b.items.length + l.length ∧ c.flts.length ≤ b.flts.length + wtL l
  | [], b, _, _, _, _ => ⟨b, rfl, Nat.le_refl _, by simp [wtL]⟩
  | t :: r, b, ho, hi, hl, ha => by
    have hb := take_b b t ho
    have hlt := last_take b t hl (ha t (by simp))
    simp only [List.length_cons] at hi
    have hf : (b.take t).full = false := by
      unfold BS.full
      rw [decide_eq_false (show ¬ (b.take t).items.length > 5000 by omega), decide_eq_false (show ¬ lastA (b.take t).items > 50 by omega)]
      rfl
    obtain ⟨c, h1, h2, h3⟩ := build_ok r (b.take t) hb.1 (by omega) hlt fun x hx => ha x (by simp [hx])
    refine ⟨c, ?_, by simp only [List.length_cons]; omega, by rw [wtL_cons]; omega⟩
    unfold buildF
    rw [if_neg (by rw [hf]; exact Bool.false_ne_true)]
    exact h1
theorem wt_few : ∀ l : List Tk, (∀ t ∈ l, t.attrs.length ≤ 50) → wtL l ≤ 52 * l.length
  | [], _ => Nat.zero_le _
  | t :: r, h => by
    have h1 := wt_few r fun x hx => h x (by simp [hx])
    have h2 := h t (by simp)
    rw [wtL_cons]
    unfold wtT
    simp only [List.length_cons]
    omega
/-- What is known of a text's tokens. -/
theorem tok_build (s : List UInt8) (hs : s.length ≤ 2000) : ∃ c, buildL (tokL s).toks = some c ∧ c.items.length ≤ 4000 ∧ c.flts.length ≤ 208000 ∧ wtL (tokL s).toks ≤ 208000 ∧ (∀ t ∈ (tokL s).toks, ∀ x ∈ t.attrs, x.name.length ≤ 1000000000 ∧ x.value.length ≤ 1000000000) := by
  have h1 := tok_count s
  have h2 := wt_few _ (tok_attrs s)
  obtain ⟨c, q1, q2, q3⟩ := build_ok (tokL s).toks BS.new (Nat.zero_le _) (by show 0 + _ ≤ _; omega) (Nat.zero_le _) (tok_attrs s)
  have q2 : c.items.length ≤ 0 + _ := q2
  have q3 : c.flts.length ≤ 0 + _ := q3
  refine ⟨c, q1, by omega, by omega, by omega, fun t ht x hx => ?_⟩
  have := (tok_small s t ht).small x hx
  omega
end Go.Proofs.Ytffllhohlfblnab
