/-
  Where tokens and faults stand, and of which kinds they are.
-/
import Derived.Test.YtncfgahnjakeiabDoorRun
namespace Go.Proofs.YtncfgahnjakeiabDoor

/-- One behind the other, and no two texts. -/
def Nxt (a b : Tk) : Prop := a.pl < b.pl ∧ ¬ (a.kind = 3 ∧ b.kind = 3)
def Asc (l : List Tk) : Prop := ∀ i (h : i + 1 < l.length), Nxt (l[i]'(by omega)) l[i + 1]
theorem Asc.snoc {l : List Tk} (h : Asc l) {t : Tk} (ht : ∀ u, l.getLast? = some u → Nxt u t) : Asc (l ++ [t]) := by
  intro i hi
  rw [List.length_append, List.length_singleton] at hi
  by_cases hl : i + 1 < l.length
  · rw [List.getElem_append_left (by omega), List.getElem_append_left hl]
    exact h i hl
  · have hi' : i + 1 = l.length := by omega
    have hne : l ≠ [] := by intro e; rw [e] at hi'; cases hi'
    have e1 : (l ++ [t])[i + 1]'(by simp; omega) = t := by
      rw [List.getElem_append_right (by omega)]
      simp [hi']
    rw [e1, List.getElem_append_left (by omega)]
    refine ht _ ?_
    rw [List.getLast?_eq_getElem?, show l.length - 1 = i by omega, List.getElem?_eq_getElem]
theorem kk1 : (1 : Nat) ≤ 1 ∧ 1 ≤ 5 ∧ 1 ≠ 3 := by decide
theorem kk2 : (1 : Nat) ≤ 2 ∧ 2 ≤ 5 ∧ 2 ≠ 3 := by decide
theorem kk4 : (1 : Nat) ≤ 4 ∧ 4 ≤ 5 ∧ 4 ≠ 3 := by decide
theorem kk5 : (1 : Nat) ≤ 5 ∧ 5 ≤ 5 ∧ 5 ≠ 3 := by decide
theorem kk3 : (1 : Nat) ≤ 3 ∧ 3 ≤ 5 := by decide
structure InvA (N a : Nat) (s : TS) : Prop where
  good : ∀ t ∈ s.toks, 1 ≤ t.kind ∧ t.kind ≤ 5 ∧ (t.kind = 3 → t.data ≠ []) ∧ t.pl < a
  asc : Asc s.toks
  last : ∀ u, s.toks.getLast? = some u → u.kind ≠ 3 ∧ (s.text ≠ [] → u.pl < s.tat)
  text : s.text ≠ [] → s.tat < a
  flts : ∀ f ∈ s.flts, 1 ≤ f.kind ∧ f.kind ≤ 7 ∧ f.pl ≤ N
  sum : s.pl + s.rest.length = N
  le : a ≤ s.pl
section
variable {N a : Nat} {s : TS}
theorem InvA.up (h : InvA N a s) {b : Nat} (hb : a ≤ b) (hl : b ≤ s.pl) : InvA N b s :=
  ⟨fun t ht => ⟨(h.good t ht).1, (h.good t ht).2.1, (h.good t ht).2.2.1, Nat.lt_of_lt_of_le (h.good t ht).2.2.2 hb⟩, h.asc, h.last, fun ht => Nat.lt_of_lt_of_le (h.text ht) hb, h.flts, h.sum, hl⟩
theorem InvA.top (h : InvA N a s) : InvA N s.pl s := h.up h.le (Nat.le_refl _)
theorem InvA.cut (h : InvA N a s) {n : Nat} (hn : n ≤ s.rest.length) : InvA N a (s.cut n) :=
  ⟨h.good, h.asc, h.last, h.text, h.flts, by have := h.sum; simp only [TS.cut, List.length_drop]; omega, by have := h.le; simp only [TS.cut]; omega⟩
theorem InvA.flt (h : InvA N a s) {k b : Nat} (h1 : 1 ≤ k) (h2 : k ≤ 7) (hb : b ≤ N) : InvA N a (s.flt k b) := by
  refine ⟨h.good, h.asc, h.last, h.text, fun f hf => ?_, h.sum, h.le⟩
  rcases List.mem_append.1 hf with hf | hf
  · exact h.flts f hf
  · rw [List.mem_singleton.1 hf]
    exact ⟨h1, h2, hb⟩
theorem InvA.plN (h : InvA N a s) : s.pl ≤ N := by have := h.sum; omega
theorem InvA.addT (h : InvA N a s) (p : List UInt8) {b : Nat} (hb : a ≤ b) (hl : p ≠ [] → b + 1 ≤ s.pl) : InvA N (s.addT p b).pl (s.addT p b) := by
  unfold TS.addT
  split
  · exact h.top
  · rename_i hp
    have hl := hl hp
    refine ⟨fun t ht => ⟨(h.good t ht).1, (h.good t ht).2.1, (h.good t ht).2.2.1, Nat.lt_of_lt_of_le (h.good t ht).2.2.2 h.le⟩, h.asc, fun u hu => ⟨(h.last u hu).1, fun _ => ?_⟩, fun _ => ?_, h.flts, h.sum, Nat.le_refl _⟩
    · dsimp only
      split
      · have := (h.good u (List.mem_of_getLast? hu)).2.2.2
        omega
      · rename_i ht
        exact (h.last u hu).2 ht
    · dsimp only
      split
      · omega
      · rename_i ht
        have := h.text ht
        omega
theorem InvA.add (h : InvA N a s) {t : Tk} (hp : a ≤ t.pl) (hl : t.pl + 1 ≤ s.pl) (hk : 1 ≤ t.kind ∧ t.kind ≤ 5 ∧ t.kind ≠ 3) : InvA N (t.pl + 1) (s.add t) := by
  unfold TS.add TS.endT
  split
  · rename_i ht
    refine ⟨fun u hu => ?_, h.asc.snoc fun u hu => ⟨?_, fun hh => (h.last u hu).1 hh.1⟩, fun u hu => ?_, fun hh => absurd ht hh, h.flts, h.sum, hl⟩
    · rcases List.mem_append.1 hu with hu | hu
      · have := h.good u hu
        exact ⟨this.1, this.2.1, this.2.2.1, by omega⟩
      · rw [List.mem_singleton.1 hu]
        exact ⟨hk.1, hk.2.1, fun e => absurd e hk.2.2, by omega⟩
    · have := (h.good u (List.mem_of_getLast? hu)).2.2.2
      omega
    · rw [List.getLast?_concat] at hu
      have : u = t := (Option.some.inj hu).symm
      subst this
      exact ⟨hk.2.2, fun hh => absurd ht hh⟩
  · rename_i ht
    have htx := h.text ht
    have a1 : Asc (s.toks ++ [⟨3, [], [], false, s.text, s.tat⟩]) := h.asc.snoc fun u hu => ⟨(h.last u hu).2 ht, fun hh => (h.last u hu).1 hh.1⟩
    refine ⟨fun u hu => ?_, a1.snoc fun u hu => ?_, fun u hu => ?_, fun hh => absurd rfl hh, h.flts, h.sum, hl⟩
    · rcases List.mem_append.1 hu with hu | hu
      · rcases List.mem_append.1 hu with hu | hu
        · have := h.good u hu
          exact ⟨this.1, this.2.1, this.2.2.1, by omega⟩
        · rw [List.mem_singleton.1 hu]
          exact ⟨kk3.1, kk3.2, fun _ => ht, by show s.tat < _; omega⟩
      · rw [List.mem_singleton.1 hu]
        exact ⟨hk.1, hk.2.1, fun e => absurd e hk.2.2, by omega⟩
    · rw [List.getLast?_concat] at hu
      have : u = ⟨3, [], [], false, s.text, s.tat⟩ := (Option.some.inj hu).symm
      subst this
      exact ⟨by show s.tat < _; omega, fun hh => hk.2.2 hh.2⟩
    · rw [List.getLast?_concat] at hu
      have : u = t := (Option.some.inj hu).symm
      subst this
      exact ⟨hk.2.2, fun hh => absurd rfl hh⟩
theorem InvA.cutTo (h : InvA N a s) (p : List UInt8 → Bool) : InvA N a (s.cutTo p) := h.cut (upTo_le p s.rest)
theorem InvA.cutIf (h : InvA N a s) (f : List UInt8) : InvA N a (s.cutIf f) := by
  unfold TS.cutIf
  split
  · rename_i hp
    exact h.cut (pre_length hp)
  · exact h
theorem InvA.cmt (h : InvA N a s) (d : List UInt8) {b : Nat} (hb : a ≤ b) (hl : b + 1 ≤ s.pl) : InvA N (b + 1) (s.cmt d b) := h.add (t := ⟨4, [], [], false, cleanL d, b⟩) hb hl kk4
theorem InvA.note (h : InvA N a s) (hl : a + 1 ≤ s.pl) : InvA N (a + 1) (s.note a) := by
  have h1 := (h.flt (k := 7) (by decide) (by decide) (show a ≤ N by have := h.plN; omega)).cutTo (hdIn [62])
  have hl1 : a + 1 ≤ ((s.flt 7 a).cutTo (hdIn [62])).pl := by simp only [TS.cutTo, TS.cut, TS.flt]; omega
  exact (h1.cmt (s.front (hdIn [62])) (Nat.le_refl a) hl1).cutIf [62]
theorem InvA.cmtEnd (h : InvA N a s) {b : Nat} (hb : b ≤ N) : InvA N a (s.cmtEnd b) := by
  unfold TS.cmtEnd
  split
  · exact h.flt (by decide) (by decide) h.plN
  · split
    · rename_i hp
      exact h.cut (n := 3) (pre_length hp)
    · exact (h.cutIf _).flt (by decide) (by decide) hb
theorem InvA.comment (h : InvA N a s) (hl : a + 1 ≤ s.pl) : InvA N (a + 1) (s.comment a) := by
  have haN : a ≤ N := by have := h.plN; omega
  unfold TS.comment
  split
  · rename_i hp
    refine ((h.cut (n := 1) (pre_length hp)).flt (k := 7) (by decide) (by decide) haN).cmt _ (Nat.le_refl _) ?_
    simp only [TS.cut, TS.flt]; omega
  · split
    · rename_i hp
      refine ((h.cut (n := 2) (pre_length hp)).flt (k := 7) (by decide) (by decide) haN).cmt _ (Nat.le_refl _) ?_
      simp only [TS.cut, TS.flt]; omega
    · have h1 := (h.cutTo endsC).cmtEnd haN
      refine h1.cmt _ (Nat.le_refl _) ?_
      have := (mv_cmtEnd (s.cutTo endsC) a).pl
      have h2 := (mv_cutTo s endsC).pl
      omega
theorem InvA.doctype (h : InvA N a s) (hl : a + 1 ≤ s.pl) : InvA N (a + 1) (s.doctype a) := by
  have h3 := ((h.cutTo (hdOut blk)).cutTo (hdIn [9, 10, 12, 32, 62])).cutTo (hdIn [62])
  have h4 : InvA N a (((s.cutTo (hdOut blk)).cutTo (hdIn [9, 10, 12, 32, 62])).cutTo (hdIn [62])).dtEnd := by
    unfold TS.dtEnd
    split
    · rename_i hp
      exact h3.cut (n := 1) (pre_length hp)
    · exact h3.flt (by decide) (by decide) h3.plN
  have hm := ((((mv_cutTo s (hdOut blk)).trans (mv_cutTo _ (hdIn [9, 10, 12, 32, 62]))).trans (mv_cutTo _ (hdIn [62]))).trans (mv_dtEnd _)).pl
  exact h4.add (t := ⟨5, _, [], false, [], a⟩) (Nat.le_refl _) (by show a + 1 ≤ _; omega) kk5
theorem InvA.val2 (h : InvA N a s) : InvA N a s.val2.st := by
  unfold TS.val2
  split
  · rename_i hp
    exact ((h.cut (n := 1) (pre_length hp)).cutTo _).cutIf _
  · split
    · rename_i hp
      exact ((h.cut (n := 1) (pre_length hp)).cutTo _).cutIf _
    · split
      · exact h.flt (by decide) (by decide) h.plN
      · exact h.cutTo _
theorem InvA.value (h : InvA N a s) : InvA N a s.value.st := by
  unfold TS.value
  split
  · rename_i hp
    exact (((h.cutTo _).cut (n := 1) (pre_length hp)).cutTo _).val2
  · exact h.cutTo _
theorem InvA.attr (h : InvA N a s) (hne : s.rest ≠ []) (l : List Atr) : InvA N a (s.attr l).st := by
  have hp : 1 ≤ s.rest.length := List.length_pos_iff.2 hne
  have h1 : InvA N a s.first := by
    unfold TS.first
    split
    · exact (h.cut hp).flt (by decide) (by decide) h.plN
    · exact h.cut hp
  have h2 := (h1.cutTo (hdIn atE)).value
  unfold TS.attr
  split
  · split
    · exact h2.flt (by decide) (by decide) h.plN
    · exact h2
  · exact h2
end
theorem InvA.tagF {N a : Nat} : ∀ (f : Nat) {s : TS} (l : List Atr), InvA N a s → InvA N a (TS.tagF f s l).st
  | 0, _, _, h => h
  | f + 1, s, l, h => by
    rw [tagF_succ]
    split
    · exact (h.cutTo _).flt (by decide) (by decide) (h.cutTo _).plN
    · rename_i hne
      split
      · rename_i hp
        exact (h.cutTo _).cut (n := 1) (pre_length hp)
      · exact InvA.tagF f _ ((h.cutTo _).attr hne l)
section
variable {N a : Nat} {s : TS}
theorem allL_nil' (attr : Bool) : allL attr [] = [] := rfl
theorem InvA.inside (h : InvA N a s) (name : List UInt8) : InvA N (s.inside name).pl (s.inside name) := by
  have key : ∀ p : List UInt8, (s.front (endOfP name) = [] → p = []) → InvA N ((s.cutTo (endOfP name)).addT p s.pl).pl ((s.cutTo (endOfP name)).addT p s.pl) := by
    intro p hp
    refine (h.cutTo _).addT p h.le fun hne => ?_
    have h1 : s.front (endOfP name) ≠ [] := fun e => hne (hp e)
    have h2 : 0 < upTo (endOfP name) s.rest := by
      rcases Nat.eq_zero_or_pos (upTo (endOfP name) s.rest) with e | e
      · refine absurd ?_ h1
        unfold TS.front
        rw [e]
        rfl
      · exact e
    simp only [TS.cutTo, TS.cut]
    omega
  unfold TS.inside
  split
  · exact key _ fun e => by rw [e]; rfl
  · split
    · exact key _ fun e => by rw [e]; rfl
    · exact h.top
theorem InvA.tag (h : InvA N a s) {k : Nat} (hk : k = 1 ∨ k = 2) (hl : a + 1 ≤ s.pl) : InvA N (s.tag k a).pl (s.tag k a) := by
  have h1 := InvA.tagF (s.cutTo (hdIn tgE)).rest.length.succ [] (h.cutTo (hdIn tgE))
  have hm := ((mv_cutTo s (hdIn tgE)).trans (mv_tagF (s.cutTo (hdIn tgE)).rest.length.succ (s.cutTo (hdIn tgE)) [])).pl
  unfold TS.tag
  split
  · split
    · exact (h1.add (t := ⟨2, _, [], false, [], a⟩) (Nat.le_refl _) (by show a + 1 ≤ _; omega) kk2).top
    · refine (h1.add (t := ⟨k, _, _, _, [], a⟩) (Nat.le_refl _) (by show a + 1 ≤ _; omega) ?_).inside _
      rcases hk with rfl | rfl
      · exact kk1
      · exact kk2
  · exact h1.top
theorem InvA.ending (h : InvA N a s) (hl : a + 1 ≤ s.pl) : InvA N (s.ending a).pl (s.ending a) := by
  have haN : a ≤ N := by have := h.plN; omega
  unfold TS.ending
  split
  · exact h.tag (.inr rfl) hl
  · split
    · exact (h.flt (k := 6) (by decide) (by decide) haN).addT _ (Nat.le_refl _) (fun _ => hl)
    · split
      · rename_i hp
        exact ((h.cut (n := 1) (pre_length hp)).flt (by decide) (by decide) haN).top
      · exact (h.note hl).top
theorem InvA.opened (h : InvA N a s) (hl : a + 1 ≤ s.pl) : InvA N (s.opened a).pl (s.opened a) := by
  have haN : a ≤ N := by have := h.plN; omega
  have hc : ∀ n, a + 1 ≤ (s.cut n).pl := fun n => by simp only [TS.cut]; omega
  unfold TS.opened
  split
  · exact h.tag (.inl rfl) hl
  · split
    · rename_i hp
      exact (h.cut (n := 1) (pre_length hp)).ending (hc 1)
    · split
      · rename_i hp
        exact ((h.cut (n := 3) (pre_length hp)).comment (hc 3)).top
      · split
        · rename_i hp
          exact ((h.cut (n := 8) (by unfold anyG at hp; rw [Bool.and_eq_true] at hp; exact of_decide_eq_true hp.1)).doctype (hc 8)).top
        · split
          · rename_i hp
            exact ((h.cut (n := 1) (pre_length hp)).note (hc 1)).top
          · split
            · exact (h.note hl).top
            · exact (h.flt (k := 4) (by decide) (by decide) haN).addT _ (Nat.le_refl _) (fun _ => hl)
theorem InvA.next (h : InvA N s.pl s) (hne : s.rest ≠ []) : InvA N s.next.pl s.next := by
  have hp : 1 ≤ s.rest.length := List.length_pos_iff.2 hne
  obtain ⟨c, r, hr⟩ : ∃ c r, s.rest = c :: r := by
    cases hh : s.rest with
    | nil => exact absurd hh hne
    | cons c r => exact ⟨c, r, rfl⟩
  rw [next_cons hr]
  by_cases h1 : c = 60
  · rw [if_pos h1]
    exact (h.cut hp).opened (by simp only [TS.cut]; omega)
  · rw [if_neg h1]
    by_cases h2 : c = 38
    · rw [if_pos h2]
      have hn := takeL_n s.rest false
      have hfl := fault_le s.rest false
      have hle : (if (takeL s.rest false).n = 0 then 1 else (takeL s.rest false).n) ≤ s.rest.length := by split <;> omega
      have hpos : 1 ≤ (if (takeL s.rest false).n = 0 then 1 else (takeL s.rest false).n) := by split <;> omega
      have hx : InvA N s.pl (s.fltIf (takeL s.rest false).fault s.pl) ∧ (s.fltIf (takeL s.rest false).fault s.pl).rest = s.rest ∧ (s.fltIf (takeL s.rest false).fault s.pl).pl = s.pl := by
        unfold TS.fltIf
        split
        · exact ⟨h, rfl, rfl⟩
        · exact ⟨h.flt (by omega) (by omega) h.plN, rfl, rfl⟩
      obtain ⟨x1, x2, x3⟩ := hx
      refine (x1.cut (n := (if (takeL s.rest false).n = 0 then 1 else (takeL s.rest false).n)) (by rw [x2]; exact hle)).addT _ (Nat.le_refl _) (fun _ => ?_)
      simp only [TS.cut, x3]
      omega
    · rw [if_neg h2]
      by_cases h3 : c = 0
      · rw [if_pos h3]
        exact ((h.flt (k := 3) (by decide) (by decide) h.plN).cut (n := 1) hp).top
      · rw [if_neg h3]
        refine (h.cutTo _).addT _ (Nat.le_refl _) (fun _ => ?_)
        have := upTo_pos (p := hdIn [60, 38, 0]) (hd3 h1 h2 h3 r)
        rw [← hr] at this
        simp only [TS.cutTo, TS.cut]
        omega
end
/-- All of it is read so. -/
theorem InvA.runF {N : Nat} : ∀ (f : Nat) {s : TS}, InvA N s.pl s → s.rest.length ≤ f → ∃ s' : TS, InvA N s'.pl s' ∧ TS.runF f s = s'.endT
  | 0, s, h, _ => ⟨s, h, rfl⟩
  | f + 1, s, h, hf => by
    rw [TS.runF]
    split
    · exact ⟨s, h, rfl⟩
    · rename_i hne
      have := (mv_next s hne).2
      exact InvA.runF f (h.next hne) (by omega)
theorem tok_ord (l : List UInt8) : (∀ t ∈ (tokL l).toks, 1 ≤ t.kind ∧ t.kind ≤ 5 ∧ (t.kind = 3 → t.data ≠ []) ∧ t.pl < l.length) ∧ Asc (tokL l).toks ∧ (∀ f ∈ (tokL l).flts, 1 ≤ f.kind ∧ f.kind ≤ 7 ∧ f.pl ≤ l.length) := by
  have h0 : InvA l.length (TS.new l).pl (TS.new l) := ⟨fun t ht => (by cases ht), fun i h => absurd h (Nat.not_lt_zero _), fun u hu => (by cases hu), fun h => absurd rfl h, fun f hf => (by cases hf), by show 0 + l.length = l.length; omega, Nat.le_refl _⟩
  obtain ⟨s, hs, e⟩ := InvA.runF _ h0 (Nat.le_refl (TS.new l).rest.length)
  have e' : tokL l = s.endT := e
  have hN := hs.plN
  rw [e']
  unfold TS.endT
  split
  · refine ⟨fun t ht => ?_, hs.asc, hs.flts⟩
    have := hs.good t ht
    exact ⟨this.1, this.2.1, this.2.2.1, by omega⟩
  · rename_i ht
    have htx := hs.text ht
    refine ⟨fun t hm => ?_, hs.asc.snoc fun u hu => ⟨(hs.last u hu).2 ht, fun hh => (hs.last u hu).1 hh.1⟩, hs.flts⟩
    rcases List.mem_append.1 hm with hm | hm
    · have := hs.good t hm
      exact ⟨this.1, this.2.1, this.2.2.1, by omega⟩
    · rw [List.mem_singleton.1 hm]
      exact ⟨kk3.1, kk3.2, fun _ => ht, by show s.tat < _; omega⟩
end Go.Proofs.YtncfgahnjakeiabDoor
