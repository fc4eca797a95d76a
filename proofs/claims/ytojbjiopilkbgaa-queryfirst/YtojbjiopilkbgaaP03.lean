/-
 The reader of tokens as plain functions: how far it comes, how much room it wants, what it makes of plain bytes; tokens in memory. No program is named.; The document in memory (DX): its nodes lie in one row of 22 cells each, apart from K; each node's attributes in a row of their own.; Leaves of the 
-/
import Derived.Test.YtojbjiopilkbgaaP01
import Derived.Test.YtojbjiopilkbgaaP02
import Derived.Test.YtojbjiopilkbgaaProg
import Derived.Deep.LoopGhost
import Derived.Deep.Cut
import Derived.Deep.RegionWith
import Derived.Deep.RegionHeld3
import Derived.Deep.RegionLaw
import Derived.Deep.QuietTactic
import Derived.BigQuiet
import Derived.Deep.DeepCutAuto
namespace Go.Proofs.Ytojbjiopilkbgaa
set_option linter.unusedVariables false
set_option maxRecDepth 100000
set_option maxHeartbeats 8000000
section
open Go.RowKit
abbrev sv (l : List UInt8) : Value := .string ⟨l.toArray⟩
def atrCells (l : List Atr) : List Value := l.flatMap fun a => [sv a.name, sv a.value]
def tokCells (t : Tk) (aa : Option Addr) (ac : Nat) : List Value := [.int .u8 (t.kind : Int), sv t.name, .slice aa t.attrs.length ac, .bool t.self, sv t.data, .int .i64 (t.pl : Int)]
theorem atrCells_append (l m : List Atr) : atrCells (l ++ m) = atrCells l ++ atrCells m := by simp [atrCells]
def AtsIn (K : Nat -> Prop) (w : World) (aa : Option Addr) (l : List Atr) : Prop :=
 ∀ j (h : j < l.length), ∃ g, aa = some ⟨g, 0, none⟩ /\ K g /\ w.cell? ⟨g, j * 2, none⟩ = some (sv l[j].name) /\ w.cell? ⟨g, j * 2 + 1, none⟩ = some (sv l[j].value)
theorem AtsIn.nil (K : Nat -> Prop) (w : World) (aa : Option Addr) : AtsIn K w aa [] := fun _ h => absurd h (Nat.not_lt_zero _)
theorem AtsIn.kept {K K' : Nat -> Prop} {w w' : World} {aa : Option Addr} {l : List Atr} (h : AtsIn K w aa l) (hk : Kept K w w') (hm : ∀ k, K k -> K' k) : AtsIn K' w' aa l := fun j hj => by
 obtain ⟨g, h1, h2, h3, h4⟩ := h j hj
 exact ⟨g, h1, hm g h2, by rw [hk.cell (p := ⟨g, j * 2, none⟩) h2]; exact h3, by rw [hk.cell (p := ⟨g, j * 2 + 1, none⟩) h2]; exact h4⟩
def TokRep (K : Nat -> Prop) (w : World) : List Tk -> List Value -> Prop
 | [], cs => cs = []
 | t :: r, cs => ∃ aa ac cs', cs = tokCells t aa ac ++ cs' /\ AtsIn K w aa t.attrs /\ TokRep K w r cs'
theorem TokRep.kept {K K' : Nat -> Prop} {w w' : World} (hk : Kept K w w') (hm : ∀ k, K k -> K' k) : ∀ {l : List Tk} {cs : List Value}, TokRep K w l cs -> TokRep K' w' l cs
 | [], _, h => h
 | _ :: _, _, ⟨aa, ac, cs', h1, h2, h3⟩ => ⟨aa, ac, cs', h1, h2.kept hk hm, TokRep.kept hk hm h3⟩
theorem TokRep.length {K : Nat -> Prop} {w : World} : ∀ {l : List Tk} {cs : List Value}, TokRep K w l cs -> cs.length = l.length * 6
 | [], _, h => by
  have h : _ = [] := h
  subst h
  rfl
 | _ :: _, _, ⟨_, _, cs', h1, _, h3⟩ => by
  have := TokRep.length h3
  subst h1
  simp only [tokCells, List.length_append, List.length_cons, List.length_nil]
  omega
def pot (st : TS) : Nat := st.toks.length + st.flts.length + st.text.length + 16 * st.rest.length
structure Fit (b : Nat) (st : TS) : Prop where
 place : st.pl + st.rest.length < 1000000
 room : pot st <= b
theorem Fit.le {b : Nat} {st : TS} (h : Fit b st) : st.pl + st.rest.length <= 1000000 := Nat.le_of_lt h.place
theorem Fit.mono {b b' : Nat} {st : TS} (h : Fit b st) (hb : b <= b') : Fit b' st := ⟨h.place, Nat.le_trans h.room hb⟩
theorem Fit.cut {b : Nat} {st : TS} (h : Fit b st) {n : Nat} (hn : n <= st.rest.length) : Fit (b - 16 * n) (st.cut n) := by
 obtain ⟨h1, h2⟩ := h
 unfold pot at h2
 refine ⟨?_, ?_⟩
 ·simp only [TS.cut, List.length_drop]; omega
 ·simp only [pot, TS.cut, List.length_drop]; omega
theorem Fit.flt {b : Nat} {st : TS} (h : Fit b st) (k a : Nat) : Fit (b + 1) (st.flt k a) := by
 obtain ⟨h1, h2⟩ := h
 unfold pot at h2
 refine ⟨h1, ?_⟩
 simp only [pot, TS.flt, List.length_append, List.length_cons, List.length_nil]; omega
theorem Fit.endT {b : Nat} {st : TS} (h : Fit b st) : Fit b st.endT := by
 obtain ⟨h1, h2⟩ := h
 unfold TS.endT
 split
 ·exact ⟨h1, h2⟩
 ·rename_i ht
  have : 0 < st.text.length := List.length_pos_iff.2 ht
  unfold pot at h2
  refine ⟨h1, ?_⟩
  simp only [pot, List.length_append, List.length_cons, List.length_nil]; omega
theorem Fit.add {b : Nat} {st : TS} (h : Fit b st) (t : Tk) : Fit (b + 1) (st.add t) := by
 obtain ⟨h1, h2⟩ := h.endT
 unfold pot at h2
 refine ⟨h1, ?_⟩
 simp only [pot, TS.add, List.length_append, List.length_cons, List.length_nil]; omega
theorem Fit.addT {b : Nat} {st : TS} (h : Fit b st) (part : List UInt8) (a : Nat) : Fit (b + part.length) (st.addT part a) := by
 unfold TS.addT
 split
 ·exact h.mono (by omega)
 ·obtain ⟨h1, h2⟩ := h
  unfold pot at h2
  refine ⟨h1, ?_⟩
  simp only [pot, List.length_append]; omega
theorem upTo_le (p : List UInt8 -> Bool) : ∀ l, upTo p l <= l.length
 | [] => Nat.le_refl _
 | c :: r => by
  unfold upTo
  have := upTo_le p r
  split
  ·exact Nat.zero_le _
  ·simp only [List.length_cons]; omega
theorem pre_length {f l : List UInt8} (h : pre f l = true) : f.length <= l.length := prefix_length f l h
theorem sv_size (l : List UInt8) : (⟨l.toArray⟩ : ByteArray).size = l.length := by
 show l.toArray.size = l.length
 simp
theorem Fit.cutTo {b : Nat} {st : TS} (h : Fit b st) (p : List UInt8 -> Bool) : Fit b (st.cutTo p) := (h.cut (upTo_le p st.rest)).mono (by omega)
theorem Fit.cutIf {b : Nat} {st : TS} (h : Fit b st) (f : List UInt8) : Fit b (st.cutIf f) := by
 unfold TS.cutIf
 split
 ·rename_i hp
  exact (h.cut (pre_length hp)).mono (by omega)
 ·exact h
theorem Fit.cmt {b : Nat} {st : TS} (h : Fit b st) (d : List UInt8) (a : Nat) : Fit (b + 1) (st.cmt d a) := h.add _
theorem Fit.front {b : Nat} {st : TS} (h : Fit b st) (p : List UInt8 -> Bool) : (st.front p).length < 1000001 := by
 unfold TS.front
 rw [List.length_take]
 have := h.place
 omega
theorem Fit.dtEnd {b : Nat} {st : TS} (h : Fit b st) : Fit (b + 1) st.dtEnd := by
 unfold TS.dtEnd
 split
 ·rename_i hp
  exact (h.cut (n := 1) (pre_length hp)).mono (by omega)
 ·exact h.flt _ _
theorem Fit.cmtEnd {b : Nat} {st : TS} (h : Fit b st) (a : Nat) : Fit (b + 1) (st.cmtEnd a) := by
 unfold TS.cmtEnd
 split
 ·exact h.flt _ _
 ·split
  ·rename_i hp
   exact (h.cut (n := 3) (pre_length hp)).mono (by omega)
  ·exact (h.cutIf _).flt _ _
theorem cleanL_length : ∀ l : List UInt8, (cleanL l).length <= 3 * l.length
 | [] => Nat.le_refl _
 | c :: r => by
  have := cleanL_length r
  have e : cleanL (c :: r) = cleanB c ++ cleanL r := rfl
  rw [e, List.length_append, List.length_cons]
  unfold cleanB
  split <;> simp only [List.length_cons, List.length_nil] <;> omega
theorem Fit.val2 {b : Nat} {st : TS} (h : Fit b st) : Fit (b + 1) st.val2.st /\ st.val2.v.length <= st.rest.length := by
 have fr : ∀ (s : TS) p, (s.front p).length <= s.rest.length := fun s p => by unfold TS.front; rw [List.length_take]; omega
 have cu : ∀ (s : TS) n, (s.cut n).rest.length <= s.rest.length := fun s n => by simp only [TS.cut, List.length_drop]; omega
 unfold TS.val2
 split
 ·rename_i hp
  have f1 := (h.cut (n := 1) (pre_length hp)).mono (b' := b) (by omega)
  exact ⟨((f1.cutTo _).cutIf _).mono (by omega), Nat.le_trans (fr _ _) (cu _ _)⟩
 ·split
  ·rename_i hp
   have f1 := (h.cut (n := 1) (pre_length hp)).mono (b' := b) (by omega)
   exact ⟨((f1.cutTo _).cutIf _).mono (by omega), Nat.le_trans (fr _ _) (cu _ _)⟩
  ·split
   ·exact ⟨h.flt _ _, Nat.zero_le _⟩
   ·exact ⟨(h.cutTo _).mono (by omega), fr _ _⟩
theorem Fit.value {b : Nat} {st : TS} (h : Fit b st) : Fit (b + 1) st.value.st /\ st.value.v.length <= st.rest.length := by
 have cu : ∀ (s : TS) n, (s.cut n).rest.length <= s.rest.length := fun s n => by simp only [TS.cut, List.length_drop]; omega
 unfold TS.value
 split
 ·rename_i hp
  have f1 := ((h.cutTo (hdOut blk)).cut (n := 1) (pre_length hp)).mono (b' := b) (by omega)
  have := (f1.cutTo (hdOut blk)).val2
  exact ⟨this.1, Nat.le_trans this.2 (Nat.le_trans (cu _ _) (Nat.le_trans (cu _ _) (cu _ _)))⟩
 ·exact ⟨(h.cutTo _).mono (by omega), Nat.zero_le _⟩
abbrev atE : List UInt8 := [9, 10, 12, 32, 47, 62, 61]
theorem Fit.attr {b : Nat} {st : TS} (h : Fit b st) (hne : st.rest ≠ []) (attrs : List Atr) : Fit b (st.attr attrs).st := by
 have hp : 0 < st.rest.length := List.length_pos_iff.2 hne
 have hb : 16 <= b := by have := h.room; unfold pot at this; omega
 have f0 := h.cut (n := 1) (by omega)
 have f1 : Fit (b - 16 + 1) st.first := by
  unfold TS.first
  split
  ·exact f0.flt _ _
  ·exact f0.mono (by omega)
 have f3 := (f1.cutTo (hdIn atE)).value.1
 unfold TS.attr
 split
 ·split
  ·exact (f3.flt 5 st.pl).mono (by omega)
  ·exact f3.mono (by omega)
 ·exact f3.mono (by omega)
theorem attr_few {st : TS} {attrs : List Atr} (h : attrs.length <= 50) : (st.attr attrs).attrs.length <= 50 := by
 unfold TS.attr
 split
 ·split
  ·exact h
  ·rename_i hn
   have : ¬ 50 <= attrs.length := fun hh => hn (.inl hh)
   simp only [List.length_append, List.length_cons, List.length_nil]
   omega
 ·exact h
theorem tagF_succ (f : Nat) (st : TS) (attrs : List Atr) : TS.tagF (f + 1) st attrs =
  if (st.cutTo (hdOut sla)).rest = [] then ⟨(st.cutTo (hdOut sla)).flt 6 (st.cutTo (hdOut sla)).pl, attrs, false, false⟩
  else if pre [62] (st.cutTo (hdOut sla)).rest = true then ⟨(st.cutTo (hdOut sla)).cut 1, attrs, (st.front (hdOut sla)).getLast? == some 47, true⟩
  else TS.tagF f ((st.cutTo (hdOut sla)).attr attrs).st ((st.cutTo (hdOut sla)).attr attrs).attrs := rfl
theorem allL_length (attr : Bool) : ∀ (n : Nat) (l : List UInt8), l.length <= n -> (allL attr l).length <= 4 * l.length
 | 0, l, h => by
  rw [List.eq_nil_of_length_eq_zero (l := l) (by omega)]
  exact Nat.le_refl _
 | n + 1, [], _ => Nat.le_refl _
 | n + 1, c :: r, h => by
  by_cases h0 : (takeL (c :: r) attr).n = 0
  ·rw [allL_none h0]
   have := allL_length attr n r (by simpa using h)
   simp only [List.length_cons]
   omega
  ·rw [allL_some h0, List.length_append]
   have hn := takeL_n (c :: r) attr
   have ht : (takeL (c :: r) attr).text.data.toList.length <= 4 := text_le (c :: r) attr
   have := allL_length attr n ((c :: r).drop (takeL (c :: r) attr).n) (by rw [List.length_drop]; simp only [List.length_cons] at h ⊢; omega)
   rw [List.length_drop] at this
   omega
def Mv (s s' : TS) : Prop := ∃ n, n <= s.rest.length /\ s'.rest = s.rest.drop n /\ s'.pl = s.pl + n
theorem Mv.refl (s : TS) : Mv s s := ⟨0, Nat.zero_le _, rfl, rfl⟩
theorem Mv.of {s s' : TS} (h1 : s'.rest = s.rest) (h2 : s'.pl = s.pl) : Mv s s' := ⟨0, Nat.zero_le _, h1, h2⟩
theorem Mv.trans {a b c : TS} (h : Mv a b) (k : Mv b c) : Mv a c := by
 obtain ⟨n, h1, h2, h3⟩ := h
 obtain ⟨m, k1, k2, k3⟩ := k
 rw [h2, List.length_drop] at k1
 exact ⟨n + m, by omega, by rw [k2, h2, List.drop_drop], by omega⟩
theorem Mv.le {a b : TS} (h : Mv a b) : b.rest.length <= a.rest.length := by
 obtain ⟨n, h1, h2, _⟩ := h
 rw [h2, List.length_drop]
 omega
theorem Mv.pl {a b : TS} (h : Mv a b) : a.pl <= b.pl := by
 obtain ⟨n, _, _, h3⟩ := h
 omega
theorem next_cons {s : TS} {c : UInt8} {r : List UInt8} (h : s.rest = c :: r) : s.next = if c = 60 then s.markup else if c = 38 then s.refr else if c = 0 then (s.flt 3 s.pl).cut 1 else (s.cutTo (hdIn [60, 38, 0])).addT (s.front (hdIn [60, 38, 0])) s.pl := by
 unfold TS.next
 rw [h]
/-! ### Room -/
theorem Fit.note {b : Nat} {s : TS} (h : Fit b s) (a : Nat) : Fit (b + 2) (s.note a) := (((h.flt 7 a).cutTo _).cmt _ _).cutIf _
theorem Fit.comment {b : Nat} {s : TS} (h : Fit b s) (a : Nat) : Fit (b + 2) (s.comment a) := by
 unfold TS.comment
 split
 ·rename_i hp
  exact ((((h.cut (n := 1) (pre_length hp)).mono (b' := b) (by omega)).flt 7 a).cmt _ _)
 ·split
  ·rename_i hp
   exact ((((h.cut (n := 2) (pre_length hp)).mono (b' := b) (by omega)).flt 7 a).cmt _ _)
  ·exact ((h.cutTo _).cmtEnd a).cmt _ _
theorem Fit.doctype {b : Nat} {s : TS} (h : Fit b s) (a : Nat) : Fit (b + 2) (s.doctype a) := ((((h.cutTo _).cutTo _).cutTo _).dtEnd).add _
theorem Fit.tagF {b : Nat} : ∀ (f : Nat) {s : TS} (l : List Atr), Fit b s -> Fit (b + 1) (TS.tagF f s l).st
 | 0, _, _, h => h.mono (by omega)
 | f + 1, s, l, h => by
  rw [tagF_succ]
  split
  ·exact (h.cutTo _).flt _ _
  ·rename_i hne
   split
   ·rename_i hp
    exact ((h.cutTo _).cut (n := 1) (pre_length hp)).mono (by omega)
   ·exact Fit.tagF f _ ((h.cutTo _).attr hne l)
theorem Fit.inside {b : Nat} {s : TS} (h : Fit b s) (name : List UInt8) : Fit b (s.inside name) := by
 have hc := h.cut (upTo_le (endOfP name) s.rest)
 have hfr : (s.front (endOfP name)).length = upTo (endOfP name) s.rest := by
  unfold TS.front
  rw [List.length_take]
  have := upTo_le (endOfP name) s.rest
  omega
 have hcl := cleanL_length (s.front (endOfP name))
 have hal := allL_length false _ (cleanL (s.front (endOfP name))) (Nat.le_refl _)
 have hb : 16 * upTo (endOfP name) s.rest <= b := by
  have := h.room
  have := upTo_le (endOfP name) s.rest
  unfold pot at *
  omega
 unfold TS.inside
 split
 ·exact (hc.addT _ _).mono (by omega)
 ·split
  ·exact (hc.addT _ _).mono (by omega)
  ·exact h
theorem Fit.tag {b : Nat} {s : TS} (h : Fit b s) (k a : Nat) : Fit (b + 2) (s.tag k a) := by
 have m := Fit.tagF (s.cutTo (hdIn tgE)).rest.length.succ [] (h.cutTo (hdIn tgE))
 unfold TS.tag
 split
 ·split
  ·exact m.add _
  ·exact (m.add _).inside _
 ·exact m.mono (by omega)
theorem Fit.ending {b : Nat} {s : TS} (h : Fit b s) (a : Nat) : Fit (b + 3) (s.ending a) := by
 unfold TS.ending
 split
 ·exact (h.tag _ _).mono (by omega)
 ·split
  ·exact ((h.flt 6 a).addT [60, 47] a).mono (by simp only [List.length_cons, List.length_nil]; omega)
  ·split
   ·rename_i hp
    exact ((h.cut (n := 1) (pre_length hp)).flt 4 a).mono (by omega)
   ·exact (h.note a).mono (by omega)
theorem Fit.opened {b : Nat} {s : TS} (h : Fit b s) (a : Nat) : Fit (b + 3) (s.opened a) := by
 unfold TS.opened
 split
 ·exact (h.tag _ _).mono (by omega)
 ·split
  ·rename_i hp
   exact ((h.cut (n := 1) (pre_length hp)).ending a).mono (by omega)
  ·split
   ·rename_i hp
    exact ((h.cut (n := 3) (pre_length hp)).comment a).mono (by omega)
   ·split
    ·rename_i hp
     exact ((h.cut (n := 8) (by unfold anyG at hp; rw [Bool.and_eq_true] at hp; exact of_decide_eq_true hp.1)).doctype a).mono (by omega)
    ·split
     ·rename_i hp
      exact ((h.cut (n := 1) (pre_length hp)).note a).mono (by omega)
     ·split
      ·exact (h.note a).mono (by omega)
      ·exact ((h.flt 4 a).addT [60] a).mono (by simp only [List.length_cons, List.length_nil]; omega)
theorem Fit.next {b : Nat} {s : TS} (h : Fit b s) (hne : s.rest ≠ []) : Fit b s.next := by
 have hp : 1 <= s.rest.length := List.length_pos_iff.2 hne
 have hb : 16 * s.rest.length <= b := by have := h.room; unfold pot at this; omega
 obtain ⟨c, r, hr⟩ : ∃ c r, s.rest = c :: r := by
  cases hh : s.rest with
  | nil => exact absurd hh hne
  | cons c r => exact ⟨c, r, rfl⟩
 rw [next_cons hr]
 by_cases h1 : c = 60
 ·rw [if_pos h1]; exact ((h.cut hp).opened s.pl).mono (by omega)
 ·rw [if_neg h1]
  by_cases h2 : c = 38
  ·rw [if_pos h2]
   have hn := takeL_n s.rest false
   have htx := text_le s.rest false
   have hr' : (s.fltIf (takeL s.rest false).fault s.pl).rest = s.rest := by unfold TS.fltIf; split <;> rfl
   have hle : (if (takeL s.rest false).n = 0 then 1 else (takeL s.rest false).n) <= s.rest.length := by split <;> omega
   have hpos : 1 <= (if (takeL s.rest false).n = 0 then 1 else (takeL s.rest false).n) := by split <;> omega
   have htl : (if (takeL s.rest false).n = 0 then [38] else (takeL s.rest false).text.data.toList).length <= 4 := by
    split
    ·decide
    ·exact htx
   have fx : Fit (b + 1) (s.fltIf (takeL s.rest false).fault s.pl) := by
    unfold TS.fltIf
    split
    ·exact h.mono (by omega)
    ·exact h.flt _ _
   exact ((fx.cut (n := (if (takeL s.rest false).n = 0 then 1 else (takeL s.rest false).n)) (by rw [hr']; exact hle)).addT _ _).mono (by omega)
  ·rw [if_neg h2]
   by_cases h3 : c = 0
   ·rw [if_pos h3]; exact ((h.flt 3 s.pl).cut (n := 1) hp).mono (by omega)
   ·rw [if_neg h3]
    have hu := upTo_le (hdIn [60, 38, 0]) s.rest
    have hfr : (s.front (hdIn [60, 38, 0])).length <= upTo (hdIn [60, 38, 0]) s.rest := by unfold TS.front; rw [List.length_take]; omega
    exact ((h.cut hu).addT _ _).mono (by omega)
def plain (c : UInt8) : Prop := c ≠ 60 /\ c ≠ 38 /\ c ≠ 0
theorem Fit.runF {b : Nat} : ∀ (f : Nat) {s : TS}, Fit b s -> Fit b (TS.runF f s)
 | 0, _, h => h.endT
 | f + 1, s, h => by
  rw [TS.runF]
  split
  ·exact h.endT
  ·rename_i hne
   exact Fit.runF f (h.next hne)
def AllA (s : TS) : Prop := ∀ t ∈ s.toks, t.attrs.length <= 50
theorem AllA.of {s s' : TS} (h : AllA s) (e : s'.toks = s.toks) : AllA s' := fun t ht => h t (e ▸ ht)
theorem AllA.endT {s : TS} (h : AllA s) : AllA s.endT := by
 unfold TS.endT
 split
 ·exact h
 ·intro t ht
  rcases List.mem_append.1 ht with ht | ht
  ·exact h t ht
  ·rw [List.mem_singleton.1 ht]
   exact Nat.zero_le _
theorem AllA.add {s : TS} (h : AllA s) {t : Tk} (ht : t.attrs.length <= 50) : AllA (s.add t) := by
 intro u hu
 rcases List.mem_append.1 hu with hu | hu
 ·exact h.endT u hu
 ·rw [List.mem_singleton.1 hu]
  exact ht
theorem tk_addT (s : TS) (p : List UInt8) (a : Nat) : (s.addT p a).toks = s.toks := by unfold TS.addT; split <;> rfl
theorem tk_cutIf (s : TS) (f : List UInt8) : (s.cutIf f).toks = s.toks := by unfold TS.cutIf; split <;> rfl
theorem tk_fltIf (s : TS) (k a : Nat) : (s.fltIf k a).toks = s.toks := by unfold TS.fltIf; split <;> rfl
theorem tk_cmtEnd (s : TS) (a : Nat) : (s.cmtEnd a).toks = s.toks := by
 unfold TS.cmtEnd
 split
 ·rfl
 ·split
  ·rfl
  ·exact tk_cutIf _ _
theorem tk_dtEnd (s : TS) : s.dtEnd.toks = s.toks := by unfold TS.dtEnd; split <;> rfl
theorem tk_val2 (s : TS) : s.val2.st.toks = s.toks := by
 unfold TS.val2
 split
 ·exact tk_cutIf _ _
 ·split
  ·exact tk_cutIf _ _
  ·split <;> rfl
theorem tk_value (s : TS) : s.value.st.toks = s.toks := by
 unfold TS.value
 split
 ·exact tk_val2 _
 ·rfl
theorem tk_first (s : TS) : s.first.toks = s.toks := by unfold TS.first; split <;> rfl
theorem tk_attr (s : TS) (l : List Atr) : (s.attr l).st.toks = s.toks := by
 have e : (s.first.cutTo (hdIn atE)).value.st.toks = s.toks := (tk_value _).trans (tk_first s)
 unfold TS.attr
 split
 ·split
  ·exact e
  ·exact e
 ·exact e
theorem tk_tagF : ∀ (f : Nat) (s : TS) (l : List Atr), (TS.tagF f s l).st.toks = s.toks
 | 0, _, _ => rfl
 | f + 1, s, l => by
  rw [tagF_succ]
  split
  ·rfl
  ·split
   ·rfl
   ·exact (tk_tagF f _ _).trans (tk_attr _ _)
theorem at_tagF : ∀ (f : Nat) (s : TS) (l : List Atr), l.length <= 50 -> (TS.tagF f s l).attrs.length <= 50
 | 0, _, _, h => h
 | f + 1, s, l, h => by
  rw [tagF_succ]
  split
  ·exact h
  ·split
   ·exact h
   ·exact at_tagF f _ _ (attr_few h)
theorem tk_inside (s : TS) (name : List UInt8) : (s.inside name).toks = s.toks := by
 unfold TS.inside
 split
 ·exact tk_addT _ _ _
 ·split
  ·exact tk_addT _ _ _
  ·rfl
theorem AllA.cmt {s : TS} (h : AllA s) (d : List UInt8) (a : Nat) : AllA (s.cmt d a) := h.add (Nat.zero_le _)
theorem AllA.note {s : TS} (h : AllA s) (a : Nat) : AllA (s.note a) := by
 have h1 : AllA (((s.flt 7 a).cutTo (hdIn [62])).cmt (s.front (hdIn [62])) a) := AllA.cmt (AllA.of (s' := (s.flt 7 a).cutTo (hdIn [62])) h rfl) _ _
 exact AllA.of h1 (tk_cutIf _ _)
theorem AllA.tag {s : TS} (h : AllA s) (k a : Nat) : AllA (s.tag k a) := by
 have h1 : AllA ((s.cutTo (hdIn tgE)).tagF (s.cutTo (hdIn tgE)).rest.length.succ []).st := AllA.of h (tk_tagF _ _ _)
 unfold TS.tag
 split
 ·split
  ·exact h1.add (Nat.zero_le _)
  ·exact AllA.of (h1.add (at_tagF _ _ _ (Nat.zero_le _))) (tk_inside _ _)
 ·exact h1
theorem AllA.ending {s : TS} (h : AllA s) (a : Nat) : AllA (s.ending a) := by
 unfold TS.ending
 split
 ·exact h.tag _ _
 ·split
  ·exact AllA.of (s := s.flt 6 a) (AllA.of h rfl) (tk_addT _ _ _)
  ·split
   ·exact AllA.of h rfl
   ·exact h.note a
theorem AllA.opened {s : TS} (h : AllA s) (a : Nat) : AllA (s.opened a) := by
 unfold TS.opened
 split
 ·exact h.tag _ _
 ·split
  ·exact AllA.ending (AllA.of (s' := s.cut 1) h rfl) a
  ·split
   ·unfold TS.comment
    split
    ·exact AllA.cmt (AllA.of (s' := ((s.cut 3).cut 1).flt 7 a) h rfl) _ _
    ·split
     ·exact AllA.cmt (AllA.of (s' := ((s.cut 3).cut 2).flt 7 a) h rfl) _ _
     ·exact AllA.cmt (AllA.of (s := (s.cut 3).cutTo endsC) (AllA.of h rfl) (tk_cmtEnd _ _)) _ _
   ·split
    ·unfold TS.doctype
     exact AllA.add (s := ((((s.cut 8).cutTo (hdOut blk)).cutTo (hdIn [9, 10, 12, 32, 62])).cutTo (hdIn [62])).dtEnd) (AllA.of h (tk_dtEnd _)) (t := ⟨5, _, [], false, [], a⟩) (Nat.zero_le _)
    ·split
     ·exact AllA.note (AllA.of (s' := s.cut 1) h rfl) a
     ·split
      ·exact h.note a
      ·exact AllA.of (s := s.flt 4 a) (AllA.of h rfl) (tk_addT _ _ _)
theorem AllA.next {s : TS} (h : AllA s) : AllA s.next := by
 unfold TS.next
 split
 ·exact h
 ·split
  ·exact AllA.opened (AllA.of (s' := s.cut 1) h rfl) _
  ·split
   ·unfold TS.refr
    refine AllA.of h ((tk_addT _ _ _).trans ?_)
    exact tk_fltIf _ _ _
   ·split
    ·exact AllA.of h rfl
    ·exact AllA.of h (tk_addT _ _ _)
theorem AllA.runF : ∀ (f : Nat) {s : TS}, AllA s -> AllA (TS.runF f s)
 | 0, _, h => h.endT
 | f + 1, s, h => by
  rw [TS.runF]
  split
  ·exact h.endT
  ·exact AllA.runF f h.next
end
section
open Go.RowKit
structure Fg where
 a : Bool
 b : Bool
 c : Bool
 d : Bool
 e : Bool
structure Nd where
 kind : Nat
 name : List UInt8
 data : List UInt8
 attrs : List Atr
 fl : Fg
 shadow : Int
 host : Int
 content : Int
structure Dm where
 limit : Nat
 n : Nat
 nd : Nat -> Nd
 pl : Nat -> Lk
 gf : Nat -> Lk
def ndCells (x : Nd) (p q : Lk) (aa : Option Addr) (ac : Nat) : List Value :=
 [.int .u8 (x.kind : Int), sv x.name, sv x.data, .slice aa x.attrs.length ac, .bool x.fl.a, .bool x.fl.b, .bool x.fl.c, .bool x.fl.d, .bool x.fl.e, .int .i64 x.shadow, .int .i64 x.host, .int .i64 x.content,
  .int .i64 p.up, .int .i64 p.prev, .int .i64 p.next, .int .i64 p.first, .int .i64 p.last, .int .i64 q.up, .int .i64 q.prev, .int .i64 q.next, .int .i64 q.first, .int .i64 q.last]
theorem nd_one (x : Nd) (p q : Lk) (aa : Option Addr) (ac : Nat) : ∀ u ∈ ndCells x p q aa ac, u.oneCell' = true := by
 intro u hu
 simp only [ndCells, List.mem_cons, List.not_mem_nil, or_false] at hu
 rcases hu with rfl | rfl | rfl | rfl | rfl | rfl | rfl | rfl | rfl | rfl | rfl | rfl | rfl | rfl | rfl | rfl | rfl | rfl | rfl | rfl | rfl | rfl <;> rfl
def Dm.cells (S : Dm) (i : Nat) (aa : Option Addr) (ac : Nat) : List Value := ndCells (S.nd i) (S.pl i) (S.gf i) aa ac
theorem Dm.cells_len (S : Dm) (i : Nat) (aa : Option Addr) (ac : Nat) : (S.cells i aa ac).length = 22 := rfl
def DY (K : Nat -> Prop) (w : World) (p : Nat) (S : Dm) (ga : Option Addr) (cap : Nat) : Prop :=
 (∀ k, K k -> k < w.heap.size) /\ ¬ K p /\
  w.heap[p]? = some (.cells #[.int .i64 (S.limit : Int), .slice ga S.n cap] 49 (0, 0)) /\
  ∃ (xs : List Value) (aa : Nat -> Option Addr) (ac : Nat -> Nat),
   OwnZ (fun k => K k \/ k = p) w 55 22 ga S.n cap xs /\
   (∀ i, i < S.n -> ∀ f u, (S.cells i (aa i) (ac i))[f]? = some u -> xs[i * 22 + f]? = some u) /\
   (∀ i, i < S.n -> OwnZ (fun k => K k \/ k = p \/ blkOf ga k) w 39 2 (aa i) (S.nd i).attrs.length (ac i) (atrCells (S.nd i).attrs)) /\
   ∀ i j, i < S.n -> j < S.n -> i ≠ j -> ∀ g, blkOf (aa i) g -> ¬ blkOf (aa j) g
def DX (K : Nat -> Prop) (w : World) (p : Nat) (S : Dm) : Prop := ∃ ga cap, DY K w p S ga cap
theorem DY.lt {K : Nat -> Prop} {w : World} {p : Nat} {S : Dm} {ga : Option Addr} {cap : Nat} (h : DY K w p S ga cap) : ∀ k, K k -> k < w.heap.size := h.1
theorem DY.plt {K : Nat -> Prop} {w : World} {p : Nat} {S : Dm} {ga : Option Addr} {cap : Nat} (h : DY K w p S ga cap) : p < w.heap.size := lt_block h.2.2.1
theorem DY.c0 {K : Nat -> Prop} {w : World} {p : Nat} {S : Dm} {ga : Option Addr} {cap : Nat} (h : DY K w p S ga cap) : w.cell? ⟨p, 0, none⟩ = some (.int .i64 (S.limit : Int)) := by rw [cell_block h.2.2.1]; rfl
theorem DY.c1 {K : Nat -> Prop} {w : World} {p : Nat} {S : Dm} {ga : Option Addr} {cap : Nat} (h : DY K w p S ga cap) : w.cell? ⟨p, 1, none⟩ = some (.slice ga S.n cap) := by rw [cell_block h.2.2.1]; rfl
theorem DY.at {K : Nat -> Prop} {w : World} {p : Nat} {S : Dm} {ga : Option Addr} {cap : Nat} (h : DY K w p S ga cap) (h0 : 0 < S.n) : ∃ g, ga = some ⟨g, 0, none⟩ /\ ¬ K g /\ g ≠ p /\ g < w.heap.size := by
 obtain ⟨_, _, _, xs, aa, ac, ho, _⟩ := h
 obtain ⟨h1, h2, h3, h4⟩ := ho
 rcases h4 with ⟨_, r2⟩ | ⟨g, cur, r1, r2, r3, r4⟩
 ·omega
 ·exact ⟨g, r1, fun hk => r2 (.inl hk), fun e => r2 (.inr e), lt_block r3⟩
theorem DY.cell {K : Nat -> Prop} {w : World} {p : Nat} {S : Dm} {g : Nat} {cap : Nat} (h : DY K w p S (some ⟨g, 0, none⟩) cap) {i : Nat} (hi : i < S.n) :
  ∃ aa ac, (∀ f u, (S.cells i aa ac)[f]? = some u -> w.cell? ⟨g, i * 22 + f, none⟩ = some u) /\ OwnZ (fun k => K k \/ k = p \/ k = g) w 39 2 aa (S.nd i).attrs.length ac (atrCells (S.nd i).attrs) := by
 obtain ⟨_, _, _, xs, aa, ac, ho, hx, ha, _⟩ := h
 refine ⟨aa i, ac i, fun f u hf => ?_, OwnZ.to (ha i hi) (fun x hx hk => ?_) (fun _ _ => rfl)⟩
 ·obtain ⟨g', e, hc⟩ := ho.cell (hx i hi f u hf)
  injection e with e
  injection e with e
  subst e
  exact hc
 ·refine (OwnZ.out (ha i hi) hx).1 ?_
  rcases hk with hk | hk | hk
  ·exact .inl hk
  ·exact .inr (.inl hk)
  ·subst hk; exact .inr (.inr rfl)
theorem DY.fg {K : Nat -> Prop} {w : World} {p : Nat} {S : Dm} {g : Nat} {cap : Nat} (h : DY K w p S (some ⟨g, 0, none⟩) cap) (i : Nat) : w.frozen? ⟨g, i, none⟩ = false := by
 obtain ⟨_, _, _, xs, aa, ac, ho, _⟩ := h
 obtain ⟨h1, h2, h3, h4⟩ := ho
 rcases h4 with ⟨r1, _⟩ | ⟨g', cur, r1, r2, r3, r4⟩
 ·cases r1
 ·injection r1 with r1
  injection r1 with r1
  subst r1
  exact frozen_block r3 i
theorem DY.gk {K : Nat -> Prop} {w : World} {p : Nat} {S : Dm} {g : Nat} {cap : Nat} (h : DY K w p S (some ⟨g, 0, none⟩) cap) : ¬ K g /\ g ≠ p /\ g < w.heap.size := by
 obtain ⟨_, _, _, xs, aa, ac, ho, _⟩ := h
 have := OwnZ.out ho (g := g) rfl
 exact ⟨fun hk => this.1 (.inl hk), fun e => this.1 (.inr e), this.2⟩
theorem DY.kept {K : Nat -> Prop} {w w' : World} {p : Nat} {S : Dm} {ga : Option Addr} {cap : Nat} (h : DY K w p S ga cap) (hk : Kept (fun k => k < w.heap.size) w w') : DY K w' p S ga cap := by
 obtain ⟨h1, h2, h3, xs, aa, ac, ho, hx, ha, hs⟩ := h
 exact ⟨fun k hk' => Nat.lt_of_lt_of_le (h1 k hk') hk.size, h2, by rw [hk.block p (lt_block h3)]; exact h3, xs, aa, ac, OwnZ.to ho (fun g hg => (ho.out hg).1) (fun g hg => hk.block g (ho.out hg).2), hx,
  fun i hi => OwnZ.to (ha i hi) (fun g hg => ((ha i hi).out hg).1) (fun g hg => hk.block g ((ha i hi).out hg).2), hs⟩
theorem DX.kept {K : Nat -> Prop} {w w' : World} {p : Nat} {S : Dm} (h : DX K w p S) (hk : Kept (fun k => k < w.heap.size) w w') : DX K w' p S := by
 obtain ⟨ga, cap, h⟩ := h
 exact ⟨ga, cap, h.kept hk⟩
theorem DX.lt {K : Nat -> Prop} {w : World} {p : Nat} {S : Dm} (h : DX K w p S) : ∀ k, K k -> k < w.heap.size := by
 obtain ⟨ga, cap, h⟩ := h
 exact h.1
theorem DY.more {K K' : Nat -> Prop} {w w' : World} {p : Nat} {S : Dm} {ga : Option Addr} {cap : Nat} (h : DY K w p S ga cap) (hk : Kept (fun k => k < w.heap.size) w w') (hs : ∀ k, K' k -> K k \/ w.heap.size <= k) (hl : ∀ k, K' k -> k < w'.heap.size) : DY K' w' p S ga cap := by
 obtain ⟨h1, h2, h3, xs, aa, ac, ho, hx, ha, hsp⟩ := h
 have hp := lt_block h3
 refine ⟨hl, fun hh => ?_, by rw [hk.block p hp]; exact h3, xs, aa, ac, OwnZ.to ho (fun g hg hh => ?_) (fun g hg => hk.block g (ho.out hg).2), hx, fun i hi => OwnZ.to (ha i hi) (fun g hg hh => ?_) (fun g hg => hk.block g ((ha i hi).out hg).2), hsp⟩
 ·rcases hs p hh with hh | hh
  ·exact h2 hh
  ·omega
 ·rcases hh with hh | hh
  ·rcases hs g hh with hh | hh
   ·exact (ho.out hg).1 (.inl hh)
   ·have := (ho.out hg).2; omega
  ·exact (ho.out hg).1 (.inr hh)
 ·rcases hh with hh | hh
  ·rcases hs g hh with hh | hh
   ·exact ((ha i hi).out hg).1 (.inl hh)
   ·have := ((ha i hi).out hg).2; omega
  ·exact ((ha i hi).out hg).1 (.inr hh)
theorem DX.more {K K' : Nat -> Prop} {w w' : World} {p : Nat} {S : Dm} (h : DX K w p S) (hk : Kept (fun k => k < w.heap.size) w w') (hs : ∀ k, K' k -> K k \/ w.heap.size <= k) (hl : ∀ k, K' k -> k < w'.heap.size) : DX K' w' p S := by
 obtain ⟨ga, cap, h⟩ := h
 exact ⟨ga, cap, h.more hk hs hl⟩
theorem DY.set {K : Nat -> Prop} {w : World} {p : Nat} {S S' : Dm} {g : Nat} {cap : Nat} (h : DY K w p S (some ⟨g, 0, none⟩) cap) {i f : Nat} (hi : i < S.n) (hf : f < 22) {v : Value} (e1 : S'.limit = S.limit) (e2 : S'.n = S.n) (e3 : ∀ j, (S'.nd j).attrs = (S.nd j).attrs)
  (hc : ∀ j aa ac, j ≠ i -> S'.cells j aa ac = S.cells j aa ac) (hd : ∀ aa ac, S'.cells i aa ac = (S.cells i aa ac).set f v) :
  DY K (w.setCell ⟨g, i * 22 + f, none⟩ v) p S' (some ⟨g, 0, none⟩) cap /\ Kept K w (w.setCell ⟨g, i * 22 + f, none⟩ v) := by
 obtain ⟨gk, gp, gl⟩ := h.gk
 obtain ⟨h1, h2, h3, xs, aa, ac, ho, hx, ha, hs⟩ := h
 have kK : Kept K w (w.setCell ⟨g, i * 22 + f, none⟩ v) := (Kept.refl K w).setCell (p := ⟨g, i * 22 + f, none⟩) gk v
 have kG : Kept (fun k => k ≠ g) w (w.setCell ⟨g, i * 22 + f, none⟩ v) := (Kept.refl _ w).setCell (p := ⟨g, i * 22 + f, none⟩) (fun h => h rfl) v
 refine ⟨⟨fun k hk => Nat.lt_of_lt_of_le (h1 k hk) kK.size, h2, ?_, xs.set (i * 22 + f) v, aa, ac, ?_, ?_, fun j hj => ?_, fun j k hj hk => hs j k (by omega) (by omega)⟩, kK⟩
 ·rw [kG.block p (fun e => gp e.symm), e1, e2]; exact h3
 ·obtain ⟨o1, o2, o3, o4⟩ := ho
  rw [e2]
  refine ⟨by rw [List.length_set]; exact o1, o2, o3, ?_⟩
  rcases o4 with ⟨r1, _⟩ | ⟨g', cur, r1, r2, r3, r4, r5⟩
  ·cases r1
  ·injection r1 with r1
   injection r1 with r1
   subst r1
   refine .inr ⟨g, _, rfl, r2, heap_setCell_at r3 _ v, by simp [r4], ?_⟩
   rw [Array.toList_setIfInBounds, <- r5, List.take_set]
 ·intro j hj f' u hu
  rw [e2] at hj
  have hf' : f' < 22 := by
   rcases Nat.lt_or_ge f' 22 with hh | hh
   ·exact hh
   ·rw [List.getElem?_eq_none (by rw [Dm.cells_len]; exact hh)] at hu; cases hu
  by_cases c : j = i
  ·subst c
   rw [hd] at hu
   by_cases c2 : f' = f
   ·subst c2
    have hl : j * 22 + f' < xs.length := by rw [ho.1]; have := Nat.mul_le_mul_right 22 hi; omega
    rw [List.getElem?_set_self (by rw [Dm.cells_len]; exact hf')] at hu
    rw [List.getElem?_set_self hl]
    exact hu
   ·rw [List.getElem?_set_ne (by omega)] at hu
    rw [List.getElem?_set_ne (by omega)]
    exact hx j hj f' u hu
  ·rw [hc j _ _ c] at hu
   rw [List.getElem?_set_ne (by omega)]
   exact hx j hj f' u hu
 ·rw [e2] at hj
  rw [e3]
  refine OwnZ.to (ha j hj) (fun x hx => ((ha j hj).out hx).1) (fun x hx => kG.block x ?_)
  intro e
  subst e
  exact ((ha j hj).out hx).1 (.inr (.inr rfl))
def Dm.setP (S : Dm) (L : Nat -> Lk) : Dm := { S with pl := L }
def Dm.setG (S : Dm) (L : Nat -> Lk) : Dm := { S with gf := L }
def updL (L : Nat -> Lk) (i : Nat) (l : Lk) : Nat -> Lk := fun k => if k = i then l else L k
theorem DY.setPup {K : Nat -> Prop} {w : World} {p : Nat} {S : Dm} {g : Nat} {cap : Nat} (h : DY K w p S (some ⟨g, 0, none⟩) cap) {i : Nat} (hi : i < S.n) (z : Int) :
  DY K (w.setCell ⟨g, i * 22 + 12, none⟩ (.int .i64 z)) p (S.setP (updL S.pl i { S.pl i with up := z })) (some ⟨g, 0, none⟩) cap /\ Kept K w (w.setCell ⟨g, i * 22 + 12, none⟩ (.int .i64 z)) :=
 h.set hi (by omega) rfl rfl (fun _ => rfl) (fun j aa ac hj => by simp only [Dm.cells, Dm.setP, updL, if_neg hj]) (fun aa ac => by simp only [Dm.cells, Dm.setP, updL, if_pos]; rfl)
theorem DY.setPprev {K : Nat -> Prop} {w : World} {p : Nat} {S : Dm} {g : Nat} {cap : Nat} (h : DY K w p S (some ⟨g, 0, none⟩) cap) {i : Nat} (hi : i < S.n) (z : Int) :
  DY K (w.setCell ⟨g, i * 22 + 13, none⟩ (.int .i64 z)) p (S.setP (updL S.pl i { S.pl i with prev := z })) (some ⟨g, 0, none⟩) cap /\ Kept K w (w.setCell ⟨g, i * 22 + 13, none⟩ (.int .i64 z)) :=
 h.set hi (by omega) rfl rfl (fun _ => rfl) (fun j aa ac hj => by simp only [Dm.cells, Dm.setP, updL, if_neg hj]) (fun aa ac => by simp only [Dm.cells, Dm.setP, updL, if_pos]; rfl)
theorem DY.setPnext {K : Nat -> Prop} {w : World} {p : Nat} {S : Dm} {g : Nat} {cap : Nat} (h : DY K w p S (some ⟨g, 0, none⟩) cap) {i : Nat} (hi : i < S.n) (z : Int) :
  DY K (w.setCell ⟨g, i * 22 + 14, none⟩ (.int .i64 z)) p (S.setP (updL S.pl i { S.pl i with next := z })) (some ⟨g, 0, none⟩) cap /\ Kept K w (w.setCell ⟨g, i * 22 + 14, none⟩ (.int .i64 z)) :=
 h.set hi (by omega) rfl rfl (fun _ => rfl) (fun j aa ac hj => by simp only [Dm.cells, Dm.setP, updL, if_neg hj]) (fun aa ac => by simp only [Dm.cells, Dm.setP, updL, if_pos]; rfl)
theorem DY.setPfirst {K : Nat -> Prop} {w : World} {p : Nat} {S : Dm} {g : Nat} {cap : Nat} (h : DY K w p S (some ⟨g, 0, none⟩) cap) {i : Nat} (hi : i < S.n) (z : Int) :
  DY K (w.setCell ⟨g, i * 22 + 15, none⟩ (.int .i64 z)) p (S.setP (updL S.pl i { S.pl i with first := z })) (some ⟨g, 0, none⟩) cap /\ Kept K w (w.setCell ⟨g, i * 22 + 15, none⟩ (.int .i64 z)) :=
 h.set hi (by omega) rfl rfl (fun _ => rfl) (fun j aa ac hj => by simp only [Dm.cells, Dm.setP, updL, if_neg hj]) (fun aa ac => by simp only [Dm.cells, Dm.setP, updL, if_pos]; rfl)
theorem DY.setPlast {K : Nat -> Prop} {w : World} {p : Nat} {S : Dm} {g : Nat} {cap : Nat} (h : DY K w p S (some ⟨g, 0, none⟩) cap) {i : Nat} (hi : i < S.n) (z : Int) :
  DY K (w.setCell ⟨g, i * 22 + 16, none⟩ (.int .i64 z)) p (S.setP (updL S.pl i { S.pl i with last := z })) (some ⟨g, 0, none⟩) cap /\ Kept K w (w.setCell ⟨g, i * 22 + 16, none⟩ (.int .i64 z)) :=
 h.set hi (by omega) rfl rfl (fun _ => rfl) (fun j aa ac hj => by simp only [Dm.cells, Dm.setP, updL, if_neg hj]) (fun aa ac => by simp only [Dm.cells, Dm.setP, updL, if_pos]; rfl)
theorem DY.setGup {K : Nat -> Prop} {w : World} {p : Nat} {S : Dm} {g : Nat} {cap : Nat} (h : DY K w p S (some ⟨g, 0, none⟩) cap) {i : Nat} (hi : i < S.n) (z : Int) :
  DY K (w.setCell ⟨g, i * 22 + 17, none⟩ (.int .i64 z)) p (S.setG (updL S.gf i { S.gf i with up := z })) (some ⟨g, 0, none⟩) cap /\ Kept K w (w.setCell ⟨g, i * 22 + 17, none⟩ (.int .i64 z)) :=
 h.set hi (by omega) rfl rfl (fun _ => rfl) (fun j aa ac hj => by simp only [Dm.cells, Dm.setG, updL, if_neg hj]) (fun aa ac => by simp only [Dm.cells, Dm.setG, updL, if_pos]; rfl)
theorem DY.setGprev {K : Nat -> Prop} {w : World} {p : Nat} {S : Dm} {g : Nat} {cap : Nat} (h : DY K w p S (some ⟨g, 0, none⟩) cap) {i : Nat} (hi : i < S.n) (z : Int) :
  DY K (w.setCell ⟨g, i * 22 + 18, none⟩ (.int .i64 z)) p (S.setG (updL S.gf i { S.gf i with prev := z })) (some ⟨g, 0, none⟩) cap /\ Kept K w (w.setCell ⟨g, i * 22 + 18, none⟩ (.int .i64 z)) :=
 h.set hi (by omega) rfl rfl (fun _ => rfl) (fun j aa ac hj => by simp only [Dm.cells, Dm.setG, updL, if_neg hj]) (fun aa ac => by simp only [Dm.cells, Dm.setG, updL, if_pos]; rfl)
theorem DY.setGnext {K : Nat -> Prop} {w : World} {p : Nat} {S : Dm} {g : Nat} {cap : Nat} (h : DY K w p S (some ⟨g, 0, none⟩) cap) {i : Nat} (hi : i < S.n) (z : Int) :
  DY K (w.setCell ⟨g, i * 22 + 19, none⟩ (.int .i64 z)) p (S.setG (updL S.gf i { S.gf i with next := z })) (some ⟨g, 0, none⟩) cap /\ Kept K w (w.setCell ⟨g, i * 22 + 19, none⟩ (.int .i64 z)) :=
 h.set hi (by omega) rfl rfl (fun _ => rfl) (fun j aa ac hj => by simp only [Dm.cells, Dm.setG, updL, if_neg hj]) (fun aa ac => by simp only [Dm.cells, Dm.setG, updL, if_pos]; rfl)
theorem DY.setGfirst {K : Nat -> Prop} {w : World} {p : Nat} {S : Dm} {g : Nat} {cap : Nat} (h : DY K w p S (some ⟨g, 0, none⟩) cap) {i : Nat} (hi : i < S.n) (z : Int) :
  DY K (w.setCell ⟨g, i * 22 + 20, none⟩ (.int .i64 z)) p (S.setG (updL S.gf i { S.gf i with first := z })) (some ⟨g, 0, none⟩) cap /\ Kept K w (w.setCell ⟨g, i * 22 + 20, none⟩ (.int .i64 z)) :=
 h.set hi (by omega) rfl rfl (fun _ => rfl) (fun j aa ac hj => by simp only [Dm.cells, Dm.setG, updL, if_neg hj]) (fun aa ac => by simp only [Dm.cells, Dm.setG, updL, if_pos]; rfl)
theorem DY.setGlast {K : Nat -> Prop} {w : World} {p : Nat} {S : Dm} {g : Nat} {cap : Nat} (h : DY K w p S (some ⟨g, 0, none⟩) cap) {i : Nat} (hi : i < S.n) (z : Int) :
  DY K (w.setCell ⟨g, i * 22 + 21, none⟩ (.int .i64 z)) p (S.setG (updL S.gf i { S.gf i with last := z })) (some ⟨g, 0, none⟩) cap /\ Kept K w (w.setCell ⟨g, i * 22 + 21, none⟩ (.int .i64 z)) :=
 h.set hi (by omega) rfl rfl (fun _ => rfl) (fun j aa ac hj => by simp only [Dm.cells, Dm.setG, updL, if_neg hj]) (fun aa ac => by simp only [Dm.cells, Dm.setG, updL, if_pos]; rfl)
def Dm.setN (S : Dm) (i : Nat) (x : Nd) : Dm := { S with nd := fun k => if k = i then x else S.nd k }
theorem DY.setNshadow {K : Nat -> Prop} {w : World} {p : Nat} {S : Dm} {g : Nat} {cap : Nat} (h : DY K w p S (some ⟨g, 0, none⟩) cap) {i : Nat} (hi : i < S.n) (z : Int) :
  DY K (w.setCell ⟨g, i * 22 + 9, none⟩ (.int .i64 z)) p (S.setN i { S.nd i with shadow := z }) (some ⟨g, 0, none⟩) cap /\ Kept K w (w.setCell ⟨g, i * 22 + 9, none⟩ (.int .i64 z)) :=
 h.set hi (by omega) rfl rfl (fun j => by simp only [Dm.setN]; split <;> simp_all) (fun j aa ac hj => by simp only [Dm.cells, Dm.setN, if_neg hj]) (fun aa ac => by simp only [Dm.cells, Dm.setN, if_pos]; rfl)
theorem DY.setNhost {K : Nat -> Prop} {w : World} {p : Nat} {S : Dm} {g : Nat} {cap : Nat} (h : DY K w p S (some ⟨g, 0, none⟩) cap) {i : Nat} (hi : i < S.n) (z : Int) :
  DY K (w.setCell ⟨g, i * 22 + 10, none⟩ (.int .i64 z)) p (S.setN i { S.nd i with host := z }) (some ⟨g, 0, none⟩) cap /\ Kept K w (w.setCell ⟨g, i * 22 + 10, none⟩ (.int .i64 z)) :=
 h.set hi (by omega) rfl rfl (fun j => by simp only [Dm.setN]; split <;> simp_all) (fun j aa ac hj => by simp only [Dm.cells, Dm.setN, if_neg hj]) (fun aa ac => by simp only [Dm.cells, Dm.setN, if_pos]; rfl)
theorem DY.setNcontent {K : Nat -> Prop} {w : World} {p : Nat} {S : Dm} {g : Nat} {cap : Nat} (h : DY K w p S (some ⟨g, 0, none⟩) cap) {i : Nat} (hi : i < S.n) (z : Int) :
  DY K (w.setCell ⟨g, i * 22 + 11, none⟩ (.int .i64 z)) p (S.setN i { S.nd i with content := z }) (some ⟨g, 0, none⟩) cap /\ Kept K w (w.setCell ⟨g, i * 22 + 11, none⟩ (.int .i64 z)) :=
 h.set hi (by omega) rfl rfl (fun j => by simp only [Dm.setN]; split <;> simp_all) (fun j aa ac hj => by simp only [Dm.cells, Dm.setN, if_neg hj]) (fun aa ac => by simp only [Dm.cells, Dm.setN, if_pos]; rfl)
end
section
open Go.RowKit
theorem placeOf_any (p g n cap i : Nat) (w : World) (hc : w.cell? ⟨p, 1, none⟩ = some (.slice (some ⟨g, 0, none⟩) n cap)) (hi : i < n) (hn : n <= 1000000000) :
  Calls Try.prog 52 #[.pointer (some ⟨p, 0, none⟩), .int .i64 (i : Int)] w fun e w' => e = .returned (.pointer (some ⟨g, i * 22 + 12, none⟩)) /\ w' = w := by
 go_enter Try.func52, Try.ntmps52
 go_wp2
 go_ret
 exact ⟨rfl, rfl⟩

abbrev chP (p : Nat) : Value := .func (.func 52) #[.pointer (some ⟨p, 0, none⟩)] #[]

theorem kids_any (p : Nat) (w : World) : Calls Try.prog 38 #[.pointer (some ⟨p, 0, none⟩)] w fun e w' => e = .returned (chP p) /\ w' = w := by
 go_enter Try.func38, Try.ntmps38
 go_wp2
 go_ret
 exact ⟨rfl, rfl⟩

theorem at_yes (p g n cap i : Nat) (w : World) (hc : w.cell? ⟨p, 1, none⟩ = some (.slice (some ⟨g, 0, none⟩) n cap)) (hi : i < n) (hn : n <= 1000000000) :
  Calls Try.prog 22 #[.pointer (some ⟨p, 0, none⟩), .int .i64 (i : Int)] w fun e w' => e = .returned (.pointer (some ⟨g, i * 22, none⟩)) /\ w' = w := by
 go_enter Try.func22, Try.ntmps22
 go_wp2
 go_ret
 exact ⟨rfl, rfl⟩
theorem at_no (p n cap : Nat) (ga : Option Addr) (i : Int) (w : World) (hc : w.cell? ⟨p, 1, none⟩ = some (.slice ga n cap)) (hi : i < 0 \/ (n : Int) <= i) (hn : n <= 1000000000) :
  Calls Try.prog 22 #[.pointer (some ⟨p, 0, none⟩), .int .i64 i] w fun e w' => e = .returned (.pointer none) /\ w' = w := by
 rcases hi with hi | hi
 ·have h1 : decide (i < 0) = true := decide_eq_true hi
  go_enter Try.func22, Try.ntmps22
  go_wp2
  go_ret
  exact ⟨rfl, rfl⟩
 ·have h1 : decide (i < 0) = false := decide_eq_false (by omega)
  have h2 : decide (i >= (n : Int)) = true := decide_eq_true (by omega)
  go_enter Try.func22, Try.ntmps22
  go_wp2
  go_ret
  exact ⟨rfl, rfl⟩
end
section
open Go.RowKit
theorem WF.prev_or {n : Nat} {L : Nat -> Lk} {R : Nat -> List Nat} (h : WF n L R) {i u : Nat} (hi : i < n) (hu : (L i).up = (u : Int)) :
  u < n /\ ((L i).prev = -1 \/ ∃ m : Nat, m < n /\ m ≠ i /\ (L i).prev = (m : Int)) /\ ((L i).next = -1 \/ ∃ m : Nat, m < n /\ m ≠ i /\ (L i).next = (m : Int)) := by
 rcases h.inn i hi with h0 | ⟨v, hv, h1, h2⟩
 ·omega
 have : v = u := by omega
 subst this
 obtain ⟨a, b, e⟩ := mem_split h2
 obtain ⟨hp, hq⟩ := h.split hv e
 have hnd := h.nodup v hv
 have hlt := h.lt v hv
 rw [e] at hnd hlt
 have hia : i ∉ a := fun hh => (List.nodup_append.1 hnd).2.2 i hh i (List.mem_cons_self ..) rfl
 have hib : i ∉ b := (List.nodup_cons.1 (List.nodup_append.1 hnd).2.1).1
 refine ⟨hv, ?_, ?_⟩
 ·rw [hp]
  rcases lsD_or a with ⟨-, e1⟩ | ⟨m, m1, e1⟩
  ·exact .inl e1
  ·exact .inr ⟨m, hlt m (List.mem_append_left _ m1), fun e => hia (e ▸ m1), e1⟩
 ·rw [hq]
  rcases hdD_or b with ⟨-, e1⟩ | ⟨m, m1, e1⟩
  ·exact .inl e1
  ·exact .inr ⟨m, hlt m (List.mem_append_right _ (List.mem_cons_of_mem _ m1)), fun e => hib (e ▸ m1), e1⟩
def st1 (L : Nat -> Lk) (i : Nat) : Nat -> Lk := if (L i).prev = -1 then updL L (L i).up.toNat { L (L i).up.toNat with first := (L i).next } else updL L (L i).prev.toNat { L (L i).prev.toNat with next := (L i).next }
def st2 (L : Nat -> Lk) (i : Nat) : Nat -> Lk := if (L i).next = -1 then updL L (L i).up.toNat { L (L i).up.toNat with last := (L i).prev } else updL L (L i).next.toNat { L (L i).next.toNat with prev := (L i).prev }
theorem updL_same (L : Nat -> Lk) (i : Nat) (l : Lk) : updL L i l i = l := if_pos rfl
theorem updL_updL (L : Nat -> Lk) (i : Nat) (a b : Lk) : updL (updL L i a) i b = updL L i b := by
 funext k
 unfold updL
 by_cases c : k = i
 ·rw [if_pos c, if_pos c]
 ·rw [if_neg c, if_neg c, if_neg c]
theorem updL_ne (L : Nat -> Lk) {i k : Nat} (l : Lk) (h : k ≠ i) : updL L i l k = L k := if_neg h
theorem st1_at {L : Nat -> Lk} {i : Nat} (h : (L i).prev = -1 \/ ∃ m : Nat, m ≠ i /\ (L i).prev = (m : Int)) : (st1 L i i).up = (L i).up /\ (st1 L i i).prev = (L i).prev /\ (st1 L i i).next = (L i).next := by
 unfold st1
 rcases h with h | ⟨m, h1, h2⟩
 ·rw [if_pos h]
  unfold updL
  by_cases c : i = (L i).up.toNat
  ·rw [if_pos c, <- c]; exact ⟨rfl, rfl, rfl⟩
  ·rw [if_neg c]; exact ⟨rfl, rfl, rfl⟩
 ·rw [if_neg (by omega)]
  unfold updL
  rw [if_neg (by rw [h2, Int.toNat_natCast]; exact fun e => h1 e.symm)]
  exact ⟨rfl, rfl, rfl⟩
theorem st2_at {L : Nat -> Lk} {i : Nat} (h : (L i).next = -1 \/ ∃ m : Nat, m ≠ i /\ (L i).next = (m : Int)) : (st2 L i i).up = (L i).up /\ (st2 L i i).prev = (L i).prev /\ (st2 L i i).next = (L i).next := by
 unfold st2
 rcases h with h | ⟨m, h1, h2⟩
 ·rw [if_pos h]
  unfold updL
  by_cases c : i = (L i).up.toNat
  ·rw [if_pos c, <- c]; exact ⟨rfl, rfl, rfl⟩
  ·rw [if_neg c]; exact ⟨rfl, rfl, rfl⟩
 ·rw [if_neg (by omega)]
  unfold updL
  rw [if_neg (by rw [h2, Int.toNat_natCast]; exact fun e => h1 e.symm)]
  exact ⟨rfl, rfl, rfl⟩
theorem st_out {L : Nat -> Lk} {i u : Nat} (hu : (L i).up = (u : Int)) (h1 : (L i).prev = -1 \/ ∃ m : Nat, m ≠ i /\ (L i).prev = (m : Int)) (h2 : (L i).next = -1 \/ ∃ m : Nat, m ≠ i /\ (L i).next = (m : Int)) (l : Lk) (hl : l = { st2 (st1 L i) i i with up := -1, prev := -1, next := -1 }) :
  updL (st2 (st1 L i) i) i l = outL L i := by
 subst hl
 obtain ⟨a1, a2, a3⟩ := st1_at h1
 have h2' : (st1 L i i).next = -1 \/ ∃ m : Nat, m ≠ i /\ (st1 L i i).next = (m : Int) := by rw [a3]; exact h2
 obtain ⟨b1, b2, b3⟩ := st2_at h2'
 unfold outL
 rw [if_neg (by omega)]
 funext k
 have key : ∀ k, st2 (st1 L i) i k = ⟨(L k).up, if (k : Int) = (L i).next then (L i).prev else (L k).prev, if (k : Int) = (L i).prev then (L i).next else (L k).next, if (k : Int) = (L i).up /\ (L i).prev = -1 then (L i).next else (L k).first, if (k : Int) = (L i).up /\ (L i).next = -1 then (L i).prev else (L k).last⟩ := by
  intro k
  unfold st2
  rw [a1, a2, a3]
  unfold st1
  rw [hu, Int.toNat_natCast]
  rcases h1 with h1 | ⟨m1, c1, h1⟩
  ·rw [if_pos h1, h1]
   rcases h2 with h2 | ⟨m2, c2, h2⟩
   ·rw [if_pos h2, h2]
    unfold updL
    by_cases c : k = u
    ·subst c; simp
    ·have : ¬ ((k : Int) = (u : Int)) := by omega
     have e1 : ¬ ((k : Int) = -1) := by omega
     simp [*]
   ·have n2 : ¬ (L i).next = -1 := by omega
    simp only [if_neg n2]
    rw [h2, Int.toNat_natCast]
    unfold updL
    have e1 : ¬ ((k : Int) = -1) := by omega
    have e2 : ¬ ((m2 : Int) = -1) := by omega
    by_cases c : k = u
    ·subst c
     by_cases c' : k = m2
     ·subst c'; simp [*]
     ·have : ¬ ((k : Int) = (m2 : Int)) := by omega
      simp [*]
    ·have hku : ¬ ((k : Int) = (u : Int)) := by omega
     by_cases c' : k = m2
     ·subst c'; simp [*]
     ·have : ¬ ((k : Int) = (m2 : Int)) := by omega
      simp [*]
  ·have n1 : ¬ (L i).prev = -1 := by omega
   simp only [if_neg n1]
   rw [h1, Int.toNat_natCast]
   have e1 : ¬ ((k : Int) = -1) := by omega
   have e3 : ¬ ((m1 : Int) = -1) := by omega
   rcases h2 with h2 | ⟨m2, c2, h2⟩
   ·rw [if_pos h2, h2]
    unfold updL
    by_cases c : k = u
    ·subst c
     by_cases c' : k = m1
     ·subst c'; simp [*]
     ·have : ¬ ((k : Int) = (m1 : Int)) := by omega
      simp [*]
    ·have hku : ¬ ((k : Int) = (u : Int)) := by omega
     by_cases c' : k = m1
     ·subst c'; simp [*]
     ·have : ¬ ((k : Int) = (m1 : Int)) := by omega
      simp [*]
   ·have n2 : ¬ (L i).next = -1 := by omega
    simp only [if_neg n2]
    rw [h2, Int.toNat_natCast]
    unfold updL
    have e2 : ¬ ((m2 : Int) = -1) := by omega
    by_cases c : k = m2
    ·subst c
     by_cases c' : k = m1
     ·subst c'; simp [*]
     ·have : ¬ ((k : Int) = (m1 : Int)) := by omega
      simp [*]
    ·have hkm : ¬ ((k : Int) = (m2 : Int)) := by omega
     by_cases c' : k = m1
     ·subst c'; simp [*]
     ·have : ¬ ((k : Int) = (m1 : Int)) := by omega
      simp [*]
 unfold updL
 by_cases c : k = i
 ·subst c
  rw [if_pos rfl, key k]
  simp
 ·rw [if_neg c, key k]
  simp [c]
theorem DY.pcell {K : Nat -> Prop} {w : World} {p : Nat} {S : Dm} {g : Nat} {cap : Nat} (h : DY K w p S (some ⟨g, 0, none⟩) cap) {i : Nat} (hi : i < S.n) :
  w.cell? ⟨g, i * 22 + 12, none⟩ = some (.int .i64 (S.pl i).up) /\ w.cell? ⟨g, i * 22 + 13, none⟩ = some (.int .i64 (S.pl i).prev) /\ w.cell? ⟨g, i * 22 + 14, none⟩ = some (.int .i64 (S.pl i).next) /\ w.cell? ⟨g, i * 22 + 15, none⟩ = some (.int .i64 (S.pl i).first) /\ w.cell? ⟨g, i * 22 + 16, none⟩ = some (.int .i64 (S.pl i).last) := by
 obtain ⟨aa, ac, hc, -⟩ := h.cell hi
 exact ⟨hc 12 _ rfl, hc 13 _ rfl, hc 14 _ rfl, hc 15 _ rfl, hc 16 _ rfl⟩
theorem DY.drew {K : Nat -> Prop} {w : World} {p : Nat} {S : Dm} {ga : Option Addr} {cap : Nat} (h : DY K w p S ga cap) : DY K w.drew p S ga cap := h.kept (Kept.refl _ w).drew
theorem takeOutP (K : Nat -> Prop) (p g cap i : Nat) (S : Dm) (R : Nat -> List Nat) (w : World) (h : DY K w p S (some ⟨g, 0, none⟩) cap) (hW : WF S.n S.pl R) (hi : i < S.n) (hn : S.n <= 1000000000) :
  Calls Try.prog 53 #[chP p, .int .i64 (i : Int)] w fun e w' => e = .returned (.tuple #[]) /\ DY K w' p (S.setP (outL S.pl i)) (some ⟨g, 0, none⟩) cap /\ Kept K w w' := by
 obtain ⟨n, hne⟩ : ∃ n, S.n = n := ⟨_, rfl⟩
 have r1 := fun (j : Nat) (hj : j < n) (X : World) (hX : X.cell? ⟨p, 1, none⟩ = some (.slice (some ⟨g, 0, none⟩) n cap)) => placeOf_any p g n cap j X hX hj (by omega)
 have hc := h.c1
 obtain ⟨c0, c1, c2, -, -⟩ := h.pcell hi
 have HY : Hid (DY K w p S (some ⟨g, 0, none⟩) cap) := h
 have HW : Hid (WF S.n S.pl R) := hW
 have HNE : Hid (S.n = n) := hne
 rw [hne] at hc hi
 rcases hW.inn i (by omega) with hup | ⟨u, hu, hup, -⟩
 ·rw [hup] at c0
  have e : outL S.pl i = S.pl := if_pos hup
  rw [e]
  clear h hW hne hn hup e c1 c2
  have r := r1 i hi w hc
  clear r1
  go_enter Try.func53, Try.ntmps53
  go_wp2_with (go_at_call 52; refine r.mono ?_; rintro e w' ⟨rfl, rfl⟩)
  refine bodyPost_ret (results_none rfl _ _ _) rfl ?_
  exact ⟨rfl, HY.out, Kept.refl _ _⟩
 obtain ⟨hu', hpv, hnx⟩ := hW.prev_or (by omega) hup
 have HP : Hid ((S.pl i).prev = -1 \/ ∃ m : Nat, m < S.n /\ m ≠ i /\ (S.pl i).prev = (m : Int)) := hpv
 have HN : Hid ((S.pl i).next = -1 \/ ∃ m : Nat, m < S.n /\ m ≠ i /\ (S.pl i).next = (m : Int)) := hnx
 have HU : Hid ((S.pl i).up = (u : Int)) := hup
 have h1' : (S.pl i).prev = -1 \/ ∃ m : Nat, m ≠ i /\ (S.pl i).prev = (m : Int) := by
  rcases hpv with h | ⟨m, _, h1, h2⟩
  ·exact .inl h
  ·exact .inr ⟨m, h1, h2⟩
 have h2' : (S.pl i).next = -1 \/ ∃ m : Nat, m ≠ i /\ (S.pl i).next = (m : Int) := by
  rcases hnx with h | ⟨m, _, h1, h2⟩
  ·exact .inl h
  ·exact .inr ⟨m, h1, h2⟩
 have H1 : Hid ((S.pl i).prev = -1 \/ ∃ m : Nat, m ≠ i /\ (S.pl i).prev = (m : Int)) := h1'
 have H2 : Hid ((S.pl i).next = -1 \/ ∃ m : Nat, m ≠ i /\ (S.pl i).next = (m : Int)) := h2'
 rw [hup] at c0
 rw [hne] at hu'
 have hgp := h.gk.2.1
 have hu0 : ((u : Int) == -1) = false := by simp
 have ri := r1 i hi
 have ru := r1 u hu'
 obtain ⟨pv, hpe⟩ : ∃ z, (S.pl i).prev = z := ⟨_, rfl⟩
 obtain ⟨nx, hxe⟩ : ∃ z, (S.pl i).next = z := ⟨_, rfl⟩
 rw [hpe] at c1
 rw [hxe] at c2
 have HPE : Hid ((S.pl i).prev = pv) := hpe
 have HXE : Hid ((S.pl i).next = nx) := hxe
 clear h hW hne hn hup hu hpv hnx hpe hxe h1' h2'
 go_enter Try.func53, Try.ntmps53
 go_upto_if 17 with (go_at_call 52; refine (ri _ hc).mono ?_; rintro e w' ⟨rfl, rfl⟩)
 go_cut [] (fun wx => DY K wx p (S.setP (st1 S.pl i)) (some ⟨g, 0, none⟩) cap /\ Kept K w' wx)
 case first =>
  by_cases hp1 : pv = -1
  ·subst hp1
   have e : st1 S.pl i = updL S.pl u { S.pl u with first := nx } := by
    unfold st1
    rw [if_pos HPE.out, HU.out, Int.toNat_natCast, HXE.out]
   obtain ⟨-, -, -, t3, -⟩ := HY.out.pcell (i := u) (by rw [HNE.out]; exact hu')
   have f3 := HY.out.fg (u * 22 + 15)
   have D := HY.out.setPfirst (i := u) (by rw [HNE.out]; exact hu') nx
   rw [<- e] at D
   have HD : Hid (DY K (w'.setCell ⟨g, u * 22 + 15, none⟩ (.int .i64 nx)) p (S.setP (st1 S.pl i)) (some ⟨g, 0, none⟩) cap) := D.1
   have HK : Hid (Kept K w' (w'.setCell ⟨g, u * 22 + 15, none⟩ (.int .i64 nx))) := D.2
   clear D e HW HP HN HU H1 H2 HPE HXE HNE
   go_wp2_with fail
   go_region_with (go_at_call 52; refine (ru _ ?_).mono ?_; exact hc; rintro e w2 ⟨rfl, rfl⟩)
   all_goals
    go_wp2_with fail
    go_meet
    case rel => exact ⟨HD.out.drew, HK.out.drew⟩
  ·rcases HP.out with e0 | ⟨m, hm, hmi, e0⟩
   ·exact absurd (HPE.out.symm.trans e0) hp1
   have e1 : pv = (m : Int) := HPE.out.symm.trans e0
   subst e1
   rw [HNE.out] at hm
   have e : st1 S.pl i = updL S.pl m { S.pl m with next := nx } := by
    unfold st1
    rw [if_neg (by rw [e0]; exact hp1), e0, Int.toNat_natCast, HXE.out]
   obtain ⟨-, -, t2, -, -⟩ := HY.out.pcell (i := m) (by rw [HNE.out]; exact hm)
   have f2 := HY.out.fg (m * 22 + 14)
   have D := HY.out.setPnext (i := m) (by rw [HNE.out]; exact hm) nx
   rw [<- e] at D
   have HD : Hid (DY K (w'.setCell ⟨g, m * 22 + 14, none⟩ (.int .i64 nx)) p (S.setP (st1 S.pl i)) (some ⟨g, 0, none⟩) cap) := D.1
   have HK : Hid (Kept K w' (w'.setCell ⟨g, m * 22 + 14, none⟩ (.int .i64 nx))) := D.2
   have rm := r1 m hm
   have hm0 : ((m : Int) == -1) = false := by simp
   clear D e e0 HW HP HN HU H1 H2 HPE HXE HNE hp1
   go_wp2_with fail
   go_region_with (go_at_call 52; refine (rm _ ?_).mono ?_; exact hc; rintro e w2 ⟨rfl, rfl⟩)
   all_goals
    go_wp2_with fail
    go_meet
    case rel => exact ⟨HD.out.drew, HK.out.drew⟩
 case rest =>
  obtain ⟨hY1, hK1⟩ := hcut
  obtain ⟨a1, a2, a3⟩ := st1_at H1.out
  have hiS : i < S.n := by rw [HNE.out]; exact hi
  obtain ⟨d0, d1, d2, -, -⟩ := hY1.pcell (i := i) hiS
  have hc' := hY1.c1
  replace d0 : wc.cell? ⟨g, i * 22 + 12, none⟩ = some (.int .i64 (u : Int)) := by rw [<- HU.out, <- a1]; exact d0
  replace d1 : wc.cell? ⟨g, i * 22 + 13, none⟩ = some (.int .i64 pv) := by rw [<- HPE.out, <- a2]; exact d1
  replace d2 : wc.cell? ⟨g, i * 22 + 14, none⟩ = some (.int .i64 nx) := by rw [<- HXE.out, <- a3]; exact d2
  replace hc' : wc.cell? ⟨p, 1, none⟩ = some (.slice (some ⟨g, 0, none⟩) n cap) := by rw [<- HNE.out]; exact hc'
  have HY1 : Hid (DY K wc p (S.setP (st1 S.pl i)) (some ⟨g, 0, none⟩) cap) := hY1
  have HK1 : Hid (Kept K w' wc) := hK1
  have HA : Hid ((st1 S.pl i i).up = (u : Int) /\ (st1 S.pl i i).prev = pv /\ (st1 S.pl i i).next = nx) := ⟨a1.trans HU.out, a2.trans HPE.out, a3.trans HXE.out⟩
  clear hY1 hK1 a1 a2 a3 c0 c1 c2 hc HY
  go_upto_if 46 with fail
  go_cut [] (fun wx => DY K wx p (S.setP (st2 (st1 S.pl i) i)) (some ⟨g, 0, none⟩) cap /\ Kept K w' wx)
  case first =>
   by_cases hp1 : nx = -1
   ·subst hp1
    have e : st2 (st1 S.pl i) i = updL (st1 S.pl i) u { st1 S.pl i u with last := pv } := by
     unfold st2
     rw [if_pos HA.out.2.2, HA.out.1, Int.toNat_natCast, HA.out.2.1]
    obtain ⟨-, -, -, -, t3⟩ := HY1.out.pcell (i := u) (by show u < S.n; rw [HNE.out]; exact hu')
    have f3 := HY1.out.fg (u * 22 + 16)
    have D := HY1.out.setPlast (i := u) (by show u < S.n; rw [HNE.out]; exact hu') pv
    have D1 : DY K (wc.setCell ⟨g, u * 22 + 16, none⟩ (.int .i64 pv)) p (S.setP (updL (st1 S.pl i) u { st1 S.pl i u with last := pv })) (some ⟨g, 0, none⟩) cap := D.1
    rw [<- e] at D1
    have HD : Hid (DY K (wc.setCell ⟨g, u * 22 + 16, none⟩ (.int .i64 pv)) p (S.setP (st2 (st1 S.pl i) i)) (some ⟨g, 0, none⟩) cap) := D1
    have HK : Hid (Kept K w' (wc.setCell ⟨g, u * 22 + 16, none⟩ (.int .i64 pv))) := HK1.out.trans D.2
    clear D D1 e HW HP HN HU H1 H2 HPE HXE HNE HA
    go_wp2_with fail
    go_region_with (go_at_call 52; refine (ru _ ?_).mono ?_; exact hc'; rintro e w2 ⟨rfl, rfl⟩)
    all_goals
     go_wp2_with fail
     go_meet
     case rel => exact ⟨HD.out.drew, HK.out.drew⟩
   ·rcases HN.out with e0 | ⟨m, hm, hmi, e0⟩
    ·exact absurd (HXE.out.symm.trans e0) hp1
    have e1 : nx = (m : Int) := HXE.out.symm.trans e0
    subst e1
    rw [HNE.out] at hm
    have e : st2 (st1 S.pl i) i = updL (st1 S.pl i) m { st1 S.pl i m with prev := pv } := by
     unfold st2
     rw [if_neg (by rw [HA.out.2.2]; exact hp1), HA.out.2.2, Int.toNat_natCast, HA.out.2.1]
    obtain ⟨-, t3, -, -, -⟩ := HY1.out.pcell (i := m) (by show m < S.n; rw [HNE.out]; exact hm)
    have f3 := HY1.out.fg (m * 22 + 13)
    have D := HY1.out.setPprev (i := m) (by show m < S.n; rw [HNE.out]; exact hm) pv
    have D1 : DY K (wc.setCell ⟨g, m * 22 + 13, none⟩ (.int .i64 pv)) p (S.setP (updL (st1 S.pl i) m { st1 S.pl i m with prev := pv })) (some ⟨g, 0, none⟩) cap := D.1
    rw [<- e] at D1
    have HD : Hid (DY K (wc.setCell ⟨g, m * 22 + 13, none⟩ (.int .i64 pv)) p (S.setP (st2 (st1 S.pl i) i)) (some ⟨g, 0, none⟩) cap) := D1
    have HK : Hid (Kept K w' (wc.setCell ⟨g, m * 22 + 13, none⟩ (.int .i64 pv))) := HK1.out.trans D.2
    have rm := r1 m hm
    have hm0 : ((m : Int) == -1) = false := by simp
    clear D D1 e e0 HW HP HN HU H1 H2 HPE HXE HNE HA hp1
    go_wp2_with fail
    go_region_with (go_at_call 52; refine (rm _ ?_).mono ?_; exact hc'; rintro e w2 ⟨rfl, rfl⟩)
    all_goals
     go_wp2_with fail
     go_meet
     case rel => exact ⟨HD.out.drew, HK.out.drew⟩
  case rest =>
   obtain ⟨hY2, hK2⟩ := hcut
   obtain ⟨e0, e1, e2, -, -⟩ := hY2.pcell (i := i) hiS
   have f0 := hY2.fg (i * 22 + 12)
   have f1 := hY2.fg (i * 22 + 13)
   have f2 := hY2.fg (i * 22 + 14)
   have D1 := hY2.setPup (i := i) hiS (-1)
   have D2 := D1.1.setPprev (i := i) hiS (-1)
   have D3 := D2.1.setPnext (i := i) hiS (-1)
   have HK3 : Hid (Kept K w' (((wc.setCell ⟨g, i * 22 + 12, none⟩ (.int .i64 (-1))).setCell ⟨g, i * 22 + 13, none⟩ (.int .i64 (-1))).setCell ⟨g, i * 22 + 14, none⟩ (.int .i64 (-1)))) := hK2.trans (D1.2.trans (D2.2.trans D3.2))
   have HD3 := D3.1
   have eo : updL (updL (updL (st2 (st1 S.pl i) i) i { st2 (st1 S.pl i) i i with up := -1 }) i { updL (st2 (st1 S.pl i) i) i { st2 (st1 S.pl i) i i with up := -1 } i with prev := -1 }) i { updL (updL (st2 (st1 S.pl i) i) i { st2 (st1 S.pl i) i i with up := -1 }) i { updL (st2 (st1 S.pl i) i) i { st2 (st1 S.pl i) i i with up := -1 } i with prev := -1 } i with next := -1 } = outL S.pl i := by
    rw [updL_updL, updL_updL, updL_same, updL_same]
    exact st_out HU.out H1.out H2.out _ rfl
   replace HD3 : Hid (DY K (((wc.setCell ⟨g, i * 22 + 12, none⟩ (.int .i64 (-1))).setCell ⟨g, i * 22 + 13, none⟩ (.int .i64 (-1))).setCell ⟨g, i * 22 + 14, none⟩ (.int .i64 (-1))) p (S.setP (outL S.pl i)) (some ⟨g, 0, none⟩) cap) := by
    rw [<- eo]
    exact HD3
   clear D1 D2 D3 hY2 hK2 eo HW HP HN HU H1 H2 HPE HXE HNE HA HY1 HK1 hc' d0 d1 d2
   go_wp2
   go_end0
   exact ⟨rfl, HD3.out, HK3.out⟩
end
end Go.Proofs.Ytojbjiopilkbgaa
