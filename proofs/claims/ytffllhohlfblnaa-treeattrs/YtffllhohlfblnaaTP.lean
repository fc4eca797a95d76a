/-
  The reader of tokens as plain functions: how far it comes, how much room it wants, what it makes of plain bytes; tokens in memory. No program is named.
-/
import Derived.Test.YtffllhohlfblnaaMem
import Derived.Test.YtffllhohlfblnaaTok
import Derived.Test.YtffllhohlfblnaaEsc
namespace Go.Proofs.Ytffllhohlfblnaa
open Go.RowKit

abbrev sv (l : List UInt8) : Value := .string ⟨l.toArray⟩
/-- The cells of attributes. -/
def atrCells (l : List Atr) : List Value := l.flatMap fun a => [sv a.name, sv a.value]
def fltCells (l : List Fl) : List Value := l.flatMap fun f => [.int .u8 (f.kind : Int), .int .i64 (f.pl : Int)]
def tokCells (t : Tk) (aa : Option Addr) (ac : Nat) : List Value := [.int .u8 (t.kind : Int), sv t.name, .slice aa t.attrs.length ac, .bool t.self, sv t.data, .int .i64 (t.pl : Int)]
theorem atrCells_append (l m : List Atr) : atrCells (l ++ m) = atrCells l ++ atrCells m := by simp [atrCells]
theorem fltCells_append (l m : List Fl) : fltCells (l ++ m) = fltCells l ++ fltCells m := by simp [fltCells]
theorem atrCells_length : ∀ l : List Atr, (atrCells l).length = l.length * 2
  | [] => rfl
  | a :: r => by
    have := atrCells_length r
    simp only [atrCells, List.flatMap_cons, List.length_append, List.length_cons, List.length_nil] at this ⊢
    omega
theorem fltCells_length : ∀ l : List Fl, (fltCells l).length = l.length * 2
  | [] => rfl
  | a :: r => by
    have := fltCells_length r
    simp only [fltCells, List.flatMap_cons, List.length_append, List.length_cons, List.length_nil] at this ⊢
    omega
theorem atrCells_get : ∀ (l : List Atr) (j : Nat) (h : j < l.length), (atrCells l)[j * 2]? = some (sv l[j].name) ∧ (atrCells l)[j * 2 + 1]? = some (sv l[j].value)
  | [], _, h => absurd h (Nat.not_lt_zero _)
  | a :: r, 0, _ => ⟨rfl, rfl⟩
  | a :: r, j + 1, h => by
    have ih := atrCells_get r j (by simpa using h)
    have e : atrCells (a :: r) = sv a.name :: sv a.value :: atrCells r := rfl
    rw [e, show (j + 1) * 2 = j * 2 + 2 by omega]
    exact ih
theorem fltCells_get : ∀ (l : List Fl) (j : Nat) (h : j < l.length), (fltCells l)[j * 2]? = some (.int .u8 (l[j].kind : Int)) ∧ (fltCells l)[j * 2 + 1]? = some (.int .i64 (l[j].pl : Int))
  | [], _, h => absurd h (Nat.not_lt_zero _)
  | a :: r, 0, _ => ⟨rfl, rfl⟩
  | a :: r, j + 1, h => by
    have ih := fltCells_get r j (by simpa using h)
    have e : fltCells (a :: r) = .int .u8 (a.kind : Int) :: .int .i64 (a.pl : Int) :: fltCells r := rfl
    rw [e, show (j + 1) * 2 = j * 2 + 2 by omega]
    exact ih
/-- Attributes lie at a slice whose block is kept. -/
def AtsIn (K : Nat → Prop) (w : World) (aa : Option Addr) (l : List Atr) : Prop :=
  ∀ j (h : j < l.length), ∃ g o, aa = some ⟨g, o, none⟩ ∧ K g ∧ w.cell? ⟨g, o + j * 2, none⟩ = some (sv l[j].name) ∧ w.cell? ⟨g, o + j * 2 + 1, none⟩ = some (sv l[j].value)
theorem AtsIn.nil (K : Nat → Prop) (w : World) (aa : Option Addr) : AtsIn K w aa [] := fun _ h => absurd h (Nat.not_lt_zero _)
theorem AtsIn.kept {K K' : Nat → Prop} {w w' : World} {aa : Option Addr} {l : List Atr} (h : AtsIn K w aa l) (hk : Kept K w w') (hm : ∀ k, K k → K' k) : AtsIn K' w' aa l := fun j hj => by
  obtain ⟨g, o, h1, h2, h3, h4⟩ := h j hj
  exact ⟨g, o, h1, hm g h2, by rw [hk.cell (p := ⟨g, o + j * 2, none⟩) h2]; exact h3, by rw [hk.cell (p := ⟨g, o + j * 2 + 1, none⟩) h2]; exact h4⟩
/-- Tokens, as cells. -/
def TokRep (K : Nat → Prop) (w : World) : List Tk → List Value → Prop
  | [], cs => cs = []
  | t :: r, cs => ∃ aa ac cs', cs = tokCells t aa ac ++ cs' ∧ AtsIn K w aa t.attrs ∧ TokRep K w r cs'
theorem TokRep.kept {K K' : Nat → Prop} {w w' : World} (hk : Kept K w w') (hm : ∀ k, K k → K' k) : ∀ {l : List Tk} {cs : List Value}, TokRep K w l cs → TokRep K' w' l cs
  | [], _, h => h
  | _ :: _, _, ⟨aa, ac, cs', h1, h2, h3⟩ => ⟨aa, ac, cs', h1, h2.kept hk hm, TokRep.kept hk hm h3⟩
theorem TokRep.snoc {K : Nat → Prop} {w : World} {t : Tk} {aa : Option Addr} {ac : Nat} (ha : AtsIn K w aa t.attrs) : ∀ {l : List Tk} {cs : List Value}, TokRep K w l cs → TokRep K w (l ++ [t]) (cs ++ tokCells t aa ac)
  | [], _, h => by
    have h : _ = [] := h
    subst h
    exact ⟨aa, ac, [], by simp, ha, rfl⟩
  | _ :: _, _, ⟨aa', ac', cs', h1, h2, h3⟩ => by
    subst h1
    exact ⟨aa', ac', cs' ++ tokCells t aa ac, by simp, h2, TokRep.snoc ha h3⟩
theorem TokRep.length {K : Nat → Prop} {w : World} : ∀ {l : List Tk} {cs : List Value}, TokRep K w l cs → cs.length = l.length * 6
  | [], _, h => by
    have h : _ = [] := h
    subst h
    rfl
  | _ :: _, _, ⟨_, _, cs', h1, _, h3⟩ => by
    have := TokRep.length h3
    subst h1
    simp only [tokCells, List.length_append, List.length_cons, List.length_nil]
    omega
theorem TokRep.get {K : Nat → Prop} {w : World} : ∀ {l : List Tk} {cs : List Value}, TokRep K w l cs → ∀ (j : Nat) (h : j < l.length), ∃ aa ac, AtsIn K w aa l[j].attrs ∧ ∀ i u, (tokCells l[j] aa ac)[i]? = some u → cs[j * 6 + i]? = some u
  | [], _, _, _, h => absurd h (Nat.not_lt_zero _)
  | t :: r, _, ⟨aa, ac, cs', h1, h2, h3⟩, 0, _ => by
    subst h1
    refine ⟨aa, ac, h2, fun i u hi => ?_⟩
    have hi' : (tokCells t aa ac)[i]? = some u := hi
    have hil : i < (tokCells t aa ac).length := by
      rcases Nat.lt_or_ge i (tokCells t aa ac).length with hl | hg
      · exact hl
      · rw [List.getElem?_eq_none hg] at hi'; cases hi'
    rw [Nat.zero_mul, Nat.zero_add, List.getElem?_append_left hil, hi']
  | t :: r, _, ⟨aa, ac, cs', h1, h2, h3⟩, j + 1, h => by
    subst h1
    obtain ⟨aa', ac', q1, q2⟩ := TokRep.get h3 j (by simpa using h)
    refine ⟨aa', ac', q1, fun i u hi => ?_⟩
    have hl : (tokCells t aa ac).length = 6 := rfl
    rw [List.getElem?_append_right (by rw [hl]; omega), hl, show (j + 1) * 6 + i - 6 = j * 6 + i by omega]
    exact q2 i u hi
/-- How much room is wanted yet. -/
def pot (st : TS) : Nat := st.toks.length + st.flts.length + st.text.length + 16 * st.rest.length
structure Fit (b : Nat) (st : TS) : Prop where
  place : st.pl + st.rest.length < 1000000
  room : pot st ≤ b
theorem Fit.le {b : Nat} {st : TS} (h : Fit b st) : st.pl + st.rest.length ≤ 1000000 := Nat.le_of_lt h.place
theorem Fit.mono {b b' : Nat} {st : TS} (h : Fit b st) (hb : b ≤ b') : Fit b' st := ⟨h.place, Nat.le_trans h.room hb⟩
theorem Fit.cut {b : Nat} {st : TS} (h : Fit b st) {n : Nat} (hn : n ≤ st.rest.length) : Fit (b - 16 * n) (st.cut n) := by
  obtain ⟨h1, h2⟩ := h
  unfold pot at h2
  refine ⟨?_, ?_⟩
  · simp only [TS.cut, List.length_drop]; omega
  · simp only [pot, TS.cut, List.length_drop]; omega
theorem Fit.flt {b : Nat} {st : TS} (h : Fit b st) (k a : Nat) : Fit (b + 1) (st.flt k a) := by
  obtain ⟨h1, h2⟩ := h
  unfold pot at h2
  refine ⟨h1, ?_⟩
  simp only [pot, TS.flt, List.length_append, List.length_cons, List.length_nil]; omega
theorem Fit.endT {b : Nat} {st : TS} (h : Fit b st) : Fit b st.endT := by
  obtain ⟨h1, h2⟩ := h
  unfold TS.endT
  split
  · exact ⟨h1, h2⟩
  · rename_i ht
    have : 0 < st.text.length := List.length_pos_iff.2 ht
    unfold pot at h2
    refine ⟨h1, ?_⟩
    simp only [pot, List.length_append, List.length_cons, List.length_nil]; omega
theorem Fit.add {b : Nat} {st : TS} (h : Fit b st) (t : Tk) : Fit (b + 1) (st.add t) := by
  obtain ⟨h1, h2⟩ := h.endT
  unfold pot at h2
  refine ⟨h1, ?_⟩
  simp only [pot, TS.add, List.length_append, List.length_cons, List.length_nil]; omega
theorem Fit.addT {b : Nat} {st : TS} (h : Fit b st) (part : List UInt8) (a : Nat) : Fit (b + part.length) (st.addT part a) := by
  unfold TS.addT
  split
  · exact h.mono (by omega)
  · obtain ⟨h1, h2⟩ := h
    unfold pot at h2
    refine ⟨h1, ?_⟩
    simp only [pot, List.length_append]; omega
theorem upTo_le (p : List UInt8 → Bool) : ∀ l, upTo p l ≤ l.length
  | [] => Nat.le_refl _
  | c :: r => by
    unfold upTo
    have := upTo_le p r
    split
    · exact Nat.zero_le _
    · simp only [List.length_cons]; omega
theorem pre_length {f l : List UInt8} (h : pre f l = true) : f.length ≤ l.length := prefix_length f l h
theorem sv_size (l : List UInt8) : (⟨l.toArray⟩ : ByteArray).size = l.length := by
  show l.toArray.size = l.length
  simp
theorem sv_extract (l : List UInt8) (a b : Nat) : (⟨l.toArray⟩ : ByteArray).extract a b = ⟨((l.take b).drop a).toArray⟩ := by
  apply ByteArray.ext
  rw [ByteArray.data_extract]
  simp [List.drop_take]
theorem upTo_cons (p : List UInt8 → Bool) (c : UInt8) (r : List UInt8) : upTo p (c :: r) = if p (c :: r) = true then 0 else upTo p r + 1 := rfl
theorem upTo_drop {p : List UInt8 → Bool} : ∀ (l : List UInt8) (k : Nat), k ≤ upTo p l → upTo p l = k + upTo p (l.drop k)
  | _, 0, _ => by simp
  | [], k + 1, h => by cases h
  | c :: r, k + 1, h => by
    rw [upTo_cons] at h ⊢
    split at h
    · omega
    · rename_i hc
      rw [if_neg hc, upTo_drop r k (by omega), List.drop_succ_cons]
      omega
theorem Fit.cutTo {b : Nat} {st : TS} (h : Fit b st) (p : List UInt8 → Bool) : Fit b (st.cutTo p) := (h.cut (upTo_le p st.rest)).mono (by omega)
theorem Fit.cutIf {b : Nat} {st : TS} (h : Fit b st) (f : List UInt8) : Fit b (st.cutIf f) := by
  unfold TS.cutIf
  split
  · rename_i hp
    exact (h.cut (pre_length hp)).mono (by omega)
  · exact h
theorem Fit.cmt {b : Nat} {st : TS} (h : Fit b st) (d : List UInt8) (a : Nat) : Fit (b + 1) (st.cmt d a) := h.add _
theorem Fit.front {b : Nat} {st : TS} (h : Fit b st) (p : List UInt8 → Bool) : (st.front p).length < 1000001 := by
  unfold TS.front
  rw [List.length_take]
  have := h.place
  omega
theorem Fit.front1 {b : Nat} {st : TS} (h : Fit b st) (p : List UInt8 → Bool) : (st.front p).length < 1000000 := by
  unfold TS.front
  rw [List.length_take]
  have := h.place
  omega
theorem Fit.dtEnd {b : Nat} {st : TS} (h : Fit b st) : Fit (b + 1) st.dtEnd := by
  unfold TS.dtEnd
  split
  · rename_i hp
    exact (h.cut (n := 1) (pre_length hp)).mono (by omega)
  · exact h.flt _ _
theorem Fit.cmtEnd {b : Nat} {st : TS} (h : Fit b st) (a : Nat) : Fit (b + 1) (st.cmtEnd a) := by
  unfold TS.cmtEnd
  split
  · exact h.flt _ _
  · split
    · rename_i hp
      exact (h.cut (n := 3) (pre_length hp)).mono (by omega)
    · exact (h.cutIf _).flt _ _
theorem cleanL_length : ∀ l : List UInt8, (cleanL l).length ≤ 3 * l.length
  | [] => Nat.le_refl _
  | c :: r => by
    have := cleanL_length r
    have e : cleanL (c :: r) = cleanB c ++ cleanL r := rfl
    rw [e, List.length_append, List.length_cons]
    unfold cleanB
    split <;> simp only [List.length_cons, List.length_nil] <;> omega
theorem cleanL_append (a b : List UInt8) : cleanL (a ++ b) = cleanL a ++ cleanL b := by simp [cleanL]
theorem lowL_length (l : List UInt8) : (lowL l).length = l.length := by simp [lowL]
theorem Fit.val2 {b : Nat} {st : TS} (h : Fit b st) : Fit (b + 1) st.val2.st ∧ st.val2.v.length ≤ st.rest.length := by
  have fr : ∀ (s : TS) p, (s.front p).length ≤ s.rest.length := fun s p => by unfold TS.front; rw [List.length_take]; omega
  have cu : ∀ (s : TS) n, (s.cut n).rest.length ≤ s.rest.length := fun s n => by simp only [TS.cut, List.length_drop]; omega
  unfold TS.val2
  split
  · rename_i hp
    have f1 := (h.cut (n := 1) (pre_length hp)).mono (b' := b) (by omega)
    exact ⟨((f1.cutTo _).cutIf _).mono (by omega), Nat.le_trans (fr _ _) (cu _ _)⟩
  · split
    · rename_i hp
      have f1 := (h.cut (n := 1) (pre_length hp)).mono (b' := b) (by omega)
      exact ⟨((f1.cutTo _).cutIf _).mono (by omega), Nat.le_trans (fr _ _) (cu _ _)⟩
    · split
      · exact ⟨h.flt _ _, Nat.zero_le _⟩
      · exact ⟨(h.cutTo _).mono (by omega), fr _ _⟩
theorem Fit.value {b : Nat} {st : TS} (h : Fit b st) : Fit (b + 1) st.value.st ∧ st.value.v.length ≤ st.rest.length := by
  have cu : ∀ (s : TS) n, (s.cut n).rest.length ≤ s.rest.length := fun s n => by simp only [TS.cut, List.length_drop]; omega
  unfold TS.value
  split
  · rename_i hp
    have f1 := ((h.cutTo (hdOut blk)).cut (n := 1) (pre_length hp)).mono (b' := b) (by omega)
    have := (f1.cutTo (hdOut blk)).val2
    exact ⟨this.1, Nat.le_trans this.2 (Nat.le_trans (cu _ _) (Nat.le_trans (cu _ _) (cu _ _)))⟩
  · exact ⟨(h.cutTo _).mono (by omega), Nat.zero_le _⟩
abbrev atE : List UInt8 := [9, 10, 12, 32, 47, 62, 61]
theorem val2_le (st : TS) : st.val2.st.rest.length ≤ st.rest.length := by
  have cu : ∀ (s : TS) n, (s.cut n).rest.length ≤ s.rest.length := fun s n => by simp only [TS.cut, List.length_drop]; omega
  have ci : ∀ (s : TS) f, (s.cutIf f).rest.length ≤ s.rest.length := fun s f => by unfold TS.cutIf; split; exact cu _ _; exact Nat.le_refl _
  unfold TS.val2
  repeat' split
  · exact Nat.le_trans (ci _ _) (Nat.le_trans (cu _ _) (cu _ _))
  · exact Nat.le_trans (ci _ _) (Nat.le_trans (cu _ _) (cu _ _))
  · exact Nat.le_refl _
  · exact cu _ _
theorem value_le (st : TS) : st.value.st.rest.length ≤ st.rest.length := by
  have cu : ∀ (s : TS) n, (s.cut n).rest.length ≤ s.rest.length := fun s n => by simp only [TS.cut, List.length_drop]; omega
  unfold TS.value
  split
  · exact Nat.le_trans (val2_le _) (Nat.le_trans (cu _ _) (Nat.le_trans (cu _ _) (cu _ _)))
  · exact cu _ _
theorem first_lt {st : TS} (h : st.rest ≠ []) : st.first.rest.length < st.rest.length := by
  have : 0 < st.rest.length := List.length_pos_iff.2 h
  unfold TS.first
  split <;> simp only [TS.flt, TS.cut, List.length_drop] <;> omega
theorem attr_lt {st : TS} (h : st.rest ≠ []) (attrs : List Atr) : (st.attr attrs).st.rest.length < st.rest.length := by
  have h1 := first_lt h
  have h2 := value_le (st.first.cutTo (hdIn atE))
  have h3 : (st.first.cutTo (hdIn atE)).rest.length ≤ st.first.rest.length := by simp only [TS.cutTo, TS.cut, List.length_drop]; omega
  unfold TS.attr
  split
  · split
    · show (TS.flt _ _ _).rest.length < _
      exact Nat.lt_of_le_of_lt (Nat.le_trans h2 h3) h1
    · exact Nat.lt_of_le_of_lt (Nat.le_trans h2 h3) h1
  · exact Nat.lt_of_le_of_lt (Nat.le_trans h2 h3) h1
theorem Fit.attr {b : Nat} {st : TS} (h : Fit b st) (hne : st.rest ≠ []) (attrs : List Atr) : Fit b (st.attr attrs).st := by
  have hp : 0 < st.rest.length := List.length_pos_iff.2 hne
  have hb : 16 ≤ b := by have := h.room; unfold pot at this; omega
  have f0 := h.cut (n := 1) (by omega)
  have f1 : Fit (b - 16 + 1) st.first := by
    unfold TS.first
    split
    · exact f0.flt _ _
    · exact f0.mono (by omega)
  have f3 := (f1.cutTo (hdIn atE)).value.1
  unfold TS.attr
  split
  · split
    · exact (f3.flt 5 st.pl).mono (by omega)
    · exact f3.mono (by omega)
  · exact f3.mono (by omega)
theorem attr_few {st : TS} {attrs : List Atr} (h : attrs.length ≤ 50) : (st.attr attrs).attrs.length ≤ 50 := by
  unfold TS.attr
  split
  · split
    · exact h
    · rename_i hn
      have : ¬ 50 ≤ attrs.length := fun hh => hn (.inl hh)
      simp only [List.length_append, List.length_cons, List.length_nil]
      omega
  · exact h
theorem tagF_succ (f : Nat) (st : TS) (attrs : List Atr) : TS.tagF (f + 1) st attrs =
    if (st.cutTo (hdOut sla)).rest = [] then ⟨(st.cutTo (hdOut sla)).flt 6 (st.cutTo (hdOut sla)).pl, attrs, false, false⟩
    else if pre [62] (st.cutTo (hdOut sla)).rest = true then ⟨(st.cutTo (hdOut sla)).cut 1, attrs, (st.front (hdOut sla)).getLast? == some 47, true⟩
    else TS.tagF f ((st.cutTo (hdOut sla)).attr attrs).st ((st.cutTo (hdOut sla)).attr attrs).attrs := rfl
theorem tagF_enough : ∀ (f g : Nat) (s : TS) (attrs : List Atr), s.rest.length < f → s.rest.length < g → TS.tagF f s attrs = TS.tagF g s attrs
  | 0, _, _, _, h, _ => absurd h (Nat.not_lt_zero _)
  | _ + 1, 0, _, _, _, h => absurd h (Nat.not_lt_zero _)
  | f + 1, g + 1, s, attrs, hf, hg => by
    rw [tagF_succ, tagF_succ]
    split
    · rfl
    · rename_i hne
      split
      · rfl
      · have h1 := attr_lt hne attrs
        have h2 : (s.cutTo (hdOut sla)).rest.length ≤ s.rest.length := by simp only [TS.cutTo, TS.cut, List.length_drop]; omega
        exact tagF_enough f g _ _ (by omega) (by omega)
theorem kind_short {name : List UInt8} (h : softP name = true ∨ rawP name = true) : name.length < 9000 := by
  have key : ∀ L : List (List UInt8), (∀ x ∈ L, x.length < 9000) → L.any (name == ·) = true → name.length < 9000 := by
    intro L hL ha
    obtain ⟨x, hx, e⟩ := List.any_eq_true.1 ha
    have : name = x := by simpa using e
    exact this ▸ hL x hx
  rcases h with h | h
  · exact key softL (by decide) h
  · exact key rawL (by decide) h
theorem allL_length (attr : Bool) : ∀ (n : Nat) (l : List UInt8), l.length ≤ n → (allL attr l).length ≤ 4 * l.length
  | 0, l, h => by
    rw [List.eq_nil_of_length_eq_zero (l := l) (by omega)]
    exact Nat.le_refl _
  | n + 1, [], _ => Nat.le_refl _
  | n + 1, c :: r, h => by
    by_cases h0 : (takeL (c :: r) attr).n = 0
    · rw [allL_none h0]
      have := allL_length attr n r (by simpa using h)
      simp only [List.length_cons]
      omega
    · rw [allL_some h0, List.length_append]
      have hn := takeL_n (c :: r) attr
      have ht : (takeL (c :: r) attr).text.data.toList.length ≤ 4 := text_le (c :: r) attr
      have := allL_length attr n ((c :: r).drop (takeL (c :: r) attr).n) (by rw [List.length_drop]; simp only [List.length_cons] at h ⊢; omega)
      rw [List.length_drop] at this
      omega
/-- Some bytes further. -/
def Mv (s s' : TS) : Prop := ∃ n, n ≤ s.rest.length ∧ s'.rest = s.rest.drop n ∧ s'.pl = s.pl + n
theorem Mv.refl (s : TS) : Mv s s := ⟨0, Nat.zero_le _, rfl, rfl⟩
theorem Mv.of {s s' : TS} (h1 : s'.rest = s.rest) (h2 : s'.pl = s.pl) : Mv s s' := ⟨0, Nat.zero_le _, h1, h2⟩
theorem Mv.trans {a b c : TS} (h : Mv a b) (k : Mv b c) : Mv a c := by
  obtain ⟨n, h1, h2, h3⟩ := h
  obtain ⟨m, k1, k2, k3⟩ := k
  rw [h2, List.length_drop] at k1
  exact ⟨n + m, by omega, by rw [k2, h2, List.drop_drop], by omega⟩
theorem Mv.le {a b : TS} (h : Mv a b) : b.rest.length ≤ a.rest.length := by
  obtain ⟨n, h1, h2, _⟩ := h
  rw [h2, List.length_drop]
  omega
theorem Mv.sum {a b : TS} (h : Mv a b) : b.pl + b.rest.length = a.pl + a.rest.length := by
  obtain ⟨n, h1, h2, h3⟩ := h
  rw [h2, List.length_drop]
  omega
theorem Mv.pl {a b : TS} (h : Mv a b) : a.pl ≤ b.pl := by
  obtain ⟨n, _, _, h3⟩ := h
  omega
theorem mv_cut (s : TS) {n : Nat} (h : n ≤ s.rest.length) : Mv s (s.cut n) := ⟨n, h, rfl, rfl⟩
theorem mv_flt (s : TS) (k a : Nat) : Mv s (s.flt k a) := .of rfl rfl
theorem mv_endT (s : TS) : Mv s s.endT := by unfold TS.endT; split; exact .refl _; exact .of rfl rfl
theorem mv_add (s : TS) (t : Tk) : Mv s (s.add t) := (mv_endT s).trans (.of rfl rfl)
theorem mv_addT (s : TS) (p : List UInt8) (a : Nat) : Mv s (s.addT p a) := by unfold TS.addT; split; exact .refl _; exact .of rfl rfl
theorem mv_cutTo (s : TS) (p : List UInt8 → Bool) : Mv s (s.cutTo p) := mv_cut s (upTo_le p s.rest)
theorem mv_cutIf (s : TS) (f : List UInt8) : Mv s (s.cutIf f) := by
  unfold TS.cutIf
  split
  · rename_i h
    exact mv_cut s (pre_length h)
  · exact .refl _
theorem mv_cmt (s : TS) (d : List UInt8) (a : Nat) : Mv s (s.cmt d a) := mv_add s _
theorem mv_fltIf (s : TS) (k a : Nat) : Mv s (s.fltIf k a) := by unfold TS.fltIf; split; exact .refl _; exact mv_flt _ _ _
theorem mv_refr (s : TS) (h : s.rest ≠ []) : Mv s s.refr ∧ s.refr.rest.length < s.rest.length := by
  have hp : 0 < s.rest.length := List.length_pos_iff.2 h
  have hn := takeL_n s.rest false
  have hr : (s.fltIf (takeL s.rest false).fault s.pl).rest = s.rest := by unfold TS.fltIf; split <;> rfl
  have hle : (if (takeL s.rest false).n = 0 then 1 else (takeL s.rest false).n) ≤ s.rest.length := by split <;> omega
  have hpos : 1 ≤ (if (takeL s.rest false).n = 0 then 1 else (takeL s.rest false).n) := by split <;> omega
  have m1 := mv_cut (s.fltIf (takeL s.rest false).fault s.pl) (n := (if (takeL s.rest false).n = 0 then 1 else (takeL s.rest false).n)) (by rw [hr]; exact hle)
  have m2 := mv_addT ((s.fltIf (takeL s.rest false).fault s.pl).cut (if (takeL s.rest false).n = 0 then 1 else (takeL s.rest false).n)) (if (takeL s.rest false).n = 0 then [38] else (takeL s.rest false).text.data.toList) s.pl
  refine ⟨((mv_fltIf s _ _).trans m1).trans m2, ?_⟩
  refine Nat.lt_of_le_of_lt m2.le ?_
  simp only [TS.cut, List.length_drop, hr]
  omega
theorem mv_note (s : TS) (a : Nat) : Mv s (s.note a) := (((mv_flt s 7 a).trans (mv_cutTo _ _)).trans (mv_cmt _ _ _)).trans (mv_cutIf _ _)
theorem mv_cmtEnd (s : TS) (a : Nat) : Mv s (s.cmtEnd a) := by
  unfold TS.cmtEnd
  split
  · exact mv_flt _ _ _
  · split
    · rename_i h
      exact mv_cut s (pre_length h)
    · exact (mv_cutIf _ _).trans (mv_flt _ _ _)
theorem mv_comment (s : TS) (a : Nat) : Mv s (s.comment a) := by
  unfold TS.comment
  split
  · rename_i h
    exact ((mv_cut s (n := 1) (pre_length h)).trans (mv_flt _ _ _)).trans (mv_cmt _ _ _)
  · split
    · rename_i h
      exact ((mv_cut s (n := 2) (pre_length h)).trans (mv_flt _ _ _)).trans (mv_cmt _ _ _)
    · exact ((mv_cutTo s _).trans (mv_cmtEnd _ _)).trans (mv_cmt _ _ _)
theorem mv_dtEnd (s : TS) : Mv s s.dtEnd := by
  unfold TS.dtEnd
  split
  · rename_i h
    exact mv_cut s (pre_length h)
  · exact mv_flt _ _ _
theorem mv_doctype (s : TS) (a : Nat) : Mv s (s.doctype a) := ((((mv_cutTo s _).trans (mv_cutTo _ _)).trans (mv_cutTo _ _)).trans (mv_dtEnd _)).trans (mv_add _ _)
theorem mv_val2 (s : TS) : Mv s s.val2.st := by
  unfold TS.val2
  split
  · rename_i h
    exact ((mv_cut s (n := 1) (pre_length h)).trans (mv_cutTo _ _)).trans (mv_cutIf _ _)
  · split
    · rename_i h
      exact ((mv_cut s (n := 1) (pre_length h)).trans (mv_cutTo _ _)).trans (mv_cutIf _ _)
    · split
      · exact mv_flt _ _ _
      · exact mv_cutTo _ _
theorem mv_value (s : TS) : Mv s s.value.st := by
  unfold TS.value
  split
  · rename_i h
    exact (((mv_cutTo s _).trans (mv_cut _ (n := 1) (pre_length h))).trans (mv_cutTo _ _)).trans (mv_val2 _)
  · exact mv_cutTo _ _
theorem mv_first (s : TS) (h : s.rest ≠ []) : Mv s s.first := by
  have hp : 1 ≤ s.rest.length := List.length_pos_iff.2 h
  unfold TS.first
  split
  · exact (mv_cut s hp).trans (mv_flt _ _ _)
  · exact mv_cut s hp
theorem mv_attr (s : TS) (h : s.rest ≠ []) (l : List Atr) : Mv s (s.attr l).st := by
  have m := ((mv_first s h).trans (mv_cutTo _ (hdIn atE))).trans (mv_value _)
  unfold TS.attr
  split
  · split
    · exact m.trans (mv_flt _ _ _)
    · exact m
  · exact m
theorem mv_tagF : ∀ (f : Nat) (s : TS) (l : List Atr), Mv s (TS.tagF f s l).st
  | 0, s, _ => Mv.refl s
  | f + 1, s, l => by
    rw [tagF_succ]
    split
    · exact (mv_cutTo s _).trans (mv_flt _ _ _)
    · rename_i hne
      split
      · rename_i h
        exact (mv_cutTo s _).trans (mv_cut _ (n := 1) (pre_length h))
      · exact ((mv_cutTo s _).trans (mv_attr _ hne l)).trans (mv_tagF f _ _)
theorem mv_inside (s : TS) (name : List UInt8) : Mv s (s.inside name) := by
  unfold TS.inside
  split
  · exact (mv_cutTo s _).trans (mv_addT _ _ _)
  · split
    · exact (mv_cutTo s _).trans (mv_addT _ _ _)
    · exact .refl _
theorem mv_tag (s : TS) (k a : Nat) : Mv s (s.tag k a) := by
  have m := (mv_cutTo s (hdIn tgE)).trans (mv_tagF (s.cutTo (hdIn tgE)).rest.length.succ (s.cutTo (hdIn tgE)) [])
  unfold TS.tag
  split
  · split
    · exact m.trans (mv_add _ _)
    · exact (m.trans (mv_add _ _)).trans (mv_inside _ _)
  · exact m
theorem mv_ending (s : TS) (a : Nat) : Mv s (s.ending a) := by
  unfold TS.ending
  split
  · exact mv_tag _ _ _
  · split
    · exact (mv_flt _ _ _).trans (mv_addT _ _ _)
    · split
      · rename_i h
        exact (mv_cut s (n := 1) (pre_length h)).trans (mv_flt _ _ _)
      · exact mv_note _ _
theorem mv_opened (s : TS) (a : Nat) : Mv s (s.opened a) := by
  unfold TS.opened
  split
  · exact mv_tag _ _ _
  · split
    · rename_i h
      exact (mv_cut s (n := 1) (pre_length h)).trans (mv_ending _ _)
    · split
      · rename_i h
        exact (mv_cut s (n := 3) (pre_length h)).trans (mv_comment _ _)
      · split
        · rename_i h
          exact (mv_cut s (n := 8) (by unfold anyG at h; rw [Bool.and_eq_true] at h; exact of_decide_eq_true h.1)).trans (mv_doctype _ _)
        · split
          · rename_i h
            exact (mv_cut s (n := 1) (pre_length h)).trans (mv_note _ _)
          · split
            · exact mv_note _ _
            · exact (mv_flt _ _ _).trans (mv_addT _ _ _)
theorem mv_markup (s : TS) (h : s.rest ≠ []) : Mv s s.markup ∧ s.markup.rest.length < s.rest.length := by
  have hp : 1 ≤ s.rest.length := List.length_pos_iff.2 h
  have m := mv_opened (s.cut 1) s.pl
  refine ⟨(mv_cut s hp).trans m, Nat.lt_of_le_of_lt m.le ?_⟩
  simp only [TS.cut, List.length_drop]
  omega
theorem upTo_pos {p : List UInt8 → Bool} {c : UInt8} {r : List UInt8} (h : p (c :: r) = false) : 1 ≤ upTo p (c :: r) := by
  rw [upTo_cons, if_neg (by rw [h]; decide)]
  omega
theorem hd3 {c : UInt8} (h1 : c ≠ 60) (h2 : c ≠ 38) (h3 : c ≠ 0) (r : List UInt8) : hdIn [60, 38, 0] (c :: r) = false := by
  show ([60, 38, 0] : List UInt8).contains c = false
  simp [h1, h2, h3]
theorem next_cons {s : TS} {c : UInt8} {r : List UInt8} (h : s.rest = c :: r) : s.next = if c = 60 then s.markup else if c = 38 then s.refr else if c = 0 then (s.flt 3 s.pl).cut 1 else (s.cutTo (hdIn [60, 38, 0])).addT (s.front (hdIn [60, 38, 0])) s.pl := by
  unfold TS.next
  rw [h]
theorem mv_next (s : TS) (h : s.rest ≠ []) : Mv s s.next ∧ s.next.rest.length < s.rest.length := by
  have hp : 1 ≤ s.rest.length := List.length_pos_iff.2 h
  obtain ⟨c, r, hr⟩ : ∃ c r, s.rest = c :: r := by
    cases hh : s.rest with
    | nil => exact absurd hh h
    | cons c r => exact ⟨c, r, rfl⟩
  rw [next_cons hr]
  by_cases h1 : c = 60
  · rw [if_pos h1]; exact mv_markup s h
  · rw [if_neg h1]
    by_cases h2 : c = 38
    · rw [if_pos h2]; exact mv_refr s h
    · rw [if_neg h2]
      by_cases h3 : c = 0
      · rw [if_pos h3]
        refine ⟨(mv_flt s 3 s.pl).trans (mv_cut _ hp), ?_⟩
        simp only [TS.cut, TS.flt, List.length_drop]
        omega
      · rw [if_neg h3]
        have m := mv_addT (s.cutTo (hdIn [60, 38, 0])) (s.front (hdIn [60, 38, 0])) s.pl
        refine ⟨(mv_cutTo s _).trans m, Nat.lt_of_le_of_lt m.le ?_⟩
        have := upTo_pos (p := hdIn [60, 38, 0]) (hd3 h1 h2 h3 r)
        rw [← hr] at this
        simp only [TS.cutTo, TS.cut, List.length_drop]
        omega

/-! ### Room -/
theorem Fit.note {b : Nat} {s : TS} (h : Fit b s) (a : Nat) : Fit (b + 2) (s.note a) := (((h.flt 7 a).cutTo _).cmt _ _).cutIf _
theorem Fit.comment {b : Nat} {s : TS} (h : Fit b s) (a : Nat) : Fit (b + 2) (s.comment a) := by
  unfold TS.comment
  split
  · rename_i hp
    exact ((((h.cut (n := 1) (pre_length hp)).mono (b' := b) (by omega)).flt 7 a).cmt _ _)
  · split
    · rename_i hp
      exact ((((h.cut (n := 2) (pre_length hp)).mono (b' := b) (by omega)).flt 7 a).cmt _ _)
    · exact ((h.cutTo _).cmtEnd a).cmt _ _
theorem Fit.doctype {b : Nat} {s : TS} (h : Fit b s) (a : Nat) : Fit (b + 2) (s.doctype a) := ((((h.cutTo _).cutTo _).cutTo _).dtEnd).add _
theorem Fit.tagF {b : Nat} : ∀ (f : Nat) {s : TS} (l : List Atr), Fit b s → Fit (b + 1) (TS.tagF f s l).st
  | 0, _, _, h => h.mono (by omega)
  | f + 1, s, l, h => by
    rw [tagF_succ]
    split
    · exact (h.cutTo _).flt _ _
    · rename_i hne
      split
      · rename_i hp
        exact ((h.cutTo _).cut (n := 1) (pre_length hp)).mono (by omega)
      · exact Fit.tagF f _ ((h.cutTo _).attr hne l)
theorem Fit.inside {b : Nat} {s : TS} (h : Fit b s) (name : List UInt8) : Fit b (s.inside name) := by
  have hc := h.cut (upTo_le (endOfP name) s.rest)
  have hfr : (s.front (endOfP name)).length = upTo (endOfP name) s.rest := by
    unfold TS.front
    rw [List.length_take]
    have := upTo_le (endOfP name) s.rest
    omega
  have hcl := cleanL_length (s.front (endOfP name))
  have hal := allL_length false _ (cleanL (s.front (endOfP name))) (Nat.le_refl _)
  have hb : 16 * upTo (endOfP name) s.rest ≤ b := by
    have := h.room
    have := upTo_le (endOfP name) s.rest
    unfold pot at *
    omega
  unfold TS.inside
  split
  · exact (hc.addT _ _).mono (by omega)
  · split
    · exact (hc.addT _ _).mono (by omega)
    · exact h
theorem Fit.tag {b : Nat} {s : TS} (h : Fit b s) (k a : Nat) : Fit (b + 2) (s.tag k a) := by
  have m := Fit.tagF (s.cutTo (hdIn tgE)).rest.length.succ [] (h.cutTo (hdIn tgE))
  unfold TS.tag
  split
  · split
    · exact m.add _
    · exact (m.add _).inside _
  · exact m.mono (by omega)
theorem Fit.ending {b : Nat} {s : TS} (h : Fit b s) (a : Nat) : Fit (b + 3) (s.ending a) := by
  unfold TS.ending
  split
  · exact (h.tag _ _).mono (by omega)
  · split
    · exact ((h.flt 6 a).addT [60, 47] a).mono (by simp only [List.length_cons, List.length_nil]; omega)
    · split
      · rename_i hp
        exact ((h.cut (n := 1) (pre_length hp)).flt 4 a).mono (by omega)
      · exact (h.note a).mono (by omega)
theorem Fit.opened {b : Nat} {s : TS} (h : Fit b s) (a : Nat) : Fit (b + 3) (s.opened a) := by
  unfold TS.opened
  split
  · exact (h.tag _ _).mono (by omega)
  · split
    · rename_i hp
      exact ((h.cut (n := 1) (pre_length hp)).ending a).mono (by omega)
    · split
      · rename_i hp
        exact ((h.cut (n := 3) (pre_length hp)).comment a).mono (by omega)
      · split
        · rename_i hp
          exact ((h.cut (n := 8) (by unfold anyG at hp; rw [Bool.and_eq_true] at hp; exact of_decide_eq_true hp.1)).doctype a).mono (by omega)
        · split
          · rename_i hp
            exact ((h.cut (n := 1) (pre_length hp)).note a).mono (by omega)
          · split
            · exact (h.note a).mono (by omega)
            · exact ((h.flt 4 a).addT [60] a).mono (by simp only [List.length_cons, List.length_nil]; omega)
theorem Fit.next {b : Nat} {s : TS} (h : Fit b s) (hne : s.rest ≠ []) : Fit b s.next := by
  have hp : 1 ≤ s.rest.length := List.length_pos_iff.2 hne
  have hb : 16 * s.rest.length ≤ b := by have := h.room; unfold pot at this; omega
  obtain ⟨c, r, hr⟩ : ∃ c r, s.rest = c :: r := by
    cases hh : s.rest with
    | nil => exact absurd hh hne
    | cons c r => exact ⟨c, r, rfl⟩
  rw [next_cons hr]
  by_cases h1 : c = 60
  · rw [if_pos h1]; exact ((h.cut hp).opened s.pl).mono (by omega)
  · rw [if_neg h1]
    by_cases h2 : c = 38
    · rw [if_pos h2]
      have hn := takeL_n s.rest false
      have htx := text_le s.rest false
      have hr' : (s.fltIf (takeL s.rest false).fault s.pl).rest = s.rest := by unfold TS.fltIf; split <;> rfl
      have hle : (if (takeL s.rest false).n = 0 then 1 else (takeL s.rest false).n) ≤ s.rest.length := by split <;> omega
      have hpos : 1 ≤ (if (takeL s.rest false).n = 0 then 1 else (takeL s.rest false).n) := by split <;> omega
      have htl : (if (takeL s.rest false).n = 0 then [38] else (takeL s.rest false).text.data.toList).length ≤ 4 := by
        split
        · decide
        · exact htx
      have fx : Fit (b + 1) (s.fltIf (takeL s.rest false).fault s.pl) := by
        unfold TS.fltIf
        split
        · exact h.mono (by omega)
        · exact h.flt _ _
      exact ((fx.cut (n := (if (takeL s.rest false).n = 0 then 1 else (takeL s.rest false).n)) (by rw [hr']; exact hle)).addT _ _).mono (by omega)
    · rw [if_neg h2]
      by_cases h3 : c = 0
      · rw [if_pos h3]; exact ((h.flt 3 s.pl).cut (n := 1) hp).mono (by omega)
      · rw [if_neg h3]
        have hu := upTo_le (hdIn [60, 38, 0]) s.rest
        have hfr : (s.front (hdIn [60, 38, 0])).length ≤ upTo (hdIn [60, 38, 0]) s.rest := by unfold TS.front; rw [List.length_take]; omega
        exact ((h.cut hu).addT _ _).mono (by omega)
theorem runF_enough : ∀ (f g : Nat) (s : TS), s.rest.length ≤ f → s.rest.length ≤ g → TS.runF f s = TS.runF g s
  | 0, 0, _, _, _ => rfl
  | 0, g + 1, s, h, _ => by
    have : s.rest = [] := List.eq_nil_of_length_eq_zero (by omega)
    rw [TS.runF, TS.runF, if_pos this]
  | f + 1, 0, s, _, h => by
    have : s.rest = [] := List.eq_nil_of_length_eq_zero (by omega)
    rw [TS.runF, TS.runF, if_pos this]
  | f + 1, g + 1, s, hf, hg => by
    rw [TS.runF, TS.runF]
    split
    · rfl
    · rename_i h
      have := (mv_next s h).2
      exact runF_enough f g _ (by omega) (by omega)
theorem run_nil {s : TS} (h : s.rest = []) : s.run = s.endT := by
  unfold TS.run
  rw [h]
  rfl
theorem run_next {s : TS} (h : s.rest ≠ []) : s.run = s.next.run := by
  have hp : 0 < s.rest.length := List.length_pos_iff.2 h
  have := (mv_next s h).2
  unfold TS.run
  obtain ⟨n, hn⟩ : ∃ n, s.rest.length = n + 1 := ⟨s.rest.length - 1, by omega⟩
  rw [hn, TS.runF, if_neg h]
  exact runF_enough _ _ _ (by omega) (Nat.le_refl _)
theorem addT_nil (s : TS) (a : Nat) : s.addT [] a = s := by
  unfold TS.addT
  rw [if_pos rfl]
theorem cut_cut (s : TS) (a b : Nat) : (s.cut a).cut b = s.cut (a + b) := by
  unfold TS.cut
  simp only [List.drop_drop, Nat.add_assoc]
theorem cut_zero (s : TS) : s.cut 0 = s := rfl
theorem cut_addT (s : TS) (p : List UInt8) (a n : Nat) : (s.addT p a).cut n = (s.cut n).addT p a := by
  unfold TS.addT
  split <;> rfl
theorem addT_addT (s : TS) {p : List UInt8} (q : List UInt8) (a b : Nat) (hp : p ≠ []) : (s.addT p a).addT q b = s.addT (p ++ q) a := by
  have hpq : p ++ q ≠ [] := by simp [hp]
  by_cases hq : q = []
  · subst hq
    rw [addT_nil, List.append_nil]
  · have ht : s.text ++ p ≠ [] := by simp [hp]
    unfold TS.addT
    rw [if_neg hp, if_neg hq, if_neg hpq]
    dsimp only
    rw [if_neg ht, List.append_assoc]
theorem addT_rest (s : TS) (p : List UInt8) (a : Nat) : (s.addT p a).rest = s.rest ∧ (s.addT p a).pl = s.pl := by
  unfold TS.addT
  split <;> exact ⟨rfl, rfl⟩
def plain (c : UInt8) : Prop := c ≠ 60 ∧ c ≠ 38 ∧ c ≠ 0
theorem next_plain {s : TS} {c : UInt8} {r : List UInt8} (h : s.rest = c :: r) (hc : plain c) : s.next = (s.cut (upTo (hdIn [60, 38, 0]) r + 1)).addT (c :: r.take (upTo (hdIn [60, 38, 0]) r)) s.pl := by
  rw [next_cons h, if_neg hc.1, if_neg hc.2.1, if_neg hc.2.2]
  have e : upTo (hdIn [60, 38, 0]) s.rest = upTo (hdIn [60, 38, 0]) r + 1 := by
    rw [h, upTo_cons, if_neg (by rw [hd3 hc.1 hc.2.1 hc.2.2]; decide)]
  unfold TS.cutTo TS.front
  rw [e, h]
  rfl
/-- A plain byte is text, by itself. -/
theorem run_plain {s : TS} {c : UInt8} {r : List UInt8} (h : s.rest = c :: r) (hc : plain c) : s.run = ((s.cut 1).addT [c] s.pl).run := by
  have hne : s.rest ≠ [] := by rw [h]; exact List.cons_ne_nil _ _
  rw [run_next hne, next_plain h hc]
  have hr1 : ((s.cut 1).addT [c] s.pl).rest = r := by rw [(addT_rest _ _ _).1]; simp only [TS.cut, h]; rfl
  have same : upTo (hdIn [60, 38, 0]) r = 0 → (s.cut (upTo (hdIn [60, 38, 0]) r + 1)).addT (c :: r.take (upTo (hdIn [60, 38, 0]) r)) s.pl = (s.cut 1).addT [c] s.pl := by
    intro e
    rw [e]
    rfl
  cases r with
  | nil => rw [same rfl]
  | cons d r =>
    by_cases hd : plain d
    · have hne1 : ((s.cut 1).addT [c] s.pl).rest ≠ [] := by rw [hr1]; exact List.cons_ne_nil _ _
      rw [run_next hne1, next_plain hr1 hd]
      have e : upTo (hdIn [60, 38, 0]) (d :: r) = upTo (hdIn [60, 38, 0]) r + 1 := by rw [upTo_cons, if_neg (by rw [hd3 hd.1 hd.2.1 hd.2.2]; decide)]
      rw [e, cut_addT, cut_cut, addT_addT _ _ _ _ (List.cons_ne_nil _ _), show 1 + (upTo (hdIn [60, 38, 0]) r + 1) = upTo (hdIn [60, 38, 0]) r + 1 + 1 by omega]
      rfl
    · rw [same]
      rw [upTo_cons, if_pos]
      show ([60, 38, 0] : List UInt8).contains d = true
      unfold plain at hd
      by_cases h1 : d = 60
      · simp [h1]
      · by_cases h2 : d = 38
        · simp [h2]
        · by_cases h3 : d = 0
          · simp [h3]
          · exact absurd ⟨h1, h2, h3⟩ hd
theorem run_null {s : TS} {r : List UInt8} (h : s.rest = 0 :: r) : s.run = ((s.flt 3 s.pl).cut 1).run := by
  have hne : s.rest ≠ [] := by rw [h]; exact List.cons_ne_nil _ _
  rw [run_next hne, next_cons h, if_neg (by decide), if_neg (by decide), if_pos rfl]
theorem run_lt {s : TS} {r : List UInt8} (h : s.rest = 60 :: r) : s.run = s.markup.run := by
  have hne : s.rest ≠ [] := by rw [h]; exact List.cons_ne_nil _ _
  rw [run_next hne, next_cons h, if_pos rfl]
/-- A reference that tells a character, without a fault. -/
theorem run_rf {s : TS} {r : List UInt8} {n : Nat} {u : List UInt8} (h : s.rest = 38 :: r) (hn : (takeL (38 :: r) false).n = n + 1) (ht : (takeL (38 :: r) false).text.data.toList = u) (hf : (takeL (38 :: r) false).fault = 0) : s.run = ((s.cut (n + 1)).addT u s.pl).run := by
  have hne : s.rest ≠ [] := by rw [h]; exact List.cons_ne_nil _ _
  rw [run_next hne, next_cons h, if_neg (by decide), if_pos rfl]
  unfold TS.refr
  rw [h, hf, hn, ht, if_neg (by omega), if_neg (by omega)]
  rfl
theorem take_fault {c : UInt8} {l : List UInt8} {code n : Nat} (attr : Bool) (hc : c ≠ 35) (hs : scanN (c :: l) names = ⟨code, n + 1, true⟩) : (takeL (38 :: c :: l) attr).fault = 0 := by
  have h1 : takeL (38 :: c :: l) attr = refL (c :: l) attr := rfl
  have h2 : refL (c :: l) attr = nameL (c :: l) attr := by
    unfold refL
    rw [if_neg]
    simpa [hash] using hc
  rw [h1, h2]
  unfold nameL
  rw [hs]
  unfold endR
  dsimp only
  rw [if_neg (by omega), if_pos rfl]
theorem run_name {s : TS} {c : UInt8} {l : List UInt8} {code n : Nat} {b : List UInt8} (h : s.rest = 38 :: c :: l) (hc : c ≠ 35) (hs : scanN (c :: l) names = ⟨code, n + 1, true⟩) (hb : (Utf8.encode code).data.toList = b) : s.run = ((s.cut (n + 2)).addT b s.pl).run := by
  obtain ⟨h1, h2⟩ := take_name false hc hs
  exact run_rf h h1 (by rw [h2, hb]) (take_fault false hc hs)
/-- One byte, written as a text. -/
theorem run_one {s : TS} {c : UInt8} {y : List UInt8} (h : s.rest = one false c ++ y) (h0 : c ≠ 0) : s.run = ((s.cut (one false c).length).addT [c] s.pl).run := by
  unfold one at h ⊢
  by_cases h1 : c = 38
  · rw [if_pos h1] at h ⊢
    rw [h1]
    exact run_name h (by decide) (scan_amp y) enc38
  · rw [if_neg h1] at h ⊢
    by_cases h2 : c = 60
    · rw [if_pos h2] at h ⊢
      rw [h2]
      exact run_name h (by decide) (scan_lt y) enc60
    · rw [if_neg h2] at h ⊢
      by_cases h3 : c = 62
      · rw [if_pos h3] at h ⊢
        rw [h3]
        exact run_name h (by decide) (scan_gt y) enc62
      · rw [if_neg h3] at h ⊢
        rw [if_neg (by rintro ⟨h4, _⟩; cases h4)] at h ⊢
        exact run_plain h ⟨h2, h1, h0⟩
/-- WHAT IS WRITTEN AS A TEXT IS READ AS THAT TEXT, whatever stands behind. -/
theorem run_esc (y : List UInt8) : ∀ (t : List UInt8) (s : TS), (∀ c ∈ t, c ≠ 0) → s.rest = esc false t ++ y → s.run = ((s.cut (esc false t).length).addT t s.pl).run :=
  overL (p := fun t => ∀ s : TS, (∀ c ∈ t, c ≠ 0) → s.rest = esc false t ++ y → s.run = ((s.cut (esc false t).length).addT t s.pl).run)
    (fun s _ _ => by rw [addT_nil]; rfl)
    (fun l hl ih s h0 hr => by
      have key : ∀ (x u v : List UInt8), u ≠ [] → l = u ++ v → v = l.drop (far l) → esc false l = x ++ esc false v → s.run = ((s.cut x.length).addT u s.pl).run → s.run = ((s.cut (esc false l).length).addT l s.pl).run := by
        intro x u v hu hlu hv hx hrun
        rw [hrun]
        have hrest : ((s.cut x.length).addT u s.pl).rest = esc false v ++ y := by
          rw [(addT_rest _ _ _).1]
          show s.rest.drop x.length = _
          rw [hr, hx, List.append_assoc, List.drop_left]
        rw [hv] at hrest
        rw [ih _ (fun c hc => h0 c (List.mem_of_mem_drop hc)) hrest, cut_addT, cut_cut, addT_addT _ _ _ _ hu, ← hv, ← hlu, hx, List.length_append]
      cases l with
      | nil => exact absurd rfl hl
      | cons c r =>
        by_cases hn : nbq (c :: r) = true
        · obtain ⟨t, ht⟩ := nbq_iff.1 hn
          rw [ht]
          rw [ht] at hr key
          refine key nbsp [194, 160] t (by decide) rfl rfl rfl ?_
          have hr' : s.rest = 38 :: 110 :: (98 :: 115 :: 112 :: 59 :: (esc false t ++ y)) := hr
          exact run_name hr' (by decide) (scan_nbsp _) enc160
        · have hn' : nbq (c :: r) = false := by simpa using hn
          have hf : far (c :: r) = 1 := if_neg hn
          refine key (one false c) [c] r (by simp) rfl (by rw [hf]; rfl) (esc_one hn') ?_
          rw [esc_one hn', List.append_assoc] at hr
          exact run_one hr (h0 c List.mem_cons_self))
theorem addT_endT {s : TS} (hs : s.text = []) {p : List UInt8} (hp : p ≠ []) (a : Nat) : (s.addT p a).endT = { s with toks := s.toks ++ [⟨3, [], [], false, p, a⟩], tat := a } := by
  obtain ⟨rest, pl, toks, flts, text, tat⟩ := s
  have hs : text = [] := hs
  subst hs
  simp [TS.addT, TS.endT, hp]
/-- A text alone. -/
theorem tok_esc {t : List UInt8} (h0 : ∀ c ∈ t, c ≠ 0) : (tokL (esc false t)).toks = (if t = [] then [] else [⟨3, [], [], false, t, 0⟩]) ∧ (tokL (esc false t)).flts = [] := by
  unfold tokL
  rw [run_esc [] t (TS.new (esc false t)) h0 (by rw [List.append_nil]; rfl), run_nil (by rw [(addT_rest _ _ _).1]; show List.drop _ (esc false t) = []; exact List.drop_length)]
  by_cases ht : t = []
  · subst ht
    rw [if_pos rfl, addT_nil]
    exact ⟨rfl, rfl⟩
  · rw [if_neg ht]
    rw [addT_endT rfl ht]
    exact ⟨rfl, rfl⟩
theorem Fit.runF {b : Nat} : ∀ (f : Nat) {s : TS}, Fit b s → Fit b (TS.runF f s)
  | 0, _, h => h.endT
  | f + 1, s, h => by
    rw [TS.runF]
    split
    · exact h.endT
    · rename_i hne
      exact Fit.runF f (h.next hne)
theorem tok_few {l : List UInt8} (hl : l.length < 100000) : (tokL l).toks.length + (tokL l).flts.length ≤ 1600000 := by
  have f0 : Fit (16 * l.length) (TS.new l) := ⟨by show 0 + l.length < 1000000; omega, by show 0 + 0 + 0 + 16 * l.length ≤ _; omega⟩
  have := (Fit.runF (TS.new l).rest.length f0).room
  unfold pot at this
  show (TS.runF _ _).toks.length + (TS.runF _ _).flts.length ≤ _
  omega
/-- No token has too many attributes. -/
def AllA (s : TS) : Prop := ∀ t ∈ s.toks, t.attrs.length ≤ 50
theorem AllA.of {s s' : TS} (h : AllA s) (e : s'.toks = s.toks) : AllA s' := fun t ht => h t (e ▸ ht)
theorem AllA.endT {s : TS} (h : AllA s) : AllA s.endT := by
  unfold TS.endT
  split
  · exact h
  · intro t ht
    rcases List.mem_append.1 ht with ht | ht
    · exact h t ht
    · rw [List.mem_singleton.1 ht]
      exact Nat.zero_le _
theorem AllA.add {s : TS} (h : AllA s) {t : Tk} (ht : t.attrs.length ≤ 50) : AllA (s.add t) := by
  intro u hu
  rcases List.mem_append.1 hu with hu | hu
  · exact h.endT u hu
  · rw [List.mem_singleton.1 hu]
    exact ht
theorem tk_addT (s : TS) (p : List UInt8) (a : Nat) : (s.addT p a).toks = s.toks := by unfold TS.addT; split <;> rfl
theorem tk_cutIf (s : TS) (f : List UInt8) : (s.cutIf f).toks = s.toks := by unfold TS.cutIf; split <;> rfl
theorem tk_fltIf (s : TS) (k a : Nat) : (s.fltIf k a).toks = s.toks := by unfold TS.fltIf; split <;> rfl
theorem tk_cmtEnd (s : TS) (a : Nat) : (s.cmtEnd a).toks = s.toks := by
  unfold TS.cmtEnd
  split
  · rfl
  · split
    · rfl
    · exact tk_cutIf _ _
theorem tk_dtEnd (s : TS) : s.dtEnd.toks = s.toks := by unfold TS.dtEnd; split <;> rfl
theorem tk_val2 (s : TS) : s.val2.st.toks = s.toks := by
  unfold TS.val2
  split
  · exact tk_cutIf _ _
  · split
    · exact tk_cutIf _ _
    · split <;> rfl
theorem tk_value (s : TS) : s.value.st.toks = s.toks := by
  unfold TS.value
  split
  · exact tk_val2 _
  · rfl
theorem tk_first (s : TS) : s.first.toks = s.toks := by unfold TS.first; split <;> rfl
theorem tk_attr (s : TS) (l : List Atr) : (s.attr l).st.toks = s.toks := by
  have e : (s.first.cutTo (hdIn atE)).value.st.toks = s.toks := (tk_value _).trans (tk_first s)
  unfold TS.attr
  split
  · split
    · exact e
    · exact e
  · exact e
theorem tk_tagF : ∀ (f : Nat) (s : TS) (l : List Atr), (TS.tagF f s l).st.toks = s.toks
  | 0, _, _ => rfl
  | f + 1, s, l => by
    rw [tagF_succ]
    split
    · rfl
    · split
      · rfl
      · exact (tk_tagF f _ _).trans (tk_attr _ _)
theorem at_tagF : ∀ (f : Nat) (s : TS) (l : List Atr), l.length ≤ 50 → (TS.tagF f s l).attrs.length ≤ 50
  | 0, _, _, h => h
  | f + 1, s, l, h => by
    rw [tagF_succ]
    split
    · exact h
    · split
      · exact h
      · exact at_tagF f _ _ (attr_few h)
theorem tk_inside (s : TS) (name : List UInt8) : (s.inside name).toks = s.toks := by
  unfold TS.inside
  split
  · exact tk_addT _ _ _
  · split
    · exact tk_addT _ _ _
    · rfl
theorem AllA.cmt {s : TS} (h : AllA s) (d : List UInt8) (a : Nat) : AllA (s.cmt d a) := h.add (Nat.zero_le _)
theorem AllA.note {s : TS} (h : AllA s) (a : Nat) : AllA (s.note a) := by
  have h1 : AllA (((s.flt 7 a).cutTo (hdIn [62])).cmt (s.front (hdIn [62])) a) := AllA.cmt (AllA.of (s' := (s.flt 7 a).cutTo (hdIn [62])) h rfl) _ _
  exact AllA.of h1 (tk_cutIf _ _)
theorem AllA.tag {s : TS} (h : AllA s) (k a : Nat) : AllA (s.tag k a) := by
  have h1 : AllA ((s.cutTo (hdIn tgE)).tagF (s.cutTo (hdIn tgE)).rest.length.succ []).st := AllA.of h (tk_tagF _ _ _)
  unfold TS.tag
  split
  · split
    · exact h1.add (Nat.zero_le _)
    · exact AllA.of (h1.add (at_tagF _ _ _ (Nat.zero_le _))) (tk_inside _ _)
  · exact h1
theorem AllA.ending {s : TS} (h : AllA s) (a : Nat) : AllA (s.ending a) := by
  unfold TS.ending
  split
  · exact h.tag _ _
  · split
    · exact AllA.of (s := s.flt 6 a) (AllA.of h rfl) (tk_addT _ _ _)
    · split
      · exact AllA.of h rfl
      · exact h.note a
theorem AllA.opened {s : TS} (h : AllA s) (a : Nat) : AllA (s.opened a) := by
  unfold TS.opened
  split
  · exact h.tag _ _
  · split
    · exact AllA.ending (AllA.of (s' := s.cut 1) h rfl) a
    · split
      · unfold TS.comment
        split
        · exact AllA.cmt (AllA.of (s' := ((s.cut 3).cut 1).flt 7 a) h rfl) _ _
        · split
          · exact AllA.cmt (AllA.of (s' := ((s.cut 3).cut 2).flt 7 a) h rfl) _ _
          · exact AllA.cmt (AllA.of (s := (s.cut 3).cutTo endsC) (AllA.of h rfl) (tk_cmtEnd _ _)) _ _
      · split
        · unfold TS.doctype
          exact AllA.add (s := ((((s.cut 8).cutTo (hdOut blk)).cutTo (hdIn [9, 10, 12, 32, 62])).cutTo (hdIn [62])).dtEnd) (AllA.of h (tk_dtEnd _)) (t := ⟨5, _, [], false, [], a⟩) (Nat.zero_le _)
        · split
          · exact AllA.note (AllA.of (s' := s.cut 1) h rfl) a
          · split
            · exact h.note a
            · exact AllA.of (s := s.flt 4 a) (AllA.of h rfl) (tk_addT _ _ _)
theorem AllA.next {s : TS} (h : AllA s) : AllA s.next := by
  unfold TS.next
  split
  · exact h
  · split
    · exact AllA.opened (AllA.of (s' := s.cut 1) h rfl) _
    · split
      · unfold TS.refr
        refine AllA.of h ((tk_addT _ _ _).trans ?_)
        exact tk_fltIf _ _ _
      · split
        · exact AllA.of h rfl
        · exact AllA.of h (tk_addT _ _ _)
theorem AllA.runF : ∀ (f : Nat) {s : TS}, AllA s → AllA (TS.runF f s)
  | 0, _, h => h.endT
  | f + 1, s, h => by
    rw [TS.runF]
    split
    · exact h.endT
    · exact AllA.runF f h.next
theorem tok_attrs (l : List UInt8) : ∀ t ∈ (tokL l).toks, t.attrs.length ≤ 50 := AllA.runF _ (s := TS.new l) (fun _ h => by cases h)
end Go.Proofs.Ytffllhohlfblnaa
