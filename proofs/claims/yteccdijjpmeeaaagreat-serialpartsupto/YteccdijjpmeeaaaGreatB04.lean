/-
 Tokens as plain functions on lists of bytes: what the reader of the program does at each step. No program is named here.; The reader of tokens as plain functions: how far it comes, how much room it wants, what it makes of plain bytes; tokens in memory. No program is named.
-/
import Derived.Test.YteccdijjpmeeaaaGreatB03
import Derived.Test.YteccdijjpmeeaaaGreatB02
import Derived.Test.YteccdijjpmeeaaaGreatB01
namespace Go.Proofs.YteccdijjpmeeaaaGreat
set_option linter.unusedVariables false
set_option maxRecDepth 100000
set_option maxHeartbeats 8000000
section
def cleanB (c : UInt8) : List UInt8 := if c = 0 then [239, 191, 189] else [c]
def cleanL (l : List UInt8) : List UInt8 := l.flatMap cleanB
def nmL (l : List UInt8) : List UInt8 := cleanL (lowL l)
def letterP (c : UInt8) : Bool := (decide (97 <= c.toNat) && decide (c.toNat <= 122)) || (decide (65 <= c.toNat) && decide (c.toNat <= 90))
def begL : List UInt8 -> Bool
 | [] => false
 | c :: _ => letterP c
def upTo (p : List UInt8 -> Bool) : List UInt8 -> Nat
 | [] => 0
 | c :: r => if p (c :: r) = true then 0 else upTo p r + 1
def hdIn (set : List UInt8) : List UInt8 -> Bool
 | [] => false
 | c :: _ => set.contains c
def hdOut (set : List UInt8) : List UInt8 -> Bool
 | [] => true
 | c :: _ => !set.contains c
def pre (f l : List UInt8) : Bool := f.isPrefixOf l
def anyG (front l : List UInt8) : Bool := decide (front.length <= l.length) && (l.head? == front.head? && lowL (l.take front.length) == front)
def endsC (l : List UInt8) : Bool := pre [45, 45, 62] l || pre [45, 45, 33, 62] l
def endOfP (name l : List UInt8) : Bool := anyG (60 :: 47 :: name) l && (decide (name.length + 2 < l.length) && hdIn [9, 10, 12, 32, 47, 62] (l.drop (name.length + 2)))
structure Atr where
 name : List UInt8
 value : List UInt8
structure Tk where
 kind : Nat
 name : List UInt8
 attrs : List Atr
 self : Bool
 data : List UInt8
 pl : Nat
structure Fl where
 kind : Nat
 pl : Nat
structure TS where
 rest : List UInt8
 pl : Nat
 toks : List Tk
 flts : List Fl
 text : List UInt8
 tat : Nat
def TS.cut (st : TS) (n : Nat) : TS := { st with rest := st.rest.drop n, pl := st.pl + n }
def TS.flt (st : TS) (k a : Nat) : TS := { st with flts := st.flts ++ [⟨k, a⟩] }
def TS.endT (st : TS) : TS := if st.text = [] then st else { st with toks := st.toks ++ [⟨3, [], [], false, st.text, st.tat⟩], text := [] }
def TS.add (st : TS) (t : Tk) : TS := { st.endT with toks := st.endT.toks ++ [t] }
def TS.addT (st : TS) (part : List UInt8) (a : Nat) : TS := if part = [] then st else { st with text := st.text ++ part, tat := if st.text = [] then a else st.tat }
def TS.cutIf (st : TS) (f : List UInt8) : TS := if pre f st.rest = true then st.cut f.length else st
def TS.cutTo (st : TS) (p : List UInt8 -> Bool) : TS := st.cut (upTo p st.rest)
def TS.front (st : TS) (p : List UInt8 -> Bool) : List UInt8 := st.rest.take (upTo p st.rest)
def TS.cmt (st : TS) (d : List UInt8) (a : Nat) : TS := st.add ⟨4, [], [], false, cleanL d, a⟩
def TS.fltIf (st : TS) (k a : Nat) : TS := if k = 0 then st else st.flt k a
def TS.refr (st : TS) : TS :=
 ((st.fltIf (takeL st.rest false).fault st.pl).cut (if (takeL st.rest false).n = 0 then 1 else (takeL st.rest false).n)).addT (if (takeL st.rest false).n = 0 then [38] else (takeL st.rest false).text.data.toList) st.pl
def TS.note (st : TS) (a : Nat) : TS := ((((st.flt 7 a).cutTo (hdIn [62])).cmt (st.front (hdIn [62])) a)).cutIf [62]
def TS.cmtEnd (st : TS) (a : Nat) : TS := if st.rest = [] then st.flt 6 st.pl else if pre [45, 45, 62] st.rest = true then st.cut 3 else (st.cutIf [45, 45, 33, 62]).flt 7 a
def TS.comment (st : TS) (a : Nat) : TS :=
 if pre [62] st.rest = true then ((st.cut 1).flt 7 a).cmt [] a else if pre [45, 62] st.rest = true then ((st.cut 2).flt 7 a).cmt [] a
 else ((st.cutTo endsC).cmtEnd a).cmt (st.front endsC) a
def blk : List UInt8 := [9, 10, 12, 32]
def TS.dtEnd (st : TS) : TS := if pre [62] st.rest = true then st.cut 1 else st.flt 6 st.pl
def TS.doctype (st : TS) (a : Nat) : TS :=
 ((((st.cutTo (hdOut blk)).cutTo (hdIn [9, 10, 12, 32, 62])).cutTo (hdIn [62])).dtEnd).add ⟨5, nmL ((st.cutTo (hdOut blk)).front (hdIn [9, 10, 12, 32, 62])), [], false, [], a⟩
structure Val where
 st : TS
 v : List UInt8
 ok : Bool
def TS.quoted (st : TS) (q : UInt8) : Val := ⟨(st.cutTo (hdIn [q])).cutIf [q], st.front (hdIn [q]), pre [q] (st.cutTo (hdIn [q])).rest⟩
def TS.val2 (st : TS) : Val :=
 if pre [34] st.rest = true then (st.cut 1).quoted 34 else if pre [39] st.rest = true then (st.cut 1).quoted 39
 else if pre [62] st.rest = true then ⟨st.flt 5 st.pl, [], true⟩ else ⟨st.cutTo (hdIn [9, 10, 12, 32, 62]), st.front (hdIn [9, 10, 12, 32, 62]), true⟩
def TS.value (st : TS) : Val :=
 if pre [61] (st.cutTo (hdOut blk)).rest = true then (((st.cutTo (hdOut blk)).cut 1).cutTo (hdOut blk)).val2 else ⟨st.cutTo (hdOut blk), [], true⟩
def hasN (attrs : List Atr) (name : List UInt8) : Bool := attrs.any (fun a => a.name == name)
structure Ats where
 st : TS
 attrs : List Atr
def TS.first (st : TS) : TS := if st.rest.take 1 = [61] then (st.cut 1).flt 5 st.pl else st.cut 1
def TS.aname (st : TS) : List UInt8 := nmL (st.rest.take 1 ++ st.first.front (hdIn [9, 10, 12, 32, 47, 62, 61]))
def TS.attr (st : TS) (attrs : List Atr) : Ats :=
 if (st.first.cutTo (hdIn [9, 10, 12, 32, 47, 62, 61])).value.ok = true then
  (if 50 <= attrs.length \/ hasN attrs st.aname = true then ⟨(st.first.cutTo (hdIn [9, 10, 12, 32, 47, 62, 61])).value.st.flt 5 st.pl, attrs⟩
  else ⟨(st.first.cutTo (hdIn [9, 10, 12, 32, 47, 62, 61])).value.st, attrs ++ [⟨st.aname, allL true (cleanL (st.first.cutTo (hdIn [9, 10, 12, 32, 47, 62, 61])).value.v)⟩]⟩)
 else ⟨(st.first.cutTo (hdIn [9, 10, 12, 32, 47, 62, 61])).value.st, attrs⟩
def sla : List UInt8 := [9, 10, 12, 32, 47]
structure Tg where
 st : TS
 attrs : List Atr
 self : Bool
 ok : Bool
def TS.tagF : Nat -> TS -> List Atr -> Tg
 | 0, st, attrs => ⟨st, attrs, false, false⟩
 | f + 1, st, attrs =>
  if (st.cutTo (hdOut sla)).rest = [] then ⟨(st.cutTo (hdOut sla)).flt 6 (st.cutTo (hdOut sla)).pl, attrs, false, false⟩
  else if pre [62] (st.cutTo (hdOut sla)).rest = true then ⟨(st.cutTo (hdOut sla)).cut 1, attrs, (st.front (hdOut sla)).getLast? == some 47, true⟩
  else TS.tagF f ((st.cutTo (hdOut sla)).attr attrs).st ((st.cutTo (hdOut sla)).attr attrs).attrs
def TS.inside (st : TS) (name : List UInt8) : TS :=
 if softP name = true then (st.cutTo (endOfP name)).addT (allL false (cleanL (st.front (endOfP name)))) st.pl
 else if rawP name = true then (st.cutTo (endOfP name)).addT (cleanL (st.front (endOfP name))) st.pl else st
def tgE : List UInt8 := [9, 10, 12, 32, 47, 62]
def TS.tag (st : TS) (kind a : Nat) : TS :=
 if ((st.cutTo (hdIn tgE)).tagF (st.cutTo (hdIn tgE)).rest.length.succ []).ok = true then
  (if kind = 2 then ((st.cutTo (hdIn tgE)).tagF (st.cutTo (hdIn tgE)).rest.length.succ []).st.add ⟨2, nmL (st.front (hdIn tgE)), [], false, [], a⟩
  else (((st.cutTo (hdIn tgE)).tagF (st.cutTo (hdIn tgE)).rest.length.succ []).st.add ⟨kind, nmL (st.front (hdIn tgE)), ((st.cutTo (hdIn tgE)).tagF (st.cutTo (hdIn tgE)).rest.length.succ []).attrs, ((st.cutTo (hdIn tgE)).tagF (st.cutTo (hdIn tgE)).rest.length.succ []).self, [], a⟩).inside (nmL (st.front (hdIn tgE))))
 else ((st.cutTo (hdIn tgE)).tagF (st.cutTo (hdIn tgE)).rest.length.succ []).st
def TS.ending (st : TS) (a : Nat) : TS :=
 if begL st.rest = true then st.tag 2 a else if st.rest = [] then (st.flt 6 a).addT [60, 47] a else if pre [62] st.rest = true then (st.cut 1).flt 4 a else st.note a
def dtL : List UInt8 := [33, 100, 111, 99, 116, 121, 112, 101]
def TS.opened (st : TS) (a : Nat) : TS :=
 if begL st.rest = true then st.tag 1 a else if pre [47] st.rest = true then (st.cut 1).ending a else if pre [33, 45, 45] st.rest = true then (st.cut 3).comment a
 else if anyG dtL st.rest = true then (st.cut 8).doctype a else if pre [33] st.rest = true then (st.cut 1).note a else if pre [63] st.rest = true then st.note a
 else (st.flt 4 a).addT [60] a
def TS.markup (st : TS) : TS := (st.cut 1).opened st.pl
def TS.next (st : TS) : TS :=
 match st.rest with
 | [] => st
 | c :: _ => if c = 60 then st.markup else if c = 38 then st.refr else if c = 0 then (st.flt 3 st.pl).cut 1 else (st.cutTo (hdIn [60, 38, 0])).addT (st.front (hdIn [60, 38, 0])) st.pl
def TS.runF : Nat -> TS -> TS
 | 0, st => st.endT
 | f + 1, st => if st.rest = [] then st.endT else TS.runF f st.next
def TS.run (st : TS) : TS := TS.runF st.rest.length st
def TS.new (s : List UInt8) : TS := ⟨s, 0, [], [], [], 0⟩
end
section
open Go.RowKit
abbrev sv (l : List UInt8) : Value := .string ⟨l.toArray⟩
def atrCells (l : List Atr) : List Value := l.flatMap fun a => [sv a.name, sv a.value]
def tokCells (t : Tk) (aa : Option Addr) (ac : Nat) : List Value := [.int .u8 (t.kind : Int), sv t.name, .slice aa t.attrs.length ac, .bool t.self, sv t.data, .int .i64 (t.pl : Int)]
theorem atrCells_append (l m : List Atr) : atrCells (l ++ m) = atrCells l ++ atrCells m := by simp [atrCells]
def AtsIn (K : Nat -> Prop) (w : World) (aa : Option Addr) (l : List Atr) : Prop :=
 ∀ j (h : j < l.length), ∃ g, aa = some ⟨g, 0, none⟩ /\ K g /\ w.cell? ⟨g, j * 2, none⟩ = some (sv l[j].name) /\ w.cell? ⟨g, j * 2 + 1, none⟩ = some (sv l[j].value)
theorem AtsIn.nil (K : Nat -> Prop) (w : World) (aa : Option Addr) : AtsIn K w aa [] := fun _ h => absurd h (Nat.not_lt_zero _)
theorem AtsIn.kept {K K' : Nat -> Prop} {w w' : World} {aa : Option Addr} {l : List Atr} (h : AtsIn K w aa l) (hk : Kept K w w') (hm : ∀ k, K k -> K' k) : AtsIn K' w' aa l := fun j hj => by
 obtain ⟨g, h1, h2, h3, h4⟩ := h j hj
 exact ⟨g, h1, hm g h2, by rw [hk.cell (p := ⟨g, j * 2, none⟩) h2]; exact h3, by rw [hk.cell (p := ⟨g, j * 2 + 1, none⟩) h2]; exact h4⟩
def TokRep (K : Nat -> Prop) (w : World) : List Tk -> List Value -> Prop
 | [], cs => cs = []
 | t :: r, cs => ∃ aa ac cs', cs = tokCells t aa ac ++ cs' /\ AtsIn K w aa t.attrs /\ TokRep K w r cs'
theorem TokRep.kept {K K' : Nat -> Prop} {w w' : World} (hk : Kept K w w') (hm : ∀ k, K k -> K' k) : ∀ {l : List Tk} {cs : List Value}, TokRep K w l cs -> TokRep K' w' l cs
 | [], _, h => h
 | _ :: _, _, ⟨aa, ac, cs', h1, h2, h3⟩ => ⟨aa, ac, cs', h1, h2.kept hk hm, TokRep.kept hk hm h3⟩
theorem TokRep.length {K : Nat -> Prop} {w : World} : ∀ {l : List Tk} {cs : List Value}, TokRep K w l cs -> cs.length = l.length * 6
 | [], _, h => by
  have h : _ = [] := h
  subst h
  rfl
 | _ :: _, _, ⟨_, _, cs', h1, _, h3⟩ => by
  have := TokRep.length h3
  subst h1
  simp only [tokCells, List.length_append, List.length_cons, List.length_nil]
  omega
theorem TokRep.get {K : Nat -> Prop} {w : World} : ∀ {l : List Tk} {cs : List Value}, TokRep K w l cs -> ∀ (j : Nat) (h : j < l.length), ∃ aa ac, AtsIn K w aa l[j].attrs /\ ∀ i u, (tokCells l[j] aa ac)[i]? = some u -> cs[j * 6 + i]? = some u
 | [], _, _, _, h => absurd h (Nat.not_lt_zero _)
 | t :: r, _, ⟨aa, ac, cs', h1, h2, h3⟩, 0, _ => by
  subst h1
  refine ⟨aa, ac, h2, fun i u hi => ?_⟩
  have hi' : (tokCells t aa ac)[i]? = some u := hi
  have hil : i < (tokCells t aa ac).length := by
   rcases Nat.lt_or_ge i (tokCells t aa ac).length with hl | hg
   ·exact hl
   ·rw [List.getElem?_eq_none hg] at hi'; cases hi'
  rw [Nat.zero_mul, Nat.zero_add, List.getElem?_append_left hil, hi']
 | t :: r, _, ⟨aa, ac, cs', h1, h2, h3⟩, j + 1, h => by
  subst h1
  obtain ⟨aa', ac', q1, q2⟩ := TokRep.get h3 j (by simpa using h)
  refine ⟨aa', ac', q1, fun i u hi => ?_⟩
  have hl : (tokCells t aa ac).length = 6 := rfl
  rw [List.getElem?_append_right (by rw [hl]; omega), hl, show (j + 1) * 6 + i - 6 = j * 6 + i by omega]
  exact q2 i u hi
def pot (st : TS) : Nat := st.toks.length + st.flts.length + st.text.length + 16 * st.rest.length
structure Fit (b : Nat) (st : TS) : Prop where
 place : st.pl + st.rest.length < 1000000
 room : pot st <= b
theorem Fit.le {b : Nat} {st : TS} (h : Fit b st) : st.pl + st.rest.length <= 1000000 := Nat.le_of_lt h.place
theorem Fit.mono {b b' : Nat} {st : TS} (h : Fit b st) (hb : b <= b') : Fit b' st := ⟨h.place, Nat.le_trans h.room hb⟩
theorem Fit.cut {b : Nat} {st : TS} (h : Fit b st) {n : Nat} (hn : n <= st.rest.length) : Fit (b - 16 * n) (st.cut n) := by
 obtain ⟨h1, h2⟩ := h
 unfold pot at h2
 refine ⟨?_, ?_⟩
 ·simp only [TS.cut, List.length_drop]; omega
 ·simp only [pot, TS.cut, List.length_drop]; omega
theorem Fit.flt {b : Nat} {st : TS} (h : Fit b st) (k a : Nat) : Fit (b + 1) (st.flt k a) := by
 obtain ⟨h1, h2⟩ := h
 unfold pot at h2
 refine ⟨h1, ?_⟩
 simp only [pot, TS.flt, List.length_append, List.length_cons, List.length_nil]; omega
theorem Fit.endT {b : Nat} {st : TS} (h : Fit b st) : Fit b st.endT := by
 obtain ⟨h1, h2⟩ := h
 unfold TS.endT
 split
 ·exact ⟨h1, h2⟩
 ·rename_i ht
  have : 0 < st.text.length := List.length_pos_iff.2 ht
  unfold pot at h2
  refine ⟨h1, ?_⟩
  simp only [pot, List.length_append, List.length_cons, List.length_nil]; omega
theorem Fit.add {b : Nat} {st : TS} (h : Fit b st) (t : Tk) : Fit (b + 1) (st.add t) := by
 obtain ⟨h1, h2⟩ := h.endT
 unfold pot at h2
 refine ⟨h1, ?_⟩
 simp only [pot, TS.add, List.length_append, List.length_cons, List.length_nil]; omega
theorem Fit.addT {b : Nat} {st : TS} (h : Fit b st) (part : List UInt8) (a : Nat) : Fit (b + part.length) (st.addT part a) := by
 unfold TS.addT
 split
 ·exact h.mono (by omega)
 ·obtain ⟨h1, h2⟩ := h
  unfold pot at h2
  refine ⟨h1, ?_⟩
  simp only [pot, List.length_append]; omega
theorem upTo_le (p : List UInt8 -> Bool) : ∀ l, upTo p l <= l.length
 | [] => Nat.le_refl _
 | c :: r => by
  unfold upTo
  have := upTo_le p r
  split
  ·exact Nat.zero_le _
  ·simp only [List.length_cons]; omega
theorem pre_length {f l : List UInt8} (h : pre f l = true) : f.length <= l.length := prefix_length f l h
theorem sv_size (l : List UInt8) : (⟨l.toArray⟩ : ByteArray).size = l.length := by
 show l.toArray.size = l.length
 simp
theorem Fit.cutTo {b : Nat} {st : TS} (h : Fit b st) (p : List UInt8 -> Bool) : Fit b (st.cutTo p) := (h.cut (upTo_le p st.rest)).mono (by omega)
theorem Fit.cutIf {b : Nat} {st : TS} (h : Fit b st) (f : List UInt8) : Fit b (st.cutIf f) := by
 unfold TS.cutIf
 split
 ·rename_i hp
  exact (h.cut (pre_length hp)).mono (by omega)
 ·exact h
theorem Fit.cmt {b : Nat} {st : TS} (h : Fit b st) (d : List UInt8) (a : Nat) : Fit (b + 1) (st.cmt d a) := h.add _
theorem Fit.front {b : Nat} {st : TS} (h : Fit b st) (p : List UInt8 -> Bool) : (st.front p).length < 1000001 := by
 unfold TS.front
 rw [List.length_take]
 have := h.place
 omega
theorem Fit.dtEnd {b : Nat} {st : TS} (h : Fit b st) : Fit (b + 1) st.dtEnd := by
 unfold TS.dtEnd
 split
 ·rename_i hp
  exact (h.cut (n := 1) (pre_length hp)).mono (by omega)
 ·exact h.flt _ _
theorem Fit.cmtEnd {b : Nat} {st : TS} (h : Fit b st) (a : Nat) : Fit (b + 1) (st.cmtEnd a) := by
 unfold TS.cmtEnd
 split
 ·exact h.flt _ _
 ·split
  ·rename_i hp
   exact (h.cut (n := 3) (pre_length hp)).mono (by omega)
  ·exact (h.cutIf _).flt _ _
theorem cleanL_length : ∀ l : List UInt8, (cleanL l).length <= 3 * l.length
 | [] => Nat.le_refl _
 | c :: r => by
  have := cleanL_length r
  have e : cleanL (c :: r) = cleanB c ++ cleanL r := rfl
  rw [e, List.length_append, List.length_cons]
  unfold cleanB
  split <;> simp only [List.length_cons, List.length_nil] <;> omega
theorem Fit.val2 {b : Nat} {st : TS} (h : Fit b st) : Fit (b + 1) st.val2.st /\ st.val2.v.length <= st.rest.length := by
 have fr : ∀ (s : TS) p, (s.front p).length <= s.rest.length := fun s p => by unfold TS.front; rw [List.length_take]; omega
 have cu : ∀ (s : TS) n, (s.cut n).rest.length <= s.rest.length := fun s n => by simp only [TS.cut, List.length_drop]; omega
 unfold TS.val2
 split
 ·rename_i hp
  have f1 := (h.cut (n := 1) (pre_length hp)).mono (b' := b) (by omega)
  exact ⟨((f1.cutTo _).cutIf _).mono (by omega), Nat.le_trans (fr _ _) (cu _ _)⟩
 ·split
  ·rename_i hp
   have f1 := (h.cut (n := 1) (pre_length hp)).mono (b' := b) (by omega)
   exact ⟨((f1.cutTo _).cutIf _).mono (by omega), Nat.le_trans (fr _ _) (cu _ _)⟩
  ·split
   ·exact ⟨h.flt _ _, Nat.zero_le _⟩
   ·exact ⟨(h.cutTo _).mono (by omega), fr _ _⟩
theorem Fit.value {b : Nat} {st : TS} (h : Fit b st) : Fit (b + 1) st.value.st /\ st.value.v.length <= st.rest.length := by
 have cu : ∀ (s : TS) n, (s.cut n).rest.length <= s.rest.length := fun s n => by simp only [TS.cut, List.length_drop]; omega
 unfold TS.value
 split
 ·rename_i hp
  have f1 := ((h.cutTo (hdOut blk)).cut (n := 1) (pre_length hp)).mono (b' := b) (by omega)
  have := (f1.cutTo (hdOut blk)).val2
  exact ⟨this.1, Nat.le_trans this.2 (Nat.le_trans (cu _ _) (Nat.le_trans (cu _ _) (cu _ _)))⟩
 ·exact ⟨(h.cutTo _).mono (by omega), Nat.zero_le _⟩
abbrev atE : List UInt8 := [9, 10, 12, 32, 47, 62, 61]
theorem Fit.attr {b : Nat} {st : TS} (h : Fit b st) (hne : st.rest ≠ []) (attrs : List Atr) : Fit b (st.attr attrs).st := by
 have hp : 0 < st.rest.length := List.length_pos_iff.2 hne
 have hb : 16 <= b := by have := h.room; unfold pot at this; omega
 have f0 := h.cut (n := 1) (by omega)
 have f1 : Fit (b - 16 + 1) st.first := by
  unfold TS.first
  split
  ·exact f0.flt _ _
  ·exact f0.mono (by omega)
 have f3 := (f1.cutTo (hdIn atE)).value.1
 unfold TS.attr
 split
 ·split
  ·exact (f3.flt 5 st.pl).mono (by omega)
  ·exact f3.mono (by omega)
 ·exact f3.mono (by omega)
theorem attr_few {st : TS} {attrs : List Atr} (h : attrs.length <= 50) : (st.attr attrs).attrs.length <= 50 := by
 unfold TS.attr
 split
 ·split
  ·exact h
  ·rename_i hn
   have : ¬ 50 <= attrs.length := fun hh => hn (.inl hh)
   simp only [List.length_append, List.length_cons, List.length_nil]
   omega
 ·exact h
theorem tagF_succ (f : Nat) (st : TS) (attrs : List Atr) : TS.tagF (f + 1) st attrs =
  if (st.cutTo (hdOut sla)).rest = [] then ⟨(st.cutTo (hdOut sla)).flt 6 (st.cutTo (hdOut sla)).pl, attrs, false, false⟩
  else if pre [62] (st.cutTo (hdOut sla)).rest = true then ⟨(st.cutTo (hdOut sla)).cut 1, attrs, (st.front (hdOut sla)).getLast? == some 47, true⟩
  else TS.tagF f ((st.cutTo (hdOut sla)).attr attrs).st ((st.cutTo (hdOut sla)).attr attrs).attrs := rfl
theorem allL_length (attr : Bool) : ∀ (n : Nat) (l : List UInt8), l.length <= n -> (allL attr l).length <= 4 * l.length
 | 0, l, h => by
  rw [List.eq_nil_of_length_eq_zero (l := l) (by omega)]
  exact Nat.le_refl _
 | n + 1, [], _ => Nat.le_refl _
 | n + 1, c :: r, h => by
  by_cases h0 : (takeL (c :: r) attr).n = 0
  ·rw [allL_none h0]
   have := allL_length attr n r (by simpa using h)
   simp only [List.length_cons]
   omega
  ·rw [allL_some h0, List.length_append]
   have hn := takeL_n (c :: r) attr
   have ht : (takeL (c :: r) attr).text.data.toList.length <= 4 := text_le (c :: r) attr
   have := allL_length attr n ((c :: r).drop (takeL (c :: r) attr).n) (by rw [List.length_drop]; simp only [List.length_cons] at h ⊢; omega)
   rw [List.length_drop] at this
   omega
def Mv (s s' : TS) : Prop := ∃ n, n <= s.rest.length /\ s'.rest = s.rest.drop n /\ s'.pl = s.pl + n
theorem Mv.refl (s : TS) : Mv s s := ⟨0, Nat.zero_le _, rfl, rfl⟩
theorem Mv.of {s s' : TS} (h1 : s'.rest = s.rest) (h2 : s'.pl = s.pl) : Mv s s' := ⟨0, Nat.zero_le _, h1, h2⟩
theorem Mv.trans {a b c : TS} (h : Mv a b) (k : Mv b c) : Mv a c := by
 obtain ⟨n, h1, h2, h3⟩ := h
 obtain ⟨m, k1, k2, k3⟩ := k
 rw [h2, List.length_drop] at k1
 exact ⟨n + m, by omega, by rw [k2, h2, List.drop_drop], by omega⟩
theorem Mv.le {a b : TS} (h : Mv a b) : b.rest.length <= a.rest.length := by
 obtain ⟨n, h1, h2, _⟩ := h
 rw [h2, List.length_drop]
 omega
theorem Mv.sum {a b : TS} (h : Mv a b) : b.pl + b.rest.length = a.pl + a.rest.length := by
 obtain ⟨n, h1, h2, h3⟩ := h
 rw [h2, List.length_drop]
 omega
theorem Mv.pl {a b : TS} (h : Mv a b) : a.pl <= b.pl := by
 obtain ⟨n, _, _, h3⟩ := h
 omega
theorem next_cons {s : TS} {c : UInt8} {r : List UInt8} (h : s.rest = c :: r) : s.next = if c = 60 then s.markup else if c = 38 then s.refr else if c = 0 then (s.flt 3 s.pl).cut 1 else (s.cutTo (hdIn [60, 38, 0])).addT (s.front (hdIn [60, 38, 0])) s.pl := by
 unfold TS.next
 rw [h]
/-! ### Room -/
theorem Fit.note {b : Nat} {s : TS} (h : Fit b s) (a : Nat) : Fit (b + 2) (s.note a) := (((h.flt 7 a).cutTo _).cmt _ _).cutIf _
theorem Fit.comment {b : Nat} {s : TS} (h : Fit b s) (a : Nat) : Fit (b + 2) (s.comment a) := by
 unfold TS.comment
 split
 ·rename_i hp
  exact ((((h.cut (n := 1) (pre_length hp)).mono (b' := b) (by omega)).flt 7 a).cmt _ _)
 ·split
  ·rename_i hp
   exact ((((h.cut (n := 2) (pre_length hp)).mono (b' := b) (by omega)).flt 7 a).cmt _ _)
  ·exact ((h.cutTo _).cmtEnd a).cmt _ _
theorem Fit.doctype {b : Nat} {s : TS} (h : Fit b s) (a : Nat) : Fit (b + 2) (s.doctype a) := ((((h.cutTo _).cutTo _).cutTo _).dtEnd).add _
theorem Fit.tagF {b : Nat} : ∀ (f : Nat) {s : TS} (l : List Atr), Fit b s -> Fit (b + 1) (TS.tagF f s l).st
 | 0, _, _, h => h.mono (by omega)
 | f + 1, s, l, h => by
  rw [tagF_succ]
  split
  ·exact (h.cutTo _).flt _ _
  ·rename_i hne
   split
   ·rename_i hp
    exact ((h.cutTo _).cut (n := 1) (pre_length hp)).mono (by omega)
   ·exact Fit.tagF f _ ((h.cutTo _).attr hne l)
theorem Fit.inside {b : Nat} {s : TS} (h : Fit b s) (name : List UInt8) : Fit b (s.inside name) := by
 have hc := h.cut (upTo_le (endOfP name) s.rest)
 have hfr : (s.front (endOfP name)).length = upTo (endOfP name) s.rest := by
  unfold TS.front
  rw [List.length_take]
  have := upTo_le (endOfP name) s.rest
  omega
 have hcl := cleanL_length (s.front (endOfP name))
 have hal := allL_length false _ (cleanL (s.front (endOfP name))) (Nat.le_refl _)
 have hb : 16 * upTo (endOfP name) s.rest <= b := by
  have := h.room
  have := upTo_le (endOfP name) s.rest
  unfold pot at *
  omega
 unfold TS.inside
 split
 ·exact (hc.addT _ _).mono (by omega)
 ·split
  ·exact (hc.addT _ _).mono (by omega)
  ·exact h
theorem Fit.tag {b : Nat} {s : TS} (h : Fit b s) (k a : Nat) : Fit (b + 2) (s.tag k a) := by
 have m := Fit.tagF (s.cutTo (hdIn tgE)).rest.length.succ [] (h.cutTo (hdIn tgE))
 unfold TS.tag
 split
 ·split
  ·exact m.add _
  ·exact (m.add _).inside _
 ·exact m.mono (by omega)
theorem Fit.ending {b : Nat} {s : TS} (h : Fit b s) (a : Nat) : Fit (b + 3) (s.ending a) := by
 unfold TS.ending
 split
 ·exact (h.tag _ _).mono (by omega)
 ·split
  ·exact ((h.flt 6 a).addT [60, 47] a).mono (by simp only [List.length_cons, List.length_nil]; omega)
  ·split
   ·rename_i hp
    exact ((h.cut (n := 1) (pre_length hp)).flt 4 a).mono (by omega)
   ·exact (h.note a).mono (by omega)
theorem Fit.opened {b : Nat} {s : TS} (h : Fit b s) (a : Nat) : Fit (b + 3) (s.opened a) := by
 unfold TS.opened
 split
 ·exact (h.tag _ _).mono (by omega)
 ·split
  ·rename_i hp
   exact ((h.cut (n := 1) (pre_length hp)).ending a).mono (by omega)
  ·split
   ·rename_i hp
    exact ((h.cut (n := 3) (pre_length hp)).comment a).mono (by omega)
   ·split
    ·rename_i hp
     exact ((h.cut (n := 8) (by unfold anyG at hp; rw [Bool.and_eq_true] at hp; exact of_decide_eq_true hp.1)).doctype a).mono (by omega)
    ·split
     ·rename_i hp
      exact ((h.cut (n := 1) (pre_length hp)).note a).mono (by omega)
     ·split
      ·exact (h.note a).mono (by omega)
      ·exact ((h.flt 4 a).addT [60] a).mono (by simp only [List.length_cons, List.length_nil]; omega)
theorem Fit.next {b : Nat} {s : TS} (h : Fit b s) (hne : s.rest ≠ []) : Fit b s.next := by
 have hp : 1 <= s.rest.length := List.length_pos_iff.2 hne
 have hb : 16 * s.rest.length <= b := by have := h.room; unfold pot at this; omega
 obtain ⟨c, r, hr⟩ : ∃ c r, s.rest = c :: r := by
  cases hh : s.rest with
  | nil => exact absurd hh hne
  | cons c r => exact ⟨c, r, rfl⟩
 rw [next_cons hr]
 by_cases h1 : c = 60
 ·rw [if_pos h1]; exact ((h.cut hp).opened s.pl).mono (by omega)
 ·rw [if_neg h1]
  by_cases h2 : c = 38
  ·rw [if_pos h2]
   have hn := takeL_n s.rest false
   have htx := text_le s.rest false
   have hr' : (s.fltIf (takeL s.rest false).fault s.pl).rest = s.rest := by unfold TS.fltIf; split <;> rfl
   have hle : (if (takeL s.rest false).n = 0 then 1 else (takeL s.rest false).n) <= s.rest.length := by split <;> omega
   have hpos : 1 <= (if (takeL s.rest false).n = 0 then 1 else (takeL s.rest false).n) := by split <;> omega
   have htl : (if (takeL s.rest false).n = 0 then [38] else (takeL s.rest false).text.data.toList).length <= 4 := by
    split
    ·decide
    ·exact htx
   have fx : Fit (b + 1) (s.fltIf (takeL s.rest false).fault s.pl) := by
    unfold TS.fltIf
    split
    ·exact h.mono (by omega)
    ·exact h.flt _ _
   exact ((fx.cut (n := (if (takeL s.rest false).n = 0 then 1 else (takeL s.rest false).n)) (by rw [hr']; exact hle)).addT _ _).mono (by omega)
  ·rw [if_neg h2]
   by_cases h3 : c = 0
   ·rw [if_pos h3]; exact ((h.flt 3 s.pl).cut (n := 1) hp).mono (by omega)
   ·rw [if_neg h3]
    have hu := upTo_le (hdIn [60, 38, 0]) s.rest
    have hfr : (s.front (hdIn [60, 38, 0])).length <= upTo (hdIn [60, 38, 0]) s.rest := by unfold TS.front; rw [List.length_take]; omega
    exact ((h.cut hu).addT _ _).mono (by omega)
def plain (c : UInt8) : Prop := c ≠ 60 /\ c ≠ 38 /\ c ≠ 0
theorem Fit.runF {b : Nat} : ∀ (f : Nat) {s : TS}, Fit b s -> Fit b (TS.runF f s)
 | 0, _, h => h.endT
 | f + 1, s, h => by
  rw [TS.runF]
  split
  ·exact h.endT
  ·rename_i hne
   exact Fit.runF f (h.next hne)
def AllA (s : TS) : Prop := ∀ t ∈ s.toks, t.attrs.length <= 50
theorem AllA.of {s s' : TS} (h : AllA s) (e : s'.toks = s.toks) : AllA s' := fun t ht => h t (e ▸ ht)
theorem AllA.endT {s : TS} (h : AllA s) : AllA s.endT := by
 unfold TS.endT
 split
 ·exact h
 ·intro t ht
  rcases List.mem_append.1 ht with ht | ht
  ·exact h t ht
  ·rw [List.mem_singleton.1 ht]
   exact Nat.zero_le _
theorem AllA.add {s : TS} (h : AllA s) {t : Tk} (ht : t.attrs.length <= 50) : AllA (s.add t) := by
 intro u hu
 rcases List.mem_append.1 hu with hu | hu
 ·exact h.endT u hu
 ·rw [List.mem_singleton.1 hu]
  exact ht
theorem tk_addT (s : TS) (p : List UInt8) (a : Nat) : (s.addT p a).toks = s.toks := by unfold TS.addT; split <;> rfl
theorem tk_cutIf (s : TS) (f : List UInt8) : (s.cutIf f).toks = s.toks := by unfold TS.cutIf; split <;> rfl
theorem tk_fltIf (s : TS) (k a : Nat) : (s.fltIf k a).toks = s.toks := by unfold TS.fltIf; split <;> rfl
theorem tk_cmtEnd (s : TS) (a : Nat) : (s.cmtEnd a).toks = s.toks := by
 unfold TS.cmtEnd
 split
 ·rfl
 ·split
  ·rfl
  ·exact tk_cutIf _ _
theorem tk_dtEnd (s : TS) : s.dtEnd.toks = s.toks := by unfold TS.dtEnd; split <;> rfl
theorem tk_val2 (s : TS) : s.val2.st.toks = s.toks := by
 unfold TS.val2
 split
 ·exact tk_cutIf _ _
 ·split
  ·exact tk_cutIf _ _
  ·split <;> rfl
theorem tk_value (s : TS) : s.value.st.toks = s.toks := by
 unfold TS.value
 split
 ·exact tk_val2 _
 ·rfl
theorem tk_first (s : TS) : s.first.toks = s.toks := by unfold TS.first; split <;> rfl
theorem tk_attr (s : TS) (l : List Atr) : (s.attr l).st.toks = s.toks := by
 have e : (s.first.cutTo (hdIn atE)).value.st.toks = s.toks := (tk_value _).trans (tk_first s)
 unfold TS.attr
 split
 ·split
  ·exact e
  ·exact e
 ·exact e
theorem tk_tagF : ∀ (f : Nat) (s : TS) (l : List Atr), (TS.tagF f s l).st.toks = s.toks
 | 0, _, _ => rfl
 | f + 1, s, l => by
  rw [tagF_succ]
  split
  ·rfl
  ·split
   ·rfl
   ·exact (tk_tagF f _ _).trans (tk_attr _ _)
theorem at_tagF : ∀ (f : Nat) (s : TS) (l : List Atr), l.length <= 50 -> (TS.tagF f s l).attrs.length <= 50
 | 0, _, _, h => h
 | f + 1, s, l, h => by
  rw [tagF_succ]
  split
  ·exact h
  ·split
   ·exact h
   ·exact at_tagF f _ _ (attr_few h)
theorem tk_inside (s : TS) (name : List UInt8) : (s.inside name).toks = s.toks := by
 unfold TS.inside
 split
 ·exact tk_addT _ _ _
 ·split
  ·exact tk_addT _ _ _
  ·rfl
theorem AllA.cmt {s : TS} (h : AllA s) (d : List UInt8) (a : Nat) : AllA (s.cmt d a) := h.add (Nat.zero_le _)
theorem AllA.note {s : TS} (h : AllA s) (a : Nat) : AllA (s.note a) := by
 have h1 : AllA (((s.flt 7 a).cutTo (hdIn [62])).cmt (s.front (hdIn [62])) a) := AllA.cmt (AllA.of (s' := (s.flt 7 a).cutTo (hdIn [62])) h rfl) _ _
 exact AllA.of h1 (tk_cutIf _ _)
theorem AllA.tag {s : TS} (h : AllA s) (k a : Nat) : AllA (s.tag k a) := by
 have h1 : AllA ((s.cutTo (hdIn tgE)).tagF (s.cutTo (hdIn tgE)).rest.length.succ []).st := AllA.of h (tk_tagF _ _ _)
 unfold TS.tag
 split
 ·split
  ·exact h1.add (Nat.zero_le _)
  ·exact AllA.of (h1.add (at_tagF _ _ _ (Nat.zero_le _))) (tk_inside _ _)
 ·exact h1
theorem AllA.ending {s : TS} (h : AllA s) (a : Nat) : AllA (s.ending a) := by
 unfold TS.ending
 split
 ·exact h.tag _ _
 ·split
  ·exact AllA.of (s := s.flt 6 a) (AllA.of h rfl) (tk_addT _ _ _)
  ·split
   ·exact AllA.of h rfl
   ·exact h.note a
theorem AllA.opened {s : TS} (h : AllA s) (a : Nat) : AllA (s.opened a) := by
 unfold TS.opened
 split
 ·exact h.tag _ _
 ·split
  ·exact AllA.ending (AllA.of (s' := s.cut 1) h rfl) a
  ·split
   ·unfold TS.comment
    split
    ·exact AllA.cmt (AllA.of (s' := ((s.cut 3).cut 1).flt 7 a) h rfl) _ _
    ·split
     ·exact AllA.cmt (AllA.of (s' := ((s.cut 3).cut 2).flt 7 a) h rfl) _ _
     ·exact AllA.cmt (AllA.of (s := (s.cut 3).cutTo endsC) (AllA.of h rfl) (tk_cmtEnd _ _)) _ _
   ·split
    ·unfold TS.doctype
     exact AllA.add (s := ((((s.cut 8).cutTo (hdOut blk)).cutTo (hdIn [9, 10, 12, 32, 62])).cutTo (hdIn [62])).dtEnd) (AllA.of h (tk_dtEnd _)) (t := ⟨5, _, [], false, [], a⟩) (Nat.zero_le _)
    ·split
     ·exact AllA.note (AllA.of (s' := s.cut 1) h rfl) a
     ·split
      ·exact h.note a
      ·exact AllA.of (s := s.flt 4 a) (AllA.of h rfl) (tk_addT _ _ _)
theorem AllA.next {s : TS} (h : AllA s) : AllA s.next := by
 unfold TS.next
 split
 ·exact h
 ·split
  ·exact AllA.opened (AllA.of (s' := s.cut 1) h rfl) _
  ·split
   ·unfold TS.refr
    refine AllA.of h ((tk_addT _ _ _).trans ?_)
    exact tk_fltIf _ _ _
   ·split
    ·exact AllA.of h rfl
    ·exact AllA.of h (tk_addT _ _ _)
theorem AllA.runF : ∀ (f : Nat) {s : TS}, AllA s -> AllA (TS.runF f s)
 | 0, _, h => h.endT
 | f + 1, s, h => by
  rw [TS.runF]
  split
  ·exact h.endT
  ·exact AllA.runF f h.next
end
end Go.Proofs.YteccdijjpmeeaaaGreat
