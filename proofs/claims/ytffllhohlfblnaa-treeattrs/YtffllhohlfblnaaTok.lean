/-
  Tokens as plain functions on lists of bytes: what the reader of the program does at each step. No program is named here.
-/
import Derived.Test.YtffllhohlfblnaaPure
import Derived.Test.YtffllhohlfblnaaNPure
namespace Go.Proofs.Ytffllhohlfblnaa







/-- U+FFFD for each byte 0. -/
def cleanB (c : UInt8) : List UInt8 := if c = 0 then [239, 191, 189] else [c]
def cleanL (l : List UInt8) : List UInt8 := l.flatMap cleanB
/-- A name as it is told. -/
def nmL (l : List UInt8) : List UInt8 := cleanL (lowL l)
def letterP (c : UInt8) : Bool := (decide (97 ≤ c.toNat) && decide (c.toNat ≤ 122)) || (decide (65 ≤ c.toNat) && decide (c.toNat ≤ 90))
def begL : List UInt8 → Bool
  | [] => false
  | c :: _ => letterP c
/-- How many bytes up to the first place whose rest is sought. -/
def upTo (p : List UInt8 → Bool) : List UInt8 → Nat
  | [] => 0
  | c :: r => if p (c :: r) = true then 0 else upTo p r + 1
def hdIn (set : List UInt8) : List UInt8 → Bool
  | [] => false
  | c :: _ => set.contains c
def hdOut (set : List UInt8) : List UInt8 → Bool
  | [] => true
  | c :: _ => !set.contains c
def pre (f l : List UInt8) : Bool := f.isPrefixOf l
/-- These bytes, of letters of any size. -/
def anyG (front l : List UInt8) : Bool := decide (front.length ≤ l.length) && (l.head? == front.head? && lowL (l.take front.length) == front)
def endsC (l : List UInt8) : Bool := pre [45, 45, 62] l || pre [45, 45, 33, 62] l
def endOfP (name l : List UInt8) : Bool := anyG (60 :: 47 :: name) l && (decide (name.length + 2 < l.length) && hdIn [9, 10, 12, 32, 47, 62] (l.drop (name.length + 2)))

structure Atr where
  name : List UInt8
  value : List UInt8
structure Tk where
  kind : Nat
  name : List UInt8
  attrs : List Atr
  self : Bool
  data : List UInt8
  pl : Nat
structure Fl where
  kind : Nat
  pl : Nat
/-- What is not read yet, its place, and what came. -/
structure TS where
  rest : List UInt8
  pl : Nat
  toks : List Tk
  flts : List Fl
  text : List UInt8
  tat : Nat

def TS.cut (st : TS) (n : Nat) : TS := { st with rest := st.rest.drop n, pl := st.pl + n }
def TS.flt (st : TS) (k a : Nat) : TS := { st with flts := st.flts ++ [⟨k, a⟩] }
def TS.endT (st : TS) : TS := if st.text = [] then st else { st with toks := st.toks ++ [⟨3, [], [], false, st.text, st.tat⟩], text := [] }
def TS.add (st : TS) (t : Tk) : TS := { st.endT with toks := st.endT.toks ++ [t] }
def TS.addT (st : TS) (part : List UInt8) (a : Nat) : TS := if part = [] then st else { st with text := st.text ++ part, tat := if st.text = [] then a else st.tat }
def TS.cutIf (st : TS) (f : List UInt8) : TS := if pre f st.rest = true then st.cut f.length else st
def TS.cutTo (st : TS) (p : List UInt8 → Bool) : TS := st.cut (upTo p st.rest)
def TS.front (st : TS) (p : List UInt8 → Bool) : List UInt8 := st.rest.take (upTo p st.rest)
def TS.cmt (st : TS) (d : List UInt8) (a : Nat) : TS := st.add ⟨4, [], [], false, cleanL d, a⟩

def TS.fltIf (st : TS) (k a : Nat) : TS := if k = 0 then st else st.flt k a
def TS.refr (st : TS) : TS :=
  ((st.fltIf (takeL st.rest false).fault st.pl).cut (if (takeL st.rest false).n = 0 then 1 else (takeL st.rest false).n)).addT (if (takeL st.rest false).n = 0 then [38] else (takeL st.rest false).text.data.toList) st.pl
def TS.note (st : TS) (a : Nat) : TS := ((((st.flt 7 a).cutTo (hdIn [62])).cmt (st.front (hdIn [62])) a)).cutIf [62]
/-- Behind what a comment has in it. -/
def TS.cmtEnd (st : TS) (a : Nat) : TS := if st.rest = [] then st.flt 6 st.pl else if pre [45, 45, 62] st.rest = true then st.cut 3 else (st.cutIf [45, 45, 33, 62]).flt 7 a
def TS.comment (st : TS) (a : Nat) : TS :=
  if pre [62] st.rest = true then ((st.cut 1).flt 7 a).cmt [] a else if pre [45, 62] st.rest = true then ((st.cut 2).flt 7 a).cmt [] a
  else ((st.cutTo endsC).cmtEnd a).cmt (st.front endsC) a
def blk : List UInt8 := [9, 10, 12, 32]
def TS.dtEnd (st : TS) : TS := if pre [62] st.rest = true then st.cut 1 else st.flt 6 st.pl
def TS.doctype (st : TS) (a : Nat) : TS :=
  ((((st.cutTo (hdOut blk)).cutTo (hdIn [9, 10, 12, 32, 62])).cutTo (hdIn [62])).dtEnd).add ⟨5, nmL ((st.cutTo (hdOut blk)).front (hdIn [9, 10, 12, 32, 62])), [], false, [], a⟩

structure Val where
  st : TS
  v : List UInt8
  ok : Bool
/-- Behind a quote. -/
def TS.quoted (st : TS) (q : UInt8) : Val := ⟨(st.cutTo (hdIn [q])).cutIf [q], st.front (hdIn [q]), pre [q] (st.cutTo (hdIn [q])).rest⟩
/-- Behind the sign =, and blanks. -/
def TS.val2 (st : TS) : Val :=
  if pre [34] st.rest = true then (st.cut 1).quoted 34 else if pre [39] st.rest = true then (st.cut 1).quoted 39
  else if pre [62] st.rest = true then ⟨st.flt 5 st.pl, [], true⟩ else ⟨st.cutTo (hdIn [9, 10, 12, 32, 62]), st.front (hdIn [9, 10, 12, 32, 62]), true⟩
def TS.value (st : TS) : Val :=
  if pre [61] (st.cutTo (hdOut blk)).rest = true then (((st.cutTo (hdOut blk)).cut 1).cutTo (hdOut blk)).val2 else ⟨st.cutTo (hdOut blk), [], true⟩
def hasN (attrs : List Atr) (name : List UInt8) : Bool := attrs.any (fun a => a.name == name)
structure Ats where
  st : TS
  attrs : List Atr
def TS.first (st : TS) : TS := if st.rest.take 1 = [61] then (st.cut 1).flt 5 st.pl else st.cut 1
def TS.aname (st : TS) : List UInt8 := nmL (st.rest.take 1 ++ st.first.front (hdIn [9, 10, 12, 32, 47, 62, 61]))
def TS.attr (st : TS) (attrs : List Atr) : Ats :=
  if (st.first.cutTo (hdIn [9, 10, 12, 32, 47, 62, 61])).value.ok = true then
    (if 50 ≤ attrs.length ∨ hasN attrs st.aname = true then ⟨(st.first.cutTo (hdIn [9, 10, 12, 32, 47, 62, 61])).value.st.flt 5 st.pl, attrs⟩
    else ⟨(st.first.cutTo (hdIn [9, 10, 12, 32, 47, 62, 61])).value.st, attrs ++ [⟨st.aname, allL true (cleanL (st.first.cutTo (hdIn [9, 10, 12, 32, 47, 62, 61])).value.v)⟩]⟩)
  else ⟨(st.first.cutTo (hdIn [9, 10, 12, 32, 47, 62, 61])).value.st, attrs⟩
def sla : List UInt8 := [9, 10, 12, 32, 47]
structure Tg where
  st : TS
  attrs : List Atr
  self : Bool
  ok : Bool
def TS.tagF : Nat → TS → List Atr → Tg
  | 0, st, attrs => ⟨st, attrs, false, false⟩
  | f + 1, st, attrs =>
    if (st.cutTo (hdOut sla)).rest = [] then ⟨(st.cutTo (hdOut sla)).flt 6 (st.cutTo (hdOut sla)).pl, attrs, false, false⟩
    else if pre [62] (st.cutTo (hdOut sla)).rest = true then ⟨(st.cutTo (hdOut sla)).cut 1, attrs, (st.front (hdOut sla)).getLast? == some 47, true⟩
    else TS.tagF f ((st.cutTo (hdOut sla)).attr attrs).st ((st.cutTo (hdOut sla)).attr attrs).attrs
def TS.inside (st : TS) (name : List UInt8) : TS :=
  if softP name = true then (st.cutTo (endOfP name)).addT (allL false (cleanL (st.front (endOfP name)))) st.pl
  else if rawP name = true then (st.cutTo (endOfP name)).addT (cleanL (st.front (endOfP name))) st.pl else st
def tgE : List UInt8 := [9, 10, 12, 32, 47, 62]
def TS.tag (st : TS) (kind a : Nat) : TS :=
  if ((st.cutTo (hdIn tgE)).tagF (st.cutTo (hdIn tgE)).rest.length.succ []).ok = true then
    (if kind = 2 then ((st.cutTo (hdIn tgE)).tagF (st.cutTo (hdIn tgE)).rest.length.succ []).st.add ⟨2, nmL (st.front (hdIn tgE)), [], false, [], a⟩
    else (((st.cutTo (hdIn tgE)).tagF (st.cutTo (hdIn tgE)).rest.length.succ []).st.add ⟨kind, nmL (st.front (hdIn tgE)), ((st.cutTo (hdIn tgE)).tagF (st.cutTo (hdIn tgE)).rest.length.succ []).attrs, ((st.cutTo (hdIn tgE)).tagF (st.cutTo (hdIn tgE)).rest.length.succ []).self, [], a⟩).inside (nmL (st.front (hdIn tgE))))
  else ((st.cutTo (hdIn tgE)).tagF (st.cutTo (hdIn tgE)).rest.length.succ []).st
def TS.ending (st : TS) (a : Nat) : TS :=
  if begL st.rest = true then st.tag 2 a else if st.rest = [] then (st.flt 6 a).addT [60, 47] a else if pre [62] st.rest = true then (st.cut 1).flt 4 a else st.note a
def dtL : List UInt8 := [33, 100, 111, 99, 116, 121, 112, 101]
/-- Behind a <. -/
def TS.opened (st : TS) (a : Nat) : TS :=
  if begL st.rest = true then st.tag 1 a else if pre [47] st.rest = true then (st.cut 1).ending a else if pre [33, 45, 45] st.rest = true then (st.cut 3).comment a
  else if anyG dtL st.rest = true then (st.cut 8).doctype a else if pre [33] st.rest = true then (st.cut 1).note a else if pre [63] st.rest = true then st.note a
  else (st.flt 4 a).addT [60] a
def TS.markup (st : TS) : TS := (st.cut 1).opened st.pl
def TS.next (st : TS) : TS :=
  match st.rest with
  | [] => st
  | c :: _ => if c = 60 then st.markup else if c = 38 then st.refr else if c = 0 then (st.flt 3 st.pl).cut 1 else (st.cutTo (hdIn [60, 38, 0])).addT (st.front (hdIn [60, 38, 0])) st.pl
def TS.runF : Nat → TS → TS
  | 0, st => st.endT
  | f + 1, st => if st.rest = [] then st.endT else TS.runF f st.next
def TS.run (st : TS) : TS := TS.runF st.rest.length st
def TS.new (s : List UInt8) : TS := ⟨s, 0, [], [], [], 0⟩
/-- All of it. -/
def tokL (s : List UInt8) : TS := (TS.new s).run
end Go.Proofs.Ytffllhohlfblnaa
