/-
 References to characters as plain functions on lists of bytes, and what holds of them. No program is named here.; Kinds of names, as plain functions on lists of bytes.; Tokens as plain functions on lists of bytes: what the reader of the program does at each step. No program is named here.; Texts as 
-/
import Derived.Laws.Runes
import Derived.Laws.Cover4
import Derived.WalkKit
namespace Go.Proofs.Ytojbjiopilkbgaa
set_option linter.unusedVariables false
set_option maxRecDepth 100000
set_option maxHeartbeats 8000000
section
def digV (c : UInt8) : Nat :=
 if 48 <= c.toNat /\ c.toNat <= 57 then c.toNat - 48 else if 97 <= c.toNat /\ c.toNat <= 102 then c.toNat - 87 else if 65 <= c.toNat /\ c.toNat <= 70 then c.toNat - 55 else 16
def runN (b : Nat) : List UInt8 -> Nat
 | [] => 0
 | c :: r => if digV c < b then runN b r + 1 else 0
theorem runN_le (b : Nat) : ∀ l : List UInt8, runN b l <= l.length
 | [] => Nat.le_refl _
 | c :: r => by
  unfold runN
  have := runN_le b r
  split
  ·simp; omega
  ·simp
def codeF (b code : Nat) (c : UInt8) : Nat := if code <= 1114111 then code * b + digV c else code
def codeL (b : Nat) (l : List UInt8) : Nat := l.foldl (codeF b) 0
def ctrl : List Nat := [8364, 129, 8218, 402, 8222, 8230, 8224, 8225, 710, 8240, 352, 8249, 338, 141, 381, 143, 144, 8216, 8217, 8220, 8221, 8226, 8211, 8212, 732, 8482, 353, 8250, 339, 157, 382, 376]
def wrongC (code : Nat) : Bool := decide (code = 0) || decide (1114111 < code) || (decide (55296 <= code) && decide (code <= 57343))
def ctrlC (code : Nat) : Bool := decide (128 <= code) && decide (code <= 159)
def meantC (code : Nat) : Nat := if wrongC code = true then 65533 else if ctrlC code = true then ctrl.getD (code - 128) 0 else code
def meantF (code : Nat) : Nat := if wrongC code = true then 2 else if ctrlC code = true then 2 else 0
structure Ref where
 text : ByteArray
 n : Nat
 fault : Nat
def none0 : Ref := ⟨⟨#[]⟩, 0, 0⟩
def semi (l : List UInt8) : Bool := [59].isPrefixOf l
def hexN : List UInt8 -> Nat
 | c :: _ => if c = 120 \/ c = 88 then 1 else 0
 | [] => 0
def baseN (x : Nat) : Nat := if x = 1 then 16 else 10
theorem hexN_le : ∀ l : List UInt8, hexN l <= l.length /\ hexN l <= 1
 | [] => ⟨Nat.le_refl _, Nat.zero_le _⟩
 | c :: r => by
  simp only [hexN]
  split
  ·simp
  ·simp
def numR (x b : Nat) (ds : List UInt8) : Ref :=
 if runN b ds = 0 then none0
 else ⟨Utf8.encode (meantC (codeL b (ds.take (runN b ds)))), 2 + x + runN b ds + (if semi (ds.drop (runN b ds)) = true then 1 else 0),
  if meantF (codeL b (ds.take (runN b ds))) = 0 then (if semi (ds.drop (runN b ds)) = true then 0 else 1) else meantF (codeL b (ds.take (runN b ds)))⟩
def numL (l : List UInt8) : Ref := numR (hexN l) (baseN (hexN l)) (l.drop (hexN l))
structure Nm where
 name : List UInt8
 code : Nat
 bare : Bool
def names : List Nm := [⟨[97, 109, 112], 38, true⟩, ⟨[108, 116], 60, true⟩, ⟨[103, 116], 62, true⟩, ⟨[113, 117, 111, 116], 34, true⟩, ⟨[97, 112, 111, 115], 39, false⟩, ⟨[110, 98, 115, 112], 160, true⟩, ⟨[99, 111, 112, 121], 169, true⟩, ⟨[114, 101, 103], 174, true⟩, ⟨[104, 101, 108, 108, 105, 112], 8230, false⟩, ⟨[109, 100, 97, 115, 104], 8212, false⟩, ⟨[110, 100, 97, 115, 104], 8211, false⟩, ⟨[108, 115, 113, 117, 111], 8216, false⟩, ⟨[114, 115, 113, 117, 111], 8217, false⟩, ⟨[108, 100, 113, 117, 111], 8220, false⟩, ⟨[114, 100, 113, 117, 111], 8221, false⟩, ⟨[101, 117, 114, 111], 8364, false⟩, ⟨[116, 105, 109, 101, 115], 215, true⟩, ⟨[100, 105, 118, 105, 100, 101], 247, true⟩, ⟨[112, 97, 114, 97], 182, true⟩, ⟨[115, 101, 99, 116], 167, true⟩, ⟨[110, 111, 116], 172, true⟩, ⟨[110, 111, 116, 105, 110], 8713, false⟩]
def lenN (r : Nm) (l : List UInt8) : Nat :=
 if r.name.isPrefixOf l = true then (if semi (l.drop r.name.length) = true then r.name.length + 1 else if r.bare = true then r.name.length else 0) else 0
structure St where
 code : Nat
 long : Nat
 ended : Bool
def stepN (l : List UInt8) (st : St) (r : Nm) : St := if st.long < lenN r l then ⟨r.code, lenN r l, semi (l.drop r.name.length)⟩ else st
def scanN (l : List UInt8) (rs : List Nm) : St := rs.foldl (stepN l) ⟨0, 0, false⟩
def goesOn (c : UInt8) : Bool := decide (c.toNat = 61) || (decide (48 <= c.toNat) && decide (c.toNat <= 57)) || (decide (97 <= c.toNat) && decide (c.toNat <= 122)) || (decide (65 <= c.toNat) && decide (c.toNat <= 90))
def goes : List UInt8 -> Bool
 | [] => false
 | c :: _ => goesOn c
def endR (st : St) (l : List UInt8) (attr : Bool) : Ref :=
 if st.long = 0 then none0 else if st.ended = true then ⟨Utf8.encode st.code, 1 + st.long, 0⟩ else if (attr && goes (l.drop st.long)) = true then none0 else ⟨Utf8.encode st.code, 1 + st.long, 1⟩
def nameL (l : List UInt8) (attr : Bool) : Ref := endR (scanN l names) l attr
def hash : List UInt8 -> Bool
 | [] => false
 | c :: _ => decide (c = 35)
def refL (l : List UInt8) (attr : Bool) : Ref := if hash l = true then numL (l.drop 1) else nameL l attr
def amp : List UInt8 -> Bool
 | [] => false
 | c :: _ => decide (c = 38)
def takeL (l : List UInt8) (attr : Bool) : Ref := if amp l = true then refL (l.drop 1) attr else none0
/-! ### How long, at most -/
theorem prefix_length : ∀ (p l : List UInt8), p.isPrefixOf l = true -> p.length <= l.length
 | [], _, _ => Nat.zero_le _
 | _ :: _, [], h => by simp [List.isPrefixOf] at h
 | a :: p, c :: l, h => by
  simp [List.isPrefixOf] at h
  have := prefix_length p l (by simpa using h.2)
  simp; omega
theorem semi_length {l : List UInt8} (h : semi l = true) : 1 <= l.length := prefix_length _ _ h
theorem lenN_le (r : Nm) (l : List UInt8) : lenN r l <= l.length := by
 unfold lenN
 split
 ·rename_i h
  have h1 := prefix_length _ _ h
  split
  ·rename_i h2
   have := semi_length h2
   simp at this
   omega
  ·split
   ·exact h1
   ·exact Nat.zero_le _
 ·exact Nat.zero_le _
theorem scanN_long (l : List UInt8) (rs : List Nm) : (scanN l rs).long <= l.length := by
 have key : ∀ (rs : List Nm) (st : St), st.long <= l.length -> (rs.foldl (stepN l) st).long <= l.length := by
  intro rs
  induction rs with
  | nil => exact fun _ h => h
  | cons r rs ih =>
   intro st h
   refine ih _ ?_
   unfold stepN
   split
   ·exact lenN_le r l
   ·exact h
 exact key rs _ (Nat.zero_le _)
theorem numR_n (x b : Nat) (ds : List UInt8) : (numR x b ds).n <= 2 + x + ds.length := by
 unfold numR
 split
 ·exact Nat.zero_le _
 ·have h1 := runN_le b ds
  dsimp
  split
  ·rename_i h
   have := semi_length h
   simp at this
   omega
  ·omega
theorem numL_n (l : List UInt8) : (numL l).n <= 2 + l.length := by
 unfold numL
 have := numR_n (hexN l) (baseN (hexN l)) (l.drop (hexN l))
 have h := hexN_le l
 simp at this
 omega
theorem nameL_n (l : List UInt8) (attr : Bool) : (nameL l attr).n <= 1 + l.length := by
 have h := scanN_long l names
 unfold nameL endR
 repeat' split
 all_goals first | exact Nat.zero_le _ | (dsimp; omega)
theorem takeL_n (l : List UInt8) (attr : Bool) : (takeL l attr).n <= l.length := by
 unfold takeL
 split
 ·cases l with
  | nil => contradiction
  | cons c r =>
   rw [List.drop_one, List.tail_cons]
   unfold refL
   split
   ·cases r with
    | nil => contradiction
    | cons d r =>
     have := numL_n r
     simp
     omega
   ·have := nameL_n r attr
    simpa [Nat.add_comm] using this
 ·exact Nat.zero_le _
theorem ite_ref {p : Ref -> Prop} {c : Prop} [Decidable c] {a b : Ref} (ha : p a) (hb : p b) : p (if c then a else b) := by
 split
 ·exact ha
 ·exact hb
theorem enc_le (c n f : Nat) : (Ref.mk (Utf8.encode (c : Int)) n f).text.size <= 4 := by
 dsimp only
 exact encode_size_le (c : Int)
theorem text_le (l : List UInt8) (attr : Bool) : (takeL l attr).text.size <= 4 := by
 have h0 : none0.text.size <= 4 := by decide
 have hn : (numL ((l.drop 1).drop 1)).text.size <= 4 := by
  unfold numL numR
  exact ite_ref (p := fun r => r.text.size <= 4) h0 (by apply enc_le)
 have ha : (nameL (l.drop 1) attr).text.size <= 4 := by
  unfold nameL endR
  exact ite_ref (p := fun r => r.text.size <= 4) h0 (ite_ref (p := fun r => r.text.size <= 4) (by apply enc_le) (ite_ref (p := fun r => r.text.size <= 4) h0 (by apply enc_le)))
 unfold takeL refL
 exact ite_ref (p := fun r => r.text.size <= 4) (ite_ref (p := fun r => r.text.size <= 4) hn ha) h0
/-! ### All of them -/
def allF (attr : Bool) : Nat -> List UInt8 -> List UInt8
 | 0, _ => []
 | _ + 1, [] => []
 | f + 1, c :: r => if (takeL (c :: r) attr).n = 0 then c :: allF attr f r else (takeL (c :: r) attr).text.data.toList ++ allF attr f ((c :: r).drop (takeL (c :: r) attr).n)
theorem allF_enough (attr : Bool) : ∀ (f g : Nat) (l : List UInt8), l.length <= f -> l.length <= g -> allF attr f l = allF attr g l
 | 0, g, l, hf, _ => by
  rw [List.eq_nil_of_length_eq_zero (l := l) (by omega)]
  cases g <;> rfl
 | f + 1, 0, l, _, hg => by
  rw [List.eq_nil_of_length_eq_zero (l := l) (by omega)]
  rfl
 | _ + 1, _ + 1, [], _, _ => rfl
 | f + 1, g + 1, c :: r, hf, hg => by
  simp only [List.length_cons] at hf hg
  unfold allF
  split
  ·rw [allF_enough attr f g r (by omega) (by omega)]
  ·rename_i h
   rw [allF_enough attr f g _ (by rw [List.length_drop, List.length_cons]; omega) (by rw [List.length_drop, List.length_cons]; omega)]
def allL (attr : Bool) (l : List UInt8) : List UInt8 := allF attr l.length l
theorem allL_none {attr : Bool} {c : UInt8} {r : List UInt8} (h : (takeL (c :: r) attr).n = 0) : allL attr (c :: r) = c :: allL attr r := by
 unfold allL
 rw [List.length_cons, allF, if_pos h]
theorem allL_some {attr : Bool} {l : List UInt8} (h : (takeL l attr).n ≠ 0) : allL attr l = (takeL l attr).text.data.toList ++ allL attr (l.drop (takeL l attr).n) := by
 cases l with
 | nil => exact absurd rfl h
 | cons c r =>
  unfold allL
  rw [List.length_cons, allF, if_neg h, allF_enough attr r.length ((c :: r).drop (takeL (c :: r) attr).n).length _ (by rw [List.length_drop, List.length_cons]; omega) (Nat.le_refl _)]
end
section
def rawL : List (List UInt8) := [[115, 99, 114, 105, 112, 116], [115, 116, 121, 108, 101], [120, 109, 112], [105, 102, 114, 97, 109, 101], [110, 111, 101, 109, 98, 101, 100], [110, 111, 102, 114, 97, 109, 101, 115]]
def softL : List (List UInt8) := [[116, 105, 116, 108, 101], [116, 101, 120, 116, 97, 114, 101, 97]]
def rawP (l : List UInt8) : Bool := rawL.any (l == ·)
def softP (l : List UInt8) : Bool := softL.any (l == ·)
def lowB (c : UInt8) : UInt8 := if 65 <= c.toNat /\ c.toNat <= 90 then c + 32 else c
def lowL (l : List UInt8) : List UInt8 := l.map lowB
end
section
def cleanB (c : UInt8) : List UInt8 := if c = 0 then [239, 191, 189] else [c]
def cleanL (l : List UInt8) : List UInt8 := l.flatMap cleanB
def nmL (l : List UInt8) : List UInt8 := cleanL (lowL l)
def letterP (c : UInt8) : Bool := (decide (97 <= c.toNat) && decide (c.toNat <= 122)) || (decide (65 <= c.toNat) && decide (c.toNat <= 90))
def begL : List UInt8 -> Bool
 | [] => false
 | c :: _ => letterP c
def upTo (p : List UInt8 -> Bool) : List UInt8 -> Nat
 | [] => 0
 | c :: r => if p (c :: r) = true then 0 else upTo p r + 1
def hdIn (set : List UInt8) : List UInt8 -> Bool
 | [] => false
 | c :: _ => set.contains c
def hdOut (set : List UInt8) : List UInt8 -> Bool
 | [] => true
 | c :: _ => !set.contains c
def pre (f l : List UInt8) : Bool := f.isPrefixOf l
def anyG (front l : List UInt8) : Bool := decide (front.length <= l.length) && (l.head? == front.head? && lowL (l.take front.length) == front)
def endsC (l : List UInt8) : Bool := pre [45, 45, 62] l || pre [45, 45, 33, 62] l
def endOfP (name l : List UInt8) : Bool := anyG (60 :: 47 :: name) l && (decide (name.length + 2 < l.length) && hdIn [9, 10, 12, 32, 47, 62] (l.drop (name.length + 2)))
structure Atr where
 name : List UInt8
 value : List UInt8
structure Tk where
 kind : Nat
 name : List UInt8
 attrs : List Atr
 self : Bool
 data : List UInt8
 pl : Nat
structure Fl where
 kind : Nat
 pl : Nat
structure TS where
 rest : List UInt8
 pl : Nat
 toks : List Tk
 flts : List Fl
 text : List UInt8
 tat : Nat
def TS.cut (st : TS) (n : Nat) : TS := { st with rest := st.rest.drop n, pl := st.pl + n }
def TS.flt (st : TS) (k a : Nat) : TS := { st with flts := st.flts ++ [⟨k, a⟩] }
def TS.endT (st : TS) : TS := if st.text = [] then st else { st with toks := st.toks ++ [⟨3, [], [], false, st.text, st.tat⟩], text := [] }
def TS.add (st : TS) (t : Tk) : TS := { st.endT with toks := st.endT.toks ++ [t] }
def TS.addT (st : TS) (part : List UInt8) (a : Nat) : TS := if part = [] then st else { st with text := st.text ++ part, tat := if st.text = [] then a else st.tat }
def TS.cutIf (st : TS) (f : List UInt8) : TS := if pre f st.rest = true then st.cut f.length else st
def TS.cutTo (st : TS) (p : List UInt8 -> Bool) : TS := st.cut (upTo p st.rest)
def TS.front (st : TS) (p : List UInt8 -> Bool) : List UInt8 := st.rest.take (upTo p st.rest)
def TS.cmt (st : TS) (d : List UInt8) (a : Nat) : TS := st.add ⟨4, [], [], false, cleanL d, a⟩
def TS.fltIf (st : TS) (k a : Nat) : TS := if k = 0 then st else st.flt k a
def TS.refr (st : TS) : TS :=
 ((st.fltIf (takeL st.rest false).fault st.pl).cut (if (takeL st.rest false).n = 0 then 1 else (takeL st.rest false).n)).addT (if (takeL st.rest false).n = 0 then [38] else (takeL st.rest false).text.data.toList) st.pl
def TS.note (st : TS) (a : Nat) : TS := ((((st.flt 7 a).cutTo (hdIn [62])).cmt (st.front (hdIn [62])) a)).cutIf [62]
def TS.cmtEnd (st : TS) (a : Nat) : TS := if st.rest = [] then st.flt 6 st.pl else if pre [45, 45, 62] st.rest = true then st.cut 3 else (st.cutIf [45, 45, 33, 62]).flt 7 a
def TS.comment (st : TS) (a : Nat) : TS :=
 if pre [62] st.rest = true then ((st.cut 1).flt 7 a).cmt [] a else if pre [45, 62] st.rest = true then ((st.cut 2).flt 7 a).cmt [] a
 else ((st.cutTo endsC).cmtEnd a).cmt (st.front endsC) a
def blk : List UInt8 := [9, 10, 12, 32]
def TS.dtEnd (st : TS) : TS := if pre [62] st.rest = true then st.cut 1 else st.flt 6 st.pl
def TS.doctype (st : TS) (a : Nat) : TS :=
 ((((st.cutTo (hdOut blk)).cutTo (hdIn [9, 10, 12, 32, 62])).cutTo (hdIn [62])).dtEnd).add ⟨5, nmL ((st.cutTo (hdOut blk)).front (hdIn [9, 10, 12, 32, 62])), [], false, [], a⟩
structure Val where
 st : TS
 v : List UInt8
 ok : Bool
def TS.quoted (st : TS) (q : UInt8) : Val := ⟨(st.cutTo (hdIn [q])).cutIf [q], st.front (hdIn [q]), pre [q] (st.cutTo (hdIn [q])).rest⟩
def TS.val2 (st : TS) : Val :=
 if pre [34] st.rest = true then (st.cut 1).quoted 34 else if pre [39] st.rest = true then (st.cut 1).quoted 39
 else if pre [62] st.rest = true then ⟨st.flt 5 st.pl, [], true⟩ else ⟨st.cutTo (hdIn [9, 10, 12, 32, 62]), st.front (hdIn [9, 10, 12, 32, 62]), true⟩
def TS.value (st : TS) : Val :=
 if pre [61] (st.cutTo (hdOut blk)).rest = true then (((st.cutTo (hdOut blk)).cut 1).cutTo (hdOut blk)).val2 else ⟨st.cutTo (hdOut blk), [], true⟩
def hasN (attrs : List Atr) (name : List UInt8) : Bool := attrs.any (fun a => a.name == name)
structure Ats where
 st : TS
 attrs : List Atr
def TS.first (st : TS) : TS := if st.rest.take 1 = [61] then (st.cut 1).flt 5 st.pl else st.cut 1
def TS.aname (st : TS) : List UInt8 := nmL (st.rest.take 1 ++ st.first.front (hdIn [9, 10, 12, 32, 47, 62, 61]))
def TS.attr (st : TS) (attrs : List Atr) : Ats :=
 if (st.first.cutTo (hdIn [9, 10, 12, 32, 47, 62, 61])).value.ok = true then
  (if 50 <= attrs.length \/ hasN attrs st.aname = true then ⟨(st.first.cutTo (hdIn [9, 10, 12, 32, 47, 62, 61])).value.st.flt 5 st.pl, attrs⟩
  else ⟨(st.first.cutTo (hdIn [9, 10, 12, 32, 47, 62, 61])).value.st, attrs ++ [⟨st.aname, allL true (cleanL (st.first.cutTo (hdIn [9, 10, 12, 32, 47, 62, 61])).value.v)⟩]⟩)
 else ⟨(st.first.cutTo (hdIn [9, 10, 12, 32, 47, 62, 61])).value.st, attrs⟩
def sla : List UInt8 := [9, 10, 12, 32, 47]
structure Tg where
 st : TS
 attrs : List Atr
 self : Bool
 ok : Bool
def TS.tagF : Nat -> TS -> List Atr -> Tg
 | 0, st, attrs => ⟨st, attrs, false, false⟩
 | f + 1, st, attrs =>
  if (st.cutTo (hdOut sla)).rest = [] then ⟨(st.cutTo (hdOut sla)).flt 6 (st.cutTo (hdOut sla)).pl, attrs, false, false⟩
  else if pre [62] (st.cutTo (hdOut sla)).rest = true then ⟨(st.cutTo (hdOut sla)).cut 1, attrs, (st.front (hdOut sla)).getLast? == some 47, true⟩
  else TS.tagF f ((st.cutTo (hdOut sla)).attr attrs).st ((st.cutTo (hdOut sla)).attr attrs).attrs
def TS.inside (st : TS) (name : List UInt8) : TS :=
 if softP name = true then (st.cutTo (endOfP name)).addT (allL false (cleanL (st.front (endOfP name)))) st.pl
 else if rawP name = true then (st.cutTo (endOfP name)).addT (cleanL (st.front (endOfP name))) st.pl else st
def tgE : List UInt8 := [9, 10, 12, 32, 47, 62]
def TS.tag (st : TS) (kind a : Nat) : TS :=
 if ((st.cutTo (hdIn tgE)).tagF (st.cutTo (hdIn tgE)).rest.length.succ []).ok = true then
  (if kind = 2 then ((st.cutTo (hdIn tgE)).tagF (st.cutTo (hdIn tgE)).rest.length.succ []).st.add ⟨2, nmL (st.front (hdIn tgE)), [], false, [], a⟩
  else (((st.cutTo (hdIn tgE)).tagF (st.cutTo (hdIn tgE)).rest.length.succ []).st.add ⟨kind, nmL (st.front (hdIn tgE)), ((st.cutTo (hdIn tgE)).tagF (st.cutTo (hdIn tgE)).rest.length.succ []).attrs, ((st.cutTo (hdIn tgE)).tagF (st.cutTo (hdIn tgE)).rest.length.succ []).self, [], a⟩).inside (nmL (st.front (hdIn tgE))))
 else ((st.cutTo (hdIn tgE)).tagF (st.cutTo (hdIn tgE)).rest.length.succ []).st
def TS.ending (st : TS) (a : Nat) : TS :=
 if begL st.rest = true then st.tag 2 a else if st.rest = [] then (st.flt 6 a).addT [60, 47] a else if pre [62] st.rest = true then (st.cut 1).flt 4 a else st.note a
def dtL : List UInt8 := [33, 100, 111, 99, 116, 121, 112, 101]
def TS.opened (st : TS) (a : Nat) : TS :=
 if begL st.rest = true then st.tag 1 a else if pre [47] st.rest = true then (st.cut 1).ending a else if pre [33, 45, 45] st.rest = true then (st.cut 3).comment a
 else if anyG dtL st.rest = true then (st.cut 8).doctype a else if pre [33] st.rest = true then (st.cut 1).note a else if pre [63] st.rest = true then st.note a
 else (st.flt 4 a).addT [60] a
def TS.markup (st : TS) : TS := (st.cut 1).opened st.pl
def TS.next (st : TS) : TS :=
 match st.rest with
 | [] => st
 | c :: _ => if c = 60 then st.markup else if c = 38 then st.refr else if c = 0 then (st.flt 3 st.pl).cut 1 else (st.cutTo (hdIn [60, 38, 0])).addT (st.front (hdIn [60, 38, 0])) st.pl
def TS.runF : Nat -> TS -> TS
 | 0, st => st.endT
 | f + 1, st => if st.rest = [] then st.endT else TS.runF f st.next
def TS.run (st : TS) : TS := TS.runF st.rest.length st
def TS.new (s : List UInt8) : TS := ⟨s, 0, [], [], [], 0⟩
end
section
def one (q : Bool) (c : UInt8) : List UInt8 :=
 if c = 38 then [38, 97, 109, 112, 59] else if c = 60 then [38, 108, 116, 59] else if c = 62 then [38, 103, 116, 59] else if q = true /\ c = 34 then [38, 113, 117, 111, 116, 59] else [c]
def nbsp : List UInt8 := [38, 110, 98, 115, 112, 59]
def nbq : List UInt8 -> Bool
 | 194 :: 160 :: _ => true
 | _ => false
def front (q : Bool) : List UInt8 -> List UInt8
 | [] => []
 | c :: r => if nbq (c :: r) = true then nbsp else one q c
def far (l : List UInt8) : Nat := if nbq l = true then 2 else 1
/-! ### What is written comes back -/
end
section
structure Lk where
 up : Int
 prev : Int
 next : Int
 first : Int
 last : Int
def Lk.nil : Lk := ⟨-1, -1, -1, -1, -1⟩
def hdD : List Nat -> Int -> Int
 | [], q => q
 | i :: _, _ => (i : Int)
def lsD : List Nat -> Int -> Int
 | [], p => p
 | i :: r, _ => lsD r (i : Int)
def Seg (L : Nat -> Lk) (u : Nat) : Int -> List Nat -> Int -> Prop
 | _, [], _ => True
 | p, i :: r, q => (L i).up = (u : Int) /\ (L i).prev = p /\ (L i).next = hdD r q /\ Seg L u (i : Int) r q
theorem hdD_append (a b : List Nat) (q : Int) : hdD (a ++ b) q = hdD a (hdD b q) := by cases a <;> rfl
theorem lsD_append (a b : List Nat) (p : Int) : lsD (a ++ b) p = lsD b (lsD a p) := by
 induction a generalizing p with
 | nil => rfl
 | cons x r ih => exact ih _
theorem Seg.append {L : Nat -> Lk} {u : Nat} : ∀ {a b : List Nat} {p q : Int}, Seg L u p (a ++ b) q ↔ Seg L u p a (hdD b q) /\ Seg L u (lsD a p) b q
 | [], b, p, q => by simp [Seg, lsD]
 | x :: r, b, p, q => by
  simp only [List.cons_append, Seg, lsD, hdD_append]
  rw [Seg.append (a := r)]
  exact ⟨fun ⟨h1, h2, h3, h4, h5⟩ => ⟨⟨h1, h2, h3, h4⟩, h5⟩, fun ⟨⟨h1, h2, h3, h4⟩, h5⟩ => ⟨h1, h2, h3, h4, h5⟩⟩
theorem Seg.congr {L L' : Nat -> Lk} {u : Nat} : ∀ {l : List Nat} {p q : Int}, (∀ j ∈ l, (L' j).up = (L j).up /\ (L' j).prev = (L j).prev /\ (L' j).next = (L j).next) -> Seg L u p l q -> Seg L' u p l q
 | [], _, _, _, _ => trivial
 | x :: r, p, q, h, ⟨h1, h2, h3, h4⟩ => by
  obtain ⟨a, b, c⟩ := h x (List.mem_cons_self ..)
  exact ⟨a.trans h1, b.trans h2, c.trans h3, Seg.congr (fun j hj => h j (List.mem_cons_of_mem _ hj)) h4⟩
theorem Seg.mem {L : Nat -> Lk} {u : Nat} : ∀ {l : List Nat} {p q : Int}, Seg L u p l q -> ∀ j ∈ l, (L j).up = (u : Int)
 | x :: r, p, q, ⟨h1, _, _, h4⟩, j, hj => by
  rcases List.mem_cons.1 hj with rfl | hj
  ·exact h1
  ·exact Seg.mem h4 j hj
theorem Seg.tail {L L' : Nat -> Lk} {u : Nat} {q' : Int} : ∀ {a : List Nat} {p q : Int}, a.Nodup -> Seg L u p a q ->
  (∀ j ∈ a, (L' j).up = (L j).up /\ (L' j).prev = (L j).prev /\ (L' j).next = if (j : Int) = lsD a (-1) then q' else (L j).next) -> Seg L' u p a q'
 | [], _, _, _, _, _ => trivial
 | [x], p, q, _, ⟨h1, h2, h3, _⟩, h => by
  obtain ⟨a, b, c⟩ := h x (List.mem_singleton.2 rfl)
  refine ⟨a.trans h1, b.trans h2, ?_, trivial⟩
  rw [c]
  exact if_pos rfl
 | x :: y :: r, p, q, hn, ⟨h1, h2, h3, h4⟩, h => by
  obtain ⟨a, b, c⟩ := h x (List.mem_cons_self ..)
  have hn' := List.nodup_cons.1 hn
  refine ⟨a.trans h1, b.trans h2, ?_, Seg.tail hn'.2 h4 fun j hj => ?_⟩
  ·rw [c, if_neg]
   ·exact h3
   ·intro e
    have : ∀ (l : List Nat) (z : Nat), ∃ m ∈ (z :: l), lsD (z :: l) (-1) = (m : Int) := by
     intro l
     induction l with
     | nil => intro z; exact ⟨z, List.mem_singleton.2 rfl, rfl⟩
     | cons t l ih =>
      intro z
      obtain ⟨m, hm, he⟩ := ih t
      exact ⟨m, List.mem_cons_of_mem _ hm, he⟩
    obtain ⟨m, hm, he⟩ := this r y
    have e' : (x : Int) = lsD (y :: r) (-1) := e
    rw [he] at e'
    have : x = m := by omega
    exact hn'.1 (this ▸ hm)
  ·exact h j (List.mem_cons_of_mem _ hj)
theorem Seg.head {L L' : Nat -> Lk} {u : Nat} {p p' q : Int} {b : List Nat} (hn : b.Nodup) (hs : Seg L u p b q)
  (h : ∀ j ∈ b, (L' j).up = (L j).up /\ (L' j).next = (L j).next /\ (L' j).prev = if (j : Int) = hdD b (-1) then p' else (L j).prev) : Seg L' u p' b q := by
 cases b with
 | nil => trivial
 | cons x r =>
  obtain ⟨h1, h2, h3, h4⟩ := hs
  obtain ⟨a, b, c⟩ := h x (List.mem_cons_self ..)
  have hn' := List.nodup_cons.1 hn
  refine ⟨a.trans h1, by rw [c]; exact if_pos rfl, b.trans h3, Seg.congr (fun j hj => ?_) h4⟩
  obtain ⟨a, b, c⟩ := h j (List.mem_cons_of_mem _ hj)
  refine ⟨a, ?_, b⟩
  rw [c, if_neg]
  intro e
  have e' : (j : Int) = (x : Int) := e
  have : j = x := by omega
  exact hn'.1 (this ▸ hj)
theorem hdD_or (l : List Nat) : (l = [] /\ hdD l (-1) = -1) \/ ∃ m, m ∈ l /\ hdD l (-1) = (m : Int) := by
 cases l with
 | nil => exact .inl ⟨rfl, rfl⟩
 | cons x r => exact .inr ⟨x, List.mem_cons_self .., rfl⟩
theorem lsD_or (l : List Nat) : (l = [] /\ lsD l (-1) = -1) \/ ∃ m, m ∈ l /\ lsD l (-1) = (m : Int) := by
 cases l with
 | nil => exact .inl ⟨rfl, rfl⟩
 | cons x r =>
  right
  have : ∀ (l : List Nat) (z : Nat), ∃ m ∈ (z :: l), lsD (z :: l) (-1) = (m : Int) := by
   intro l
   induction l with
   | nil => intro z; exact ⟨z, List.mem_singleton.2 rfl, rfl⟩
   | cons t l ih =>
    intro z
    obtain ⟨m, hm, he⟩ := ih t
    exact ⟨m, List.mem_cons_of_mem _ hm, he⟩
  exact this r x
theorem lsD_ne {l : List Nat} (h : l ≠ []) (p p' : Int) : lsD l p = lsD l p' := by
 cases l with
 | nil => exact absurd rfl h
 | cons x r => rfl
theorem hdD_ne {l : List Nat} (h : l ≠ []) (p p' : Int) : hdD l p = hdD l p' := by
 cases l with
 | nil => exact absurd rfl h
 | cons x r => rfl
structure WF (n : Nat) (L : Nat -> Lk) (R : Nat -> List Nat) : Prop where
 first : ∀ u, u < n -> (L u).first = hdD (R u) (-1)
 last : ∀ u, u < n -> (L u).last = lsD (R u) (-1)
 seg : ∀ u, u < n -> Seg L u (-1) (R u) (-1)
 nodup : ∀ u, u < n -> (R u).Nodup
 lt : ∀ u, u < n -> ∀ i ∈ R u, i < n
 inn : ∀ i, i < n -> (L i).up = -1 \/ ∃ u, u < n /\ (L i).up = (u : Int) /\ i ∈ R u
theorem WF.up {n : Nat} {L : Nat -> Lk} {R : Nat -> List Nat} (h : WF n L R) {u i : Nat} (hu : u < n) (hi : i ∈ R u) : (L i).up = (u : Int) := (h.seg u hu).mem i hi
theorem WF.one {n : Nat} {L : Nat -> Lk} {R : Nat -> List Nat} (h : WF n L R) {u v i : Nat} (hu : u < n) (hv : v < n) (hi : i ∈ R u) (hj : i ∈ R v) : u = v := by
 have a := h.up hu hi
 have b := h.up hv hj
 omega
theorem WF.split {n : Nat} {L : Nat -> Lk} {R : Nat -> List Nat} (h : WF n L R) {u i : Nat} (hu : u < n) {a b : List Nat} (e : R u = a ++ i :: b) : (L i).prev = lsD a (-1) /\ (L i).next = hdD b (-1) := by
 have hs := h.seg u hu
 rw [e, Seg.append] at hs
 exact ⟨hs.2.2.1, hs.2.2.2.1⟩
theorem mem_split {i : Nat} {l : List Nat} (h : i ∈ l) : ∃ a b, l = a ++ i :: b := List.append_of_mem h
def updR (R : Nat -> List Nat) (u : Nat) (l : List Nat) : Nat -> List Nat := fun k => if k = u then l else R k
theorem updR_same (R : Nat -> List Nat) (u : Nat) (l : List Nat) : updR R u l u = l := if_pos rfl
theorem updR_ne (R : Nat -> List Nat) {u k : Nat} (l : List Nat) (h : k ≠ u) : updR R u l k = R k := if_neg h
def outL (L : Nat -> Lk) (i : Nat) : Nat -> Lk := if (L i).up = -1 then L else fun k =>
 ⟨if k = i then -1 else (L k).up,
  if k = i then -1 else if (k : Int) = (L i).next then (L i).prev else (L k).prev,
  if k = i then -1 else if (k : Int) = (L i).prev then (L i).next else (L k).next,
  if (k : Int) = (L i).up /\ (L i).prev = -1 then (L i).next else (L k).first,
  if (k : Int) = (L i).up /\ (L i).next = -1 then (L i).prev else (L k).last⟩
def outR (L : Nat -> Lk) (R : Nat -> List Nat) (i : Nat) : Nat -> List Nat := if (L i).up = -1 then R else updR R (L i).up.toNat ((R (L i).up.toNat).erase i)
theorem erase_split {a b : List Nat} {i : Nat} (h : (a ++ i :: b).Nodup) : (a ++ i :: b).erase i = a ++ b := by
 have : i ∉ a := by
  intro hi
  have := (List.nodup_append.1 h).2.2 i hi i (List.mem_cons_self ..)
  exact this rfl
 rw [List.erase_append_right _ this, List.erase_cons_head]
theorem WF.out {n : Nat} {L : Nat -> Lk} {R : Nat -> List Nat} (h : WF n L R) {i : Nat} (hi : i < n) : WF n (outL L i) (outR L R i) := by
 unfold outL outR
 rcases h.inn i hi with h0 | ⟨u, hu, hup, hm⟩
 ·rw [if_pos h0, if_pos h0]; exact h
 have hne : ¬ (L i).up = -1 := by omega
 rw [if_neg hne, if_neg hne, hup]
 obtain ⟨a, b, e⟩ := mem_split hm
 obtain ⟨hp, hq⟩ := h.split hu e
 have hnd := h.nodup u hu
 have hs := h.seg u hu
 have hlt := h.lt u hu
 rw [e] at hnd hs hlt
 have hab : (a ++ b).Nodup := (List.Sublist.append_left (List.sublist_cons_self i b) a).nodup hnd
 have hia : i ∉ a := fun hh => (List.nodup_append.1 hnd).2.2 i hh i (List.mem_cons_self ..) rfl
 have hib : i ∉ b := (List.nodup_cons.1 (List.nodup_append.1 hnd).2.1).1
 have hna := (List.nodup_append.1 hab).1
 have hnb := (List.nodup_append.1 hab).2.1
 have hdj := (List.nodup_append.1 hab).2.2
 rw [Seg.append] at hs
 obtain ⟨sa, -, -, -, sb⟩ := hs
 have hR : updR R (u : Int).toNat ((R (u : Int).toNat).erase i) = updR R u (a ++ b) := by
  rw [Int.toNat_natCast, e, erase_split hnd]
 rw [hR]
 have oth : ∀ v, v < n -> v ≠ u -> ∀ j ∈ R v, j ≠ i /\ (j : Int) ≠ (L i).next /\ (j : Int) ≠ (L i).prev := by
  intro v hv hvu j hj
  have nu : j ∉ R u := fun hh => hvu (h.one hv hu hj hh)
  refine ⟨fun e' => nu (e' ▸ hm), ?_, ?_⟩
  ·rw [hq]
   rcases hdD_or b with ⟨-, e1⟩ | ⟨m, m1, e1⟩
   ·rw [e1]; omega
   ·rw [e1]
    intro e2
    have : j = m := by omega
    exact nu (by rw [e, this]; simp [m1])
  ·rw [hp]
   rcases lsD_or a with ⟨-, e1⟩ | ⟨m, m1, e1⟩
   ·rw [e1]; omega
   ·rw [e1]
    intro e2
    have : j = m := by omega
    exact nu (by rw [e, this]; simp [m1])
 refine ⟨fun v hv => ?_, fun v hv => ?_, fun v hv => ?_, fun v hv => ?_, fun v hv j hj => ?_, fun j hj => ?_⟩
 ·dsimp only
  by_cases c : v = u
  ·subst c
   rw [updR_same, hdD_append, hp]
   have hf := h.first v hv
   rw [e, hdD_append] at hf
   rcases lsD_or a with ⟨e0, e1⟩ | ⟨m, m1, e1⟩
   ·rw [if_pos ⟨rfl, e1⟩, hq, e0]; rfl
   ·rw [if_neg (by omega), hf]
    exact hdD_ne (fun e2 => by rw [e2] at m1; cases m1) _ _
  ·rw [updR_ne _ _ c, if_neg (by omega)]; exact h.first v hv
 ·dsimp only
  by_cases c : v = u
  ·subst c
   rw [updR_same, lsD_append, hq]
   have hf := h.last v hv
   rw [e, lsD_append] at hf
   rcases hdD_or b with ⟨e0, e1⟩ | ⟨m, m1, e1⟩
   ·rw [if_pos ⟨rfl, e1⟩, hp, e0]; rfl
   ·rw [if_neg (by omega), hf]
    show lsD b (i : Int) = _
    exact lsD_ne (fun e2 => by rw [e2] at m1; cases m1) _ _
  ·rw [updR_ne _ _ c, if_neg (by omega)]; exact h.last v hv
 ·by_cases c : v = u
  ·subst c
   rw [updR_same, Seg.append]
   have fa : ∀ j ∈ a, j ≠ i := fun j hj e' => hia (e' ▸ hj)
   have fb : ∀ j ∈ b, j ≠ i := fun j hj e' => hib (e' ▸ hj)
   have na : ∀ j ∈ a, (j : Int) ≠ hdD b (-1) := by
    intro j hj
    rcases hdD_or b with ⟨-, e1⟩ | ⟨m, m1, e1⟩
    ·rw [e1]; omega
    ·rw [e1]; intro e2
     exact hdj j hj m m1 (by omega)
   have nb : ∀ j ∈ b, (j : Int) ≠ lsD a (-1) := by
    intro j hj
    rcases lsD_or a with ⟨-, e1⟩ | ⟨m, m1, e1⟩
    ·rw [e1]; omega
    ·rw [e1]; intro e2
     exact hdj m m1 j hj (by omega)
   constructor
   ·refine Seg.tail (q' := hdD b (-1)) hna sa fun j hj => ?_
    dsimp only
    rw [if_neg (fa j hj), if_neg (fa j hj), if_neg (fa j hj), hq, hp, if_neg (na j hj)]
    exact ⟨rfl, rfl, rfl⟩
   ·refine Seg.head (p := (i : Int)) hnb sb fun j hj => ?_
    dsimp only
    rw [if_neg (fb j hj), if_neg (fb j hj), if_neg (fb j hj), hq, hp, if_neg (nb j hj)]
    exact ⟨rfl, rfl, rfl⟩
  ·rw [updR_ne _ _ c]
   refine Seg.congr (fun j hj => ?_) (h.seg v hv)
   obtain ⟨o1, o2, o3⟩ := oth v hv c j hj
   dsimp only
   rw [if_neg o1, if_neg o1, if_neg o1, if_neg o2, if_neg o3]
   exact ⟨rfl, rfl, rfl⟩
 ·by_cases c : v = u
  ·subst c; rw [updR_same]; exact hab
  ·rw [updR_ne _ _ c]; exact h.nodup v hv
 ·by_cases c : v = u
  ·subst c
   rw [updR_same] at hj
   refine hlt j ?_
   rcases List.mem_append.1 hj with hj | hj
   ·exact List.mem_append_left _ hj
   ·exact List.mem_append_right _ (List.mem_cons_of_mem _ hj)
  ·rw [updR_ne _ _ c] at hj; exact h.lt v hv j hj
 ·dsimp only
  by_cases c : j = i
  ·rw [if_pos c]; exact .inl rfl
  ·rw [if_neg c]
   rcases h.inn j hj with h1 | ⟨v, hv, h1, h2⟩
   ·exact .inl h1
   ·refine .inr ⟨v, hv, h1, ?_⟩
    by_cases c' : v = u
    ·subst c'
     rw [updR_same]
     rw [e] at h2
     rcases List.mem_append.1 h2 with h2 | h2
     ·exact List.mem_append_left _ h2
     ·rcases List.mem_cons.1 h2 with h2 | h2
      ·exact absurd h2 c
      ·exact List.mem_append_right _ h2
    ·rw [updR_ne _ _ c']; exact h2
theorem out_up {L : Nat -> Lk} {i : Nat} : (outL L i i).up = -1 := by
 unfold outL
 by_cases c : (L i).up = -1
 ·rw [if_pos c]; exact c
 ·rw [if_neg c]; dsimp only; rw [if_pos rfl]
theorem outR_notin {n : Nat} {L : Nat -> Lk} {R : Nat -> List Nat} (h : WF n L R) {i u : Nat} (hi : i < n) (hu : u < n) : i ∉ outR L R i u := by
 intro hm
 have := (h.out hi).up hu hm
 rw [out_up] at this
 omega
def inL (L : Nat -> Lk) (up i : Nat) (bef p : Int) : Nat -> Lk := fun k =>
 ⟨if k = i then (up : Int) else (L k).up,
  if k = i then p else if (k : Int) = bef then (i : Int) else (L k).prev,
  if k = i then bef else if (k : Int) = p then (i : Int) else (L k).next,
  if k = up /\ p = -1 then (i : Int) else (L k).first,
  if k = up /\ bef = -1 then (i : Int) else (L k).last⟩
inductive At (l : List Nat) (bef : Int) : List Nat -> List Nat -> Prop
 | last : bef = -1 -> At l bef l []
 | mid {a b : List Nat} {m : Nat} : bef = (m : Int) -> l = a ++ m :: b -> At l bef a (m :: b)
theorem At.eq {l : List Nat} {bef : Int} {a b : List Nat} (h : At l bef a b) : l = a ++ b := by cases h <;> simp_all
theorem At.bef {l : List Nat} {bef : Int} {a b : List Nat} (h : At l bef a b) : bef = hdD b (-1) := by cases h <;> simp_all [hdD]
def befP (L : Nat -> Lk) (up : Nat) (bef : Int) : Int := if bef = -1 then (L up).last else (L bef.toNat).prev
theorem befP_at {n : Nat} {L : Nat -> Lk} {R : Nat -> List Nat} (h : WF n L R) {up : Nat} (hu : up < n) {bef : Int} {a b : List Nat} (ha : At (R up) bef a b) : befP L up bef = lsD a (-1) := by
 unfold befP
 cases ha with
 | last e => rw [if_pos e]; exact h.last up hu
 | mid e el =>
  subst e
  rw [if_neg (by omega), Int.toNat_natCast]
  exact (h.split hu el).1
theorem WF.put {n : Nat} {L : Nat -> Lk} {R : Nat -> List Nat} (h : WF n L R) {up i : Nat} (hu : up < n) (hi : i < n) (hfree : (L i).up = -1) {bef : Int} {a b : List Nat} (ha : At (R up) bef a b) :
  WF n (inL L up i bef (befP L up bef)) (updR R up (a ++ i :: b)) := by
 have hp := befP_at h hu ha
 have hb := ha.bef
 have hl := ha.eq
 rw [hp]
 have hni : ∀ v, v < n -> i ∉ R v := fun v hv hm => by have := h.up hv hm; omega
 have hnd := h.nodup up hu
 have hs := h.seg up hu
 have hf := h.first up hu
 have hla := h.last up hu
 have hmi := hni up hu
 rw [hl] at hnd hs hf hla hmi
 rw [Seg.append] at hs
 rw [hdD_append] at hf
 rw [lsD_append] at hla
 have hna := (List.nodup_append.1 hnd).1
 have hnb := (List.nodup_append.1 hnd).2.1
 have hdj := (List.nodup_append.1 hnd).2.2
 have fa : ∀ j ∈ a, j ≠ i := fun j hj e' => hmi (e' ▸ List.mem_append_left _ hj)
 have fb : ∀ j ∈ b, j ≠ i := fun j hj e' => hmi (e' ▸ List.mem_append_right _ hj)
 have na : ∀ j ∈ a, (j : Int) ≠ hdD b (-1) := by
  intro j hj
  rcases hdD_or b with ⟨-, e1⟩ | ⟨m, m1, e1⟩
  ·rw [e1]; omega
  ·rw [e1]; intro e2
   exact hdj j hj m m1 (by omega)
 have nb : ∀ j ∈ b, (j : Int) ≠ lsD a (-1) := by
  intro j hj
  rcases lsD_or a with ⟨-, e1⟩ | ⟨m, m1, e1⟩
  ·rw [e1]; omega
  ·rw [e1]; intro e2
   exact hdj m m1 j hj (by omega)
 have oth : ∀ v, v < n -> v ≠ up -> ∀ j ∈ R v, j ≠ i /\ (j : Int) ≠ bef /\ (j : Int) ≠ lsD a (-1) := by
  intro v hv hvu j hj
  have nu : j ∉ R up := fun hh => hvu (h.one hv hu hj hh)
  refine ⟨fun e' => hni v hv (e' ▸ hj), ?_, ?_⟩
  ·rw [hb]
   rcases hdD_or b with ⟨-, e1⟩ | ⟨m, m1, e1⟩
   ·rw [e1]; omega
   ·rw [e1]
    intro e2
    have : j = m := by omega
    exact nu (by rw [hl, this]; simp [m1])
  ·rcases lsD_or a with ⟨-, e1⟩ | ⟨m, m1, e1⟩
   ·rw [e1]; omega
   ·rw [e1]
    intro e2
    have : j = m := by omega
    exact nu (by rw [hl, this]; simp [m1])
 refine ⟨fun v hv => ?_, fun v hv => ?_, fun v hv => ?_, fun v hv => ?_, fun v hv j hj => ?_, fun j hj => ?_⟩
 ·unfold inL
  dsimp only
  by_cases c : v = up
  ·subst c
   rw [updR_same, hdD_append]
   rcases lsD_or a with ⟨e0, e1⟩ | ⟨m, m1, e1⟩
   ·rw [if_pos ⟨rfl, e1⟩, e0]; rfl
   ·rw [if_neg (by omega), hf]
    exact hdD_ne (fun e2 => by rw [e2] at m1; cases m1) _ _
  ·rw [updR_ne _ _ c, if_neg (by omega)]; exact h.first v hv
 ·unfold inL
  dsimp only
  by_cases c : v = up
  ·subst c
   rw [updR_same, lsD_append, hb]
   rcases hdD_or b with ⟨e0, e1⟩ | ⟨m, m1, e1⟩
   ·rw [if_pos ⟨rfl, e1⟩, e0]; rfl
   ·rw [if_neg (by omega), hla]
    show _ = lsD b (i : Int)
    exact lsD_ne (fun e2 => by rw [e2] at m1; cases m1) _ _
  ·rw [updR_ne _ _ c, if_neg (by omega)]; exact h.last v hv
 ·by_cases c : v = up
  ·subst c
   rw [updR_same, Seg.append]
   constructor
   ·refine Seg.tail (q' := (i : Int)) hna hs.1 fun j hj => ?_
    unfold inL
    dsimp only
    rw [if_neg (fa j hj), if_neg (fa j hj), if_neg (fa j hj), hb, if_neg (na j hj)]
    exact ⟨rfl, rfl, rfl⟩
   ·refine ⟨?_, ?_, ?_, Seg.head (p := lsD a (-1)) hnb hs.2 fun j hj => ?_⟩
    ·unfold inL; dsimp only; rw [if_pos rfl]
    ·unfold inL; dsimp only; rw [if_pos rfl]
    ·unfold inL; dsimp only; rw [if_pos rfl]; exact hb
    ·unfold inL
     dsimp only
     rw [if_neg (fb j hj), if_neg (fb j hj), if_neg (fb j hj), hb, if_neg (nb j hj)]
     exact ⟨rfl, rfl, rfl⟩
  ·rw [updR_ne _ _ c]
   refine Seg.congr (fun j hj => ?_) (h.seg v hv)
   obtain ⟨o1, o2, o3⟩ := oth v hv c j hj
   unfold inL
   dsimp only
   rw [if_neg o1, if_neg o1, if_neg o1, if_neg o2, if_neg o3]
   exact ⟨rfl, rfl, rfl⟩
 ·by_cases c : v = up
  ·subst c
   rw [updR_same]
   refine List.nodup_append.2 ⟨hna, List.nodup_cons.2 ⟨fun hh => fb i hh rfl, hnb⟩, fun x hx y hy => ?_⟩
   rcases List.mem_cons.1 hy with rfl | hy
   ·exact fa x hx
   ·exact hdj x hx y hy
  ·rw [updR_ne _ _ c]; exact h.nodup v hv
 ·by_cases c : v = up
  ·subst c
   rw [updR_same] at hj
   rcases List.mem_append.1 hj with hj | hj
   ·exact h.lt v hv j (by rw [hl]; exact List.mem_append_left _ hj)
   ·rcases List.mem_cons.1 hj with rfl | hj
    ·exact hi
    ·exact h.lt v hv j (by rw [hl]; exact List.mem_append_right _ hj)
  ·rw [updR_ne _ _ c] at hj; exact h.lt v hv j hj
 ·unfold inL
  dsimp only
  by_cases c : j = i
  ·rw [if_pos c]
   subst c
   exact .inr ⟨up, hu, rfl, by rw [updR_same]; simp⟩
  ·rw [if_neg c]
   rcases h.inn j hj with h1 | ⟨v, hv, h1, h2⟩
   ·exact .inl h1
   ·refine .inr ⟨v, hv, h1, ?_⟩
    by_cases c' : v = up
    ·subst c'
     rw [updR_same]
     rw [hl] at h2
     rcases List.mem_append.1 h2 with h2 | h2
     ·exact List.mem_append_left _ h2
     ·exact List.mem_append_right _ (List.mem_cons_of_mem _ h2)
    ·rw [updR_ne _ _ c']; exact h2
theorem WF.more {n : Nat} {L : Nat -> Lk} {R : Nat -> List Nat} (h : WF n L R) (L' : Nat -> Lk) (hL : ∀ k, k < n -> L' k = L k) (hn : L' n = Lk.nil) : WF (n + 1) L' (updR R n []) := by
 have c : ∀ v, v < n + 1 -> v = n \/ (v < n /\ v ≠ n) := fun v hv => by omega
 refine ⟨fun v hv => ?_, fun v hv => ?_, fun v hv => ?_, fun v hv => ?_, fun v hv j hj => ?_, fun j hj => ?_⟩
 ·rcases c v hv with rfl | ⟨h1, h2⟩
  ·rw [updR_same, hn]; rfl
  ·rw [updR_ne _ _ h2, hL v h1]; exact h.first v h1
 ·rcases c v hv with rfl | ⟨h1, h2⟩
  ·rw [updR_same, hn]; rfl
  ·rw [updR_ne _ _ h2, hL v h1]; exact h.last v h1
 ·rcases c v hv with rfl | ⟨h1, h2⟩
  ·rw [updR_same]; trivial
  ·rw [updR_ne _ _ h2]
   exact Seg.congr (fun j hj => by rw [hL j (h.lt v h1 j hj)]; exact ⟨rfl, rfl, rfl⟩) (h.seg v h1)
 ·rcases c v hv with rfl | ⟨h1, h2⟩
  ·rw [updR_same]; exact List.nodup_nil
  ·rw [updR_ne _ _ h2]; exact h.nodup v h1
 ·rcases c v hv with rfl | ⟨h1, h2⟩
  ·rw [updR_same] at hj; cases hj
  ·rw [updR_ne _ _ h2] at hj
   have := h.lt v h1 j hj
   omega
 ·rcases c j hj with rfl | ⟨h1, h2⟩
  ·rw [hn]; exact .inl rfl
  ·rw [hL j h1]
   rcases h.inn j h1 with h3 | ⟨v, hv, h3, h4⟩
   ·exact .inl h3
   ·exact .inr ⟨v, by omega, h3, by rw [updR_ne _ _ (by omega)]; exact h4⟩
end
end Go.Proofs.Ytojbjiopilkbgaa
