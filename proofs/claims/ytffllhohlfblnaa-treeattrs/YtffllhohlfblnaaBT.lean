/-
  The tree's builder as plain functions on lists (of no program).
-/
import Derived.Test.YtffllhohlfblnaaKPure
import Derived.Test.YtffllhohlfblnaaTok
namespace Go.Proofs.Ytffllhohlfblnaa

/-- An item. -/
structure It where
  deep : Nat
  kind : Nat
  name : List UInt8
  attrs : List Atr
  data : List UInt8
/-- What is built so far: items, faults, the names that are open (the first opened first). -/
structure BS where
  items : List It
  flts : List Fl
  opn : List (List UInt8)
def isIn (L : List (List UInt8)) (n : List UInt8) : Bool := L.any (n == ·)
/-- How many stay open when the nearest that is sought is ended, unless a barred one is nearer; the last opened first. -/
def seekR (so ba : List UInt8 → Bool) : List (List UInt8) → Option Nat
  | [] => none
  | x :: r => if so x = true then some r.length else if ba x = true then none else seekR so ba r
def seek (so ba : List UInt8 → Bool) (l : List (List UInt8)) : Option Nat := seekR so ba l.reverse
def boundL : List (List UInt8) := [[116, 101, 109, 112, 108, 97, 116, 101], [98, 117, 116, 116, 111, 110], [111, 98, 106, 101, 99, 116]]
def headL : List (List UInt8) := [[104, 49], [104, 50], [104, 51], [104, 52], [104, 53], [104, 54]]
def looseL : List (List UInt8) := [[108, 105], [100, 100], [100, 116], [111, 112, 116, 105, 111, 110], [111, 112, 116, 103, 114, 111, 117, 112], [112]]
def BS.flt (b : BS) (k a : Nat) : BS := { b with flts := b.flts ++ [⟨k, a⟩] }
def BS.endTo (b : BS) : Option Nat → BS
  | none => b
  | some k => { b with opn := b.opn.take k }
def BS.fin (b : BS) (so ba : List UInt8 → Bool) : BS := b.endTo (seek so ba b.opn)
/-- Ended, with a fault if anything was. -/
def BS.finF (b : BS) (so ba : List UInt8 → Bool) (a : Nat) : BS := if (seek so ba b.opn).isSome = true then (b.fin so ba).flt 9 a else b
def anyN (_ : List UInt8) : Bool := true
def BS.first (b : BS) (n : List UInt8) (a : Nat) : BS :=
  if n = [108, 105] then b.fin (isIn [[108, 105]]) (isIn ([117, 108] :: [111, 108] :: boundL))
  else if n = [100, 100] ∨ n = [100, 116] then b.fin (isIn [[100, 100], [100, 116]]) (isIn ([100, 108] :: boundL))
  else if n = [111, 112, 116, 105, 111, 110] then b.fin (isIn [[111, 112, 116, 105, 111, 110]]) anyN
  else if n = [111, 112, 116, 103, 114, 111, 117, 112] then (b.fin (isIn [[111, 112, 116, 105, 111, 110]]) anyN).fin (isIn [[111, 112, 116, 103, 114, 111, 117, 112]]) anyN
  else if isIn headL n = true then b.finF (isIn headL) anyN a
  else if n = [97] ∨ n = [98, 117, 116, 116, 111, 110] then b.finF (isIn [n]) (isIn [[116, 101, 109, 112, 108, 97, 116, 101]]) a
  else b
def BS.para (b : BS) (n : List UInt8) : BS := if (blockP n || isIn [[108, 105], [100, 100], [100, 116]] n) = true then b.fin (isIn [[112]]) (isIn boundL) else b
/-- An attribute's name that may be written. -/
def barB (c : UInt8) : Bool := (decide (65 ≤ c.toNat) && decide (c.toNat ≤ 90)) || [0, 9, 10, 12, 32, 47, 62, 61].contains c
def writP (a : Atr) : Bool := decide (1 ≤ a.name.length) && decide (a.name.length ≤ 60) && (a.name.all fun c => !barB c) && decide (a.value.length ≤ 2000)
/-- Those that are kept; how many are not; 'ahead': the names that stood ahead. -/
def keepA : List (List UInt8) → List Atr → List Atr
  | _, [] => []
  | ahead, a :: r => if (writP a && !ahead.contains a.name) = true then a :: keepA (a.name :: ahead) r else keepA (a.name :: ahead) r
def BS.item (b : BS) (kind : Nat) (name : List UInt8) (attrs : List Atr) (data : List UInt8) : BS := { b with items := b.items ++ [⟨b.opn.length, kind, name, attrs, data⟩] }
def BS.flts' (b : BS) (n k a : Nat) : BS := { b with flts := b.flts ++ List.replicate n ⟨k, a⟩ }
def BS.open1 (b : BS) (n : List UInt8) : BS := if voidP n = false ∧ b.opn.length < 100 then { b with opn := b.opn ++ [n] } else b
def BS.start (b : BS) (n : List UInt8) (l : List Atr) (a : Nat) : BS :=
  if validP n = true then ((((b.first n a).para n).flts' (l.length - (keepA [] l).length) 5 a).item 1 n (keepA [] l) []).open1 n else b.flt 4 a
/-- What an end ends. -/
def soughtBy (n : List UInt8) : List UInt8 → Bool := if isIn headL n = true then isIn headL else isIn [n]
def barredBy (n : List UInt8) : List UInt8 → Bool := if n = [112] then isIn boundL else isIn [[116, 101, 109, 112, 108, 97, 116, 101]]
def BS.stop (b : BS) (n : List UInt8) (a : Nat) : BS :=
  match seek (soughtBy n) (barredBy n) b.opn with
  | none => (if n = [98, 114] ∨ n = [112] then b.item 1 n [] [] else b).flt 8 a
  | some k => let c := { b with opn := b.opn.take k }; if ((b.opn.drop k).head? == some n && ((b.opn.drop k).drop 1).all (isIn looseL)) = true then c else c.flt 9 a
def BS.take (b : BS) (t : Tk) : BS :=
  if t.kind = 1 then b.start t.name t.attrs t.pl
  else if t.kind = 2 then b.stop t.name t.pl
  else if t.kind = 3 then (if t.data = [] then b else b.item 2 [] [] t.data)
  else if t.kind = 4 then b.item 3 [] [] t.data
  else if t.kind = 5 then (if b.items = [] then b.item 6 t.name [] [] else b.flt 8 t.pl)
  else b
def lastA (l : List It) : Nat := match l.getLast? with
  | none => 0
  | some x => x.attrs.length
def BS.full (b : BS) : Bool := decide (b.items.length > 5000) || decide (lastA b.items > 50)
def BS.new : BS := ⟨[], [], []⟩
/-- All of them; none: too much. -/
def buildF (b : BS) : List Tk → Option BS
  | [] => some b
  | t :: r => if (b.take t).full = true then none else buildF (b.take t) r
def buildL (l : List Tk) : Option BS := buildF BS.new l
end Go.Proofs.Ytffllhohlfblnaa
