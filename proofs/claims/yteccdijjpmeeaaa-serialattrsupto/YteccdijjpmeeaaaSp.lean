/-
  Nodes as a text, as plain functions on lists of bytes.
-/
import Derived.Test.YteccdijjpmeeaaaEa
import Derived.Test.YteccdijjpmeeaaaP11
namespace Go.Proofs.Yteccdijjpmeeaaa
set_option linter.unusedVariables false
/-- Attributes as they are written. -/
def atrL (a : Atr) : List UInt8 := [32] ++ (a.name ++ ([61, 34] ++ (esc true a.value ++ [34])))
def atsL (l : List Atr) : List UInt8 := l.flatMap atrL
def staL (nm : List UInt8) (l : List Atr) : List UInt8 := ([60] ++ nm) ++ (atsL l ++ [62])
def endL (nm : List UInt8) : List UInt8 := [60, 47] ++ (nm ++ [62])
def modeN : List UInt8 := [115, 104, 97, 100, 111, 119, 114, 111, 111, 116, 109, 111, 100, 101]
def deleN : List UInt8 := [115, 104, 97, 100, 111, 119, 114, 111, 111, 116, 100, 101, 108, 101, 103, 97, 116, 101, 115, 102, 111, 99, 117, 115]
def seriN : List UInt8 := [115, 104, 97, 100, 111, 119, 114, 111, 111, 116, 115, 101, 114, 105, 97, 108, 105, 122, 97, 98, 108, 101]
def assiN : List UInt8 := [115, 104, 97, 100, 111, 119, 114, 111, 111, 116, 115, 108, 111, 116, 97, 115, 115, 105, 103, 110, 109, 101, 110, 116]
def clonN : List UInt8 := [115, 104, 97, 100, 111, 119, 114, 111, 111, 116, 99, 108, 111, 110, 97, 98, 108, 101]
def openV : List UInt8 := [111, 112, 101, 110]
def closV : List UInt8 := [99, 108, 111, 115, 101, 100]
def manuV : List UInt8 := [109, 97, 110, 117, 97, 108]
def tmplN : List UInt8 := [116, 101, 109, 112, 108, 97, 116, 101]
def flA (f : Fg) : List Atr :=
  [⟨modeN, if f.a = true then closV else openV⟩] ++ ((if f.c = true then [⟨deleN, []⟩] else []) ++ ((if f.d = true then [⟨seriN, []⟩] else []) ++ ((if f.b = true then [⟨assiN, manuV⟩] else []) ++ (if f.e = true then [⟨clonN, []⟩] else []))))
/-- Which roots are asked for. -/
structure Ask where
  ser : Bool
  A : Nat → Bool
def isV (x : Nd) : Bool := decide (x.kind = 1) && voidP x.name
def isR (x : Nd) : Bool := decide (x.kind = 1) && rawP x.name
def doctN : List UInt8 := [60, 33, 68, 79, 67, 84, 89, 80, 69, 32]
def outW (inn : Nat → List UInt8) (x : Nd) (i : Nat) (raw : Bool) : List UInt8 :=
  if x.kind = 1 then staL x.name x.attrs ++ (if voidP x.name = true then [] else inn i ++ endL x.name)
  else if x.kind = 2 then (if raw = true then x.data else esc false x.data)
  else if x.kind = 3 then [60, 33, 45, 45] ++ (x.data ++ [45, 45, 62])
  else if x.kind = 6 then doctN ++ (x.name ++ [62])
  else if x.kind = 4 ∨ x.kind = 5 then inn i else []
def chosB (o : Ask) (M : Dm) (q : Nat) : Bool := o.A q || (o.ser && (M.nd q).fl.d)
def rootW (o : Ask) (M : Dm) (inn : Nat → List UInt8) (q : Nat) : List UInt8 :=
  if chosB o M q = true then staL tmplN (flA (M.nd q).fl) ++ (inn q ++ endL tmplN) else []
def shadW (o : Ask) (M : Dm) (inn : Nat → List UInt8) (x : Nd) : List UInt8 := if x.shadow = -1 then [] else rootW o M inn x.shadow.toNat
def srcN (x : Nd) (i : Nat) : Nat := if x.content = -1 then i else x.content.toNat
def kidsW (M : Dm) (inn : Nat → List UInt8) (raw : Bool) (l : List Nat) : List UInt8 := l.flatMap fun k => outW inn (M.nd k) k raw
def innW (o : Ask) (M : Dm) (R : Nat → List Nat) (inn : Nat → List UInt8) (i : Nat) : List UInt8 :=
  if isV (M.nd i) = true then [] else shadW o M inn (M.nd i) ++ kidsW M inn (isR (M.nd (srcN (M.nd i) i))) (R (srcN (M.nd i) i))
def innF (o : Ask) (M : Dm) (R : Nat → List Nat) : Nat → Nat → List UInt8
  | 0, _ => []
  | f + 1, i => innW o M R (innF o M R f) i
theorem kidsW_cons (M : Dm) (inn : Nat → List UInt8) (raw : Bool) (k : Nat) (l : List Nat) : kidsW M inn raw (k :: l) = outW inn (M.nd k) k raw ++ kidsW M inn raw l := by
  unfold kidsW; rw [List.flatMap_cons]
theorem kidsW_take (M : Dm) (inn : Nat → List UInt8) (raw : Bool) (l : List Nat) (j : Nat) (h : j < l.length) : kidsW M inn raw (l.take (j + 1)) = kidsW M inn raw (l.take j) ++ outW inn (M.nd l[j]) l[j] raw := by
  unfold kidsW; rw [List.take_succ_eq_append_getElem h, List.flatMap_append, List.flatMap_singleton]
theorem kidsW_le (M : Dm) (inn : Nat → List UInt8) (raw : Bool) (l : List Nat) (j : Nat) : (kidsW M inn raw (l.take j)).length ≤ (kidsW M inn raw l).length := by
  have : kidsW M inn raw l = kidsW M inn raw (l.take j) ++ kidsW M inn raw (l.drop j) := by
    unfold kidsW; rw [← List.flatMap_append, List.take_append_drop]
  rw [this, List.length_append]; omega
theorem atsL_take (l : List Atr) (j : Nat) (h : j < l.length) : atsL (l.take (j + 1)) = atsL (l.take j) ++ atrL l[j] := by
  unfold atsL; rw [List.take_succ_eq_append_getElem h, List.flatMap_append, List.flatMap_singleton]
theorem atsL_le (l : List Atr) (j : Nat) : (atsL (l.take j)).length ≤ (atsL l).length := by
  have : atsL l = atsL (l.take j) ++ atsL (l.drop j) := by
    unfold atsL; rw [← List.flatMap_append, List.take_append_drop]
  rw [this, List.length_append]; omega
end Go.Proofs.Yteccdijjpmeeaaa
