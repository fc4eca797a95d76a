/-
 portierelaw10: heavy, and both documents behind calls.; Attributes, slots, and who asks for them, as plain functions (pure).
-/
import Derived.Test.YtfeinppedejlpaaGreatKW28
import Derived.Test.YtfeinppedejlpaaGreatKW26
import Derived.Test.YtfeinppedejlpaaGreatKW17
import Derived.Test.YtfeinppedejlpaaGreatKB19
import Derived.Deep.MidRow
namespace Go.Proofs.YtfeinppedejlpaaGreat
set_option linter.unusedVariables false
set_option maxRecDepth 100000
set_option maxHeartbeats 8000000
section
open Go.RowKit Go.Sort
theorem Zhc.inn {o : Opx} (h : Zhc o) : Zhc { o with inn := true } := ⟨h.k, h.nk, h.a, h.b, h.c, h.l⟩
end
section
def atV (nm : List UInt8) : List Atr -> List UInt8
 | [] => []
 | a :: r => if a.name = nm then a.value else atV nm r
abbrev zbp : List UInt8 := [110, 97, 109, 101]
def za9 (x : Nd) : Bool := decide (x.kind = 1) && decide (x.name = zbh)
def zma (nm : List UInt8) (x : Nd) : Bool := za9 x && decide (atV zbp x.attrs = nm)
def zca (nm : List UInt8) (x : Nd) : Bool := za0 x && decide (atV zbh x.attrs = nm)
def zee (P : Nat -> Bool) (l : List Nat) : Int := match l.find? P with | some k => (k : Int) | none => -1
end
end Go.Proofs.YtfeinppedejlpaaGreat
