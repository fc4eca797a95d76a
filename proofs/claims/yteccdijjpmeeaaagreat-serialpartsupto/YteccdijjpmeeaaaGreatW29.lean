/-
 portierelaw10: heavy, and both documents behind calls.; Attributes, slots, and who asks for them, as plain functions (pure).
-/
import Derived.Test.YteccdijjpmeeaaaGreatW28
import Derived.Test.YteccdijjpmeeaaaGreatW26
import Derived.Test.YteccdijjpmeeaaaGreatW17
import Derived.Test.YteccdijjpmeeaaaGreatB19
import Derived.Deep.MidRow
namespace Go.Proofs.YteccdijjpmeeaaaGreat
set_option linter.unusedVariables false
set_option maxRecDepth 100000
set_option maxHeartbeats 8000000
section
open Go.RowKit Go.Sort
theorem OpOk.inn {o : Opx} (h : OpOk o) : OpOk { o with inn := true } := ⟨h.k, h.nk, h.a, h.b, h.c, h.l⟩
end
section
def atV (nm : List UInt8) : List Atr -> List UInt8
 | [] => []
 | a :: r => if a.name = nm then a.value else atV nm r
abbrev nameN : List UInt8 := [110, 97, 109, 101]
def isSl (x : Nd) : Bool := decide (x.kind = 1) && decide (x.name = slotN)
def slNm (nm : List UInt8) (x : Nd) : Bool := isSl x && decide (atV nameN x.attrs = nm)
def asksB (nm : List UInt8) (x : Nd) : Bool := showB x && decide (atV slotN x.attrs = nm)
def fstO (P : Nat -> Bool) (l : List Nat) : Int := match l.find? P with | some k => (k : Int) | none => -1
end
end Go.Proofs.YteccdijjpmeeaaaGreat
