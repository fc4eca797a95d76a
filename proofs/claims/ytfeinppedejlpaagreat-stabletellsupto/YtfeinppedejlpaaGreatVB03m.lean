/-
  References to characters as plain functions on lists of bytes, and what holds of them. No program is named here.; Texts as they are written, as plain functions on lists of bytes, and what holds of the
-/
import Derived.Laws.Runes
import Derived.Laws.Cover4
import Derived.Test.YtfeinppedejlpaaGreatVB02
import Derived.Test.YtfeinppedejlpaaGreatVB01
import Derived.Test.YtfeinppedejlpaaGreatProg
import Derived.Lib.Builder
import Derived.Lib.UnsafeStr
import Derived.Laws.Externs
import Derived.Laws.StandIn
import Derived.Deep.QuietTactic
import Derived.BigQuiet
import Derived.Deep.LoopGhost
namespace Go.Proofs.YtfeinppedejlpaaGreat
section
set_option linter.unusedVariables false
set_option maxRecDepth 100000
set_option maxHeartbeats 8000000
section
/-! ### How long, at most -/
/-! ### All of them -/
end
section
def one (q : Bool) (c : UInt8) : List UInt8 :=
 if c = 38 then [38, 97, 109, 112, 59] else if c = 60 then [38, 108, 116, 59] else if c = 62 then [38, 103, 116, 59] else if q = true /\ c = 34 then [38, 113, 117, 111, 116, 59] else [c]
def nbq : List UInt8 -> Bool
 | 194 :: 160 :: _ => true
 | _ => false
def far (l : List UInt8) : Nat := if nbq l = true then 2 else 1
/-! ### What is written comes back -/
end
end
section
set_option linter.unusedVariables false
set_option maxRecDepth 100000
set_option maxHeartbeats 8000000
section
def pre (f l : List UInt8) : Bool := f.isPrefixOf l
structure Atr where
 name : List UInt8
 value : List UInt8
structure Fl where
 kind : Nat
 pl : Nat
def blk : List UInt8 := [9, 10, 12, 32]
def zoo (attrs : List Atr) (name : List UInt8) : Bool := attrs.any (fun a => a.name == name)
end
section
open Go.RowKit
abbrev sv (l : List UInt8) : Value := .string ⟨l.toArray⟩
def zab (l : List Atr) : List Value := l.flatMap fun a => [sv a.name, sv a.value]
theorem zbj (l m : List Atr) : zab (l ++ m) = zab l ++ zab m := by simp [zab]
theorem zmr (l : List UInt8) : (⟨l.toArray⟩ : ByteArray).size = l.length := by
 show l.toArray.size = l.length
 simp
/-! ### Room -/
end
end
section
section
open Go.RowKit
set_option linter.unusedVariables false
set_option maxRecDepth 100000
set_option maxHeartbeats 4000000
abbrev bv (c : UInt8) : Value := .int .u8 (c.toNat : Int)
end
section
open Go.RowKit
set_option linter.unusedVariables false
set_option maxRecDepth 100000
set_option maxHeartbeats 4000000
end
section
open Go.RowKit
set_option linter.unusedVariables false
set_option maxRecDepth 100000
set_option maxHeartbeats 4000000
end
section
open Go.RowKit
set_option linter.unusedVariables false
set_option maxRecDepth 20000
set_option maxHeartbeats 2000000
end
end
end Go.Proofs.YtfeinppedejlpaaGreat
