/-
 Tokens as plain functions on lists of bytes: what the reader of the program does at each step. No program is named here.; The reader of tokens as plain functions: how far it comes, how much room it wants, what it makes of plain bytes; tokens in memory. No program is named.
-/
import Derived.Test.YtfeinppedejlpaaGreatNB03
import Derived.Test.YtfeinppedejlpaaGreatNB02
import Derived.Test.YtfeinppedejlpaaGreatNB01
namespace Go.Proofs.YtfeinppedejlpaaGreat
set_option linter.unusedVariables false
set_option maxRecDepth 100000
set_option maxHeartbeats 8000000
section
def pre (f l : List UInt8) : Bool := f.isPrefixOf l
structure Atr where
 name : List UInt8
 value : List UInt8
def blk : List UInt8 := [9, 10, 12, 32]
def zni (attrs : List Atr) (name : List UInt8) : Bool := attrs.any (fun a => a.name == name)
end
section
open Go.RowKit
abbrev sv (l : List UInt8) : Value := .string ⟨l.toArray⟩
def zab (l : List Atr) : List Value := l.flatMap fun a => [sv a.name, sv a.value]
theorem zbr (l m : List Atr) : zab (l ++ m) = zab l ++ zab m := by simp [zab]
theorem zmp (l : List UInt8) : (⟨l.toArray⟩ : ByteArray).size = l.length := by
 show l.toArray.size = l.length
 simp
/-! ### Room -/
end
end Go.Proofs.YtfeinppedejlpaaGreat
