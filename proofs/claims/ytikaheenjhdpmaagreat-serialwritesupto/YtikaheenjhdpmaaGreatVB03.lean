/-
 References to characters as plain functions on lists of bytes, and what holds of them. No program is named here.; Texts as they are written, as plain functions on lists of bytes, and what holds of them. No program is named here.
-/
import Derived.Laws.Runes
import Derived.Laws.Cover4
namespace Go.Proofs.YtikaheenjhdpmaaGreat
set_option linter.unusedVariables false
set_option maxRecDepth 100000
set_option maxHeartbeats 8000000
section
def zvj (c : UInt8) : Nat :=
 if 48 <= c.toNat /\ c.toNat <= 57 then c.toNat - 48 else if 97 <= c.toNat /\ c.toNat <= 102 then c.toNat - 87 else if 65 <= c.toNat /\ c.toNat <= 70 then c.toNat - 55 else 16
def zvi (b : Nat) : List UInt8 -> Nat
 | [] => 0
 | c :: r => if zvj c < b then zvi b r + 1 else 0
/-! ### How long, at most -/
theorem zd7 : ∀ (p l : List UInt8), p.isPrefixOf l = true -> p.length <= l.length
 | [], _, _ => Nat.zero_le _
 | _ :: _, [], h => by simp [List.isPrefixOf] at h
 | a :: p, c :: l, h => by
  simp [List.isPrefixOf] at h
  have := zd7 p l (by simpa using h.2)
  simp; omega
/-! ### All of them -/
end
section
def one (q : Bool) (c : UInt8) : List UInt8 :=
 if c = 38 then [38, 97, 109, 112, 59] else if c = 60 then [38, 108, 116, 59] else if c = 62 then [38, 103, 116, 59] else if q = true /\ c = 34 then [38, 113, 117, 111, 116, 59] else [c]
def nbsp : List UInt8 := [38, 110, 98, 115, 112, 59]
def nbq : List UInt8 -> Bool
 | 194 :: 160 :: _ => true
 | _ => false
def front (q : Bool) : List UInt8 -> List UInt8
 | [] => []
 | c :: r => if nbq (c :: r) = true then nbsp else one q c
def far (l : List UInt8) : Nat := if nbq l = true then 2 else 1
/-! ### What is written comes back -/
end
end Go.Proofs.YtikaheenjhdpmaaGreat
