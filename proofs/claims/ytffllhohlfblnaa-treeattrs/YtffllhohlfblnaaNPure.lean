/-
  Kinds of names, as plain functions on lists of bytes.
-/
import Derived.WalkKit
namespace Go.Proofs.Ytffllhohlfblnaa

def rawL : List (List UInt8) := [[115, 99, 114, 105, 112, 116], [115, 116, 121, 108, 101], [120, 109, 112], [105, 102, 114, 97, 109, 101], [110, 111, 101, 109, 98, 101, 100], [110, 111, 102, 114, 97, 109, 101, 115]]
def softL : List (List UInt8) := [[116, 105, 116, 108, 101], [116, 101, 120, 116, 97, 114, 101, 97]]
def rawP (l : List UInt8) : Bool := rawL.any (l == ·)
def softP (l : List UInt8) : Bool := softL.any (l == ·)
/-- The words of a text, with one blank between. -/
def wordsP : List UInt8 → List UInt8 → List (List UInt8)
  | acc, [] => [acc]
  | acc, c :: r => if c = 32 then acc :: wordsP [] r else wordsP (acc ++ [c]) r
def amongP (t l : List UInt8) : Bool := (wordsP [] t).any (· == l) && l != []
def rawT : ByteArray := ⟨#[115, 99, 114, 105, 112, 116, 32, 115, 116, 121, 108, 101, 32, 120, 109, 112, 32, 105, 102, 114, 97, 109, 101, 32, 110, 111, 101, 109, 98, 101, 100, 32, 110, 111, 102, 114, 97, 109, 101, 115]⟩
def softT : ByteArray := ⟨#[116, 105, 116, 108, 101, 32, 116, 101, 120, 116, 97, 114, 101, 97]⟩

theorem among_of {t l : List UInt8} {L : List (List UInt8)} (h : wordsP [] t = L) (h0 : ∀ x ∈ L, x ≠ []) : amongP t l = L.any (l == ·) := by
  unfold amongP
  rw [h]
  have e : (L.any fun x => x == l) = L.any (l == ·) := by
    apply List.any_congr rfl
    intro x
    exact BEq.comm
  rw [e]
  by_cases hl : l = []
  · subst hl
    have : L.any ([] == ·) = false := by
      rw [List.any_eq_false]
      intro x hx
      have hx0 := h0 x hx
      cases x with
      | nil => exact absurd rfl hx0
      | cons a r => simp
    rw [this]
    rfl
  · have : (l != []) = true := by simpa using hl
    rw [this, Bool.and_true]
theorem among_raw (l : List UInt8) : amongP rawT.data.toList l = rawP l := among_of (L := rawL) (by decide +kernel) (by decide +kernel)
theorem among_soft (l : List UInt8) : amongP softT.data.toList l = softP l := among_of (L := softL) (by decide +kernel) (by decide +kernel)
def lowB (c : UInt8) : UInt8 := if 65 ≤ c.toNat ∧ c.toNat ≤ 90 then c + 32 else c
def lowL (l : List UInt8) : List UInt8 := l.map lowB
end Go.Proofs.Ytffllhohlfblnaa
