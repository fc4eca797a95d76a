/-
  Kinds of names, as plain functions on lists of bytes.
  Kinds of names, as plain functions on lists of bytes.
-/
import Derived.WalkKit
namespace Go.Proofs.YtbhfnbplbkncmaaGreat

def rawL : List (List UInt8) := [[115, 99, 114, 105, 112, 116], [115, 116, 121, 108, 101], [120, 109, 112], [105, 102, 114, 97, 109, 101], [110, 111, 101, 109, 98, 101, 100], [110, 111, 102, 114, 97, 109, 101, 115]]
def softL : List (List UInt8) := [[116, 105, 116, 108, 101], [116, 101, 120, 116, 97, 114, 101, 97]]
def rawP (l : List UInt8) : Bool := rawL.any (l == ·)
def softP (l : List UInt8) : Bool := softL.any (l == ·)
/-- The words of a text, with one blank between. -/
def wordsP : List UInt8 → List UInt8 → List (List UInt8)
  | acc, [] => [acc]
  | acc, c :: r => if c = 32 then acc :: wordsP [] r else wordsP (acc ++ [c]) r
def amongP (t l : List UInt8) : Bool := (wordsP [] t).any (· == l) && l != []
theorem among_of {t l : List UInt8} {L : List (List UInt8)} (h : wordsP [] t = L) (h0 : ∀ x ∈ L, x ≠ []) : amongP t l = L.any (l == ·) := by
  unfold amongP
  rw [h]
  have e : (L.any fun x => x == l) = L.any (l == ·) := by
    apply List.any_congr rfl
    intro x
    exact BEq.comm
  rw [e]
  by_cases hl : l = []
  · subst hl
    have : L.any ([] == ·) = false := by
      rw [List.any_eq_false]
      intro x hx
      have hx0 := h0 x hx
      cases x with
      | nil => exact absurd rfl hx0
      | cons a r => simp
    rw [this]
    rfl
  · have : (l != []) = true := by simpa using hl
    rw [this, Bool.and_true]
def lowB (c : UInt8) : UInt8 := if 65 ≤ c.toNat ∧ c.toNat ≤ 90 then c + 32 else c
def lowL (l : List UInt8) : List UInt8 := l.map lowB
end Go.Proofs.YtbhfnbplbkncmaaGreat

namespace Go.Proofs.YtbhfnbplbkncmaaGreat

def voidL : List (List UInt8) := [[97, 114, 101, 97], [98, 97, 115, 101], [98, 114], [99, 111, 108], [101, 109, 98, 101, 100], [104, 114], [105, 109, 103], [105, 110, 112, 117, 116], [108, 105, 110, 107], [109, 101, 116, 97], [115, 111, 117, 114, 99, 101], [116, 114, 97, 99, 107], [119, 98, 114]]


def blockL : List (List UInt8) := [[97, 100, 100, 114, 101, 115, 115], [97, 114, 116, 105, 99, 108, 101], [97, 115, 105, 100, 101], [98, 108, 111, 99, 107, 113, 117, 111, 116, 101], [100, 101, 116, 97, 105, 108, 115], [100, 105, 97, 108, 111, 103], [100, 105, 118], [100, 108], [102, 105, 101, 108, 100, 115, 101, 116], [102, 105, 103, 99, 97, 112, 116, 105, 111, 110], [102, 105, 103, 117, 114, 101], [102, 111, 111, 116, 101, 114], [102, 111, 114, 109], [104, 49], [104, 50], [104, 51], [104, 52], [104, 53], [104, 54], [104, 101, 97, 100, 101, 114], [104, 103, 114, 111, 117, 112], [104, 114], [109, 97, 105, 110], [109, 101, 110, 117], [110, 97, 118], [111, 108], [112], [112, 114, 101], [115, 101, 97, 114, 99, 104], [115, 101, 99, 116, 105, 111, 110], [115, 117, 109, 109, 97, 114, 121], [116, 97, 98, 108, 101], [117, 108]]
def takenL : List (List UInt8) := [[97, 110, 110, 111, 116, 97, 116, 105, 111, 110, 45, 120, 109, 108], [99, 111, 108, 111, 114, 45, 112, 114, 111, 102, 105, 108, 101], [102, 111, 110, 116, 45, 102, 97, 99, 101], [102, 111, 110, 116, 45, 102, 97, 99, 101, 45, 115, 114, 99], [102, 111, 110, 116, 45, 102, 97, 99, 101, 45, 117, 114, 105], [102, 111, 110, 116, 45, 102, 97, 99, 101, 45, 102, 111, 114, 109, 97, 116], [102, 111, 110, 116, 45, 102, 97, 99, 101, 45, 110, 97, 109, 101], [109, 105, 115, 115, 105, 110, 103, 45, 103, 108, 121, 112, 104]]
def hostsL : List (List UInt8) := [[97, 114, 116, 105, 99, 108, 101], [97, 115, 105, 100, 101], [98, 108, 111, 99, 107, 113, 117, 111, 116, 101], [98, 111, 100, 121], [100, 105, 118], [102, 111, 111, 116, 101, 114], [104, 49], [104, 50], [104, 51], [104, 52], [104, 53], [104, 54], [104, 101, 97, 100, 101, 114], [109, 97, 105, 110], [110, 97, 118], [112], [115, 101, 99, 116, 105, 111, 110], [115, 112, 97, 110]]
def voidP (l : List UInt8) : Bool := voidL.any (l == ·)


def blockP (l : List UInt8) : Bool := blockL.any (l == ·)
def takenP (l : List UInt8) : Bool := takenL.any (l == ·)
def hostsP (l : List UInt8) : Bool := hostsL.any (l == ·)

def smallP (c : UInt8) : Bool := decide (97 ≤ c.toNat) && decide (c.toNat ≤ 122)
def innerP (c : UInt8) : Bool := (decide (48 ≤ c.toNat) && decide (c.toNat ≤ 57)) || c.toNat == 45 || c.toNat == 46 || c.toNat == 95
/-- A byte that may stand in a name, behind the first. -/
def fineP (c : UInt8) : Bool := smallP c || innerP c
def fitP : List UInt8 → Bool
  | [] => true
  | c :: r => smallP c && r.all fineP
def validP (l : List UInt8) : Bool := decide (1 ≤ l.length) && decide (l.length ≤ 60) && fitP l
def dashP (l : List UInt8) : Bool := l.any (· == 45)
def customP (l : List UInt8) : Bool := validP l && dashP l && !takenP l
def hostP (l : List UInt8) : Bool := hostsP l || customP l

def voidT : ByteArray := ⟨#[97, 114, 101, 97, 32, 98, 97, 115, 101, 32, 98, 114, 32, 99, 111, 108, 32, 101, 109, 98, 101, 100, 32, 104, 114, 32, 105, 109, 103, 32, 105, 110, 112, 117, 116, 32, 108, 105, 110, 107, 32, 109, 101, 116, 97, 32, 115, 111, 117, 114, 99, 101, 32, 116, 114, 97, 99, 107, 32, 119, 98, 114]⟩


def takenT : ByteArray := ⟨#[97, 110, 110, 111, 116, 97, 116, 105, 111, 110, 45, 120, 109, 108, 32, 99, 111, 108, 111, 114, 45, 112, 114, 111, 102, 105, 108, 101, 32, 102, 111, 110, 116, 45, 102, 97, 99, 101, 32, 102, 111, 110, 116, 45, 102, 97, 99, 101, 45, 115, 114, 99, 32, 102, 111, 110, 116, 45, 102, 97, 99, 101, 45, 117, 114, 105, 32, 102, 111, 110, 116, 45, 102, 97, 99, 101, 45, 102, 111, 114, 109, 97, 116, 32, 102, 111, 110, 116, 45, 102, 97, 99, 101, 45, 110, 97, 109, 101, 32, 109, 105, 115, 115, 105, 110, 103, 45, 103, 108, 121, 112, 104]⟩
def hostsT : ByteArray := ⟨#[97, 114, 116, 105, 99, 108, 101, 32, 97, 115, 105, 100, 101, 32, 98, 108, 111, 99, 107, 113, 117, 111, 116, 101, 32, 98, 111, 100, 121, 32, 100, 105, 118, 32, 102, 111, 111, 116, 101, 114, 32, 104, 49, 32, 104, 50, 32, 104, 51, 32, 104, 52, 32, 104, 53, 32, 104, 54, 32, 104, 101, 97, 100, 101, 114, 32, 109, 97, 105, 110, 32, 110, 97, 118, 32, 112, 32, 115, 101, 99, 116, 105, 111, 110, 32, 115, 112, 97, 110]⟩


theorem among_void (l : List UInt8) : amongP voidT.data.toList l = voidP l := among_of (L := voidL) (by decide +kernel) (by decide +kernel)


theorem among_taken (l : List UInt8) : amongP takenT.data.toList l = takenP l := among_of (L := takenL) (by decide +kernel) (by decide +kernel)
theorem among_hosts (l : List UInt8) : amongP hostsT.data.toList l = hostsP l := among_of (L := hostsL) (by decide +kernel) (by decide +kernel)
end Go.Proofs.YtbhfnbplbkncmaaGreat
