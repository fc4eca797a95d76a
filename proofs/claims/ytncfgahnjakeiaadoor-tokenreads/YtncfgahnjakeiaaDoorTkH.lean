/-
  What the reader's small functions answer: beginsWithLetter, beginsWithAnySize, HasSuffix, has, what a comment's and an element's end is sought by.
-/
import Derived.Test.YtncfgahnjakeiaaDoorTkG
namespace Go.Proofs.YtncfgahnjakeiaaDoor
open Go.RowKit

set_option maxRecDepth 20000 in
theorem letter_any (l : List UInt8) (w : World) :
    Calls Tryd.prog 45 #[sv l] w fun e w' => e = .returned (.bool (begL l)) ∧ w' = w := by
  cases l with
  | nil =>
    go_enter Tryd.func45, Tryd.ntmps45
    go_wp2
    go_ret
    exact ⟨rfl, rfl⟩
  | cons c r =>
    have cls : c.toNat < 65 ∨ (65 ≤ c.toNat ∧ c.toNat ≤ 90) ∨ (90 < c.toNat ∧ c.toNat < 97) ∨ (97 ≤ c.toNat ∧ c.toNat ≤ 122) ∨ 122 < c.toNat := by omega
    rcases cls with g | g | g | g | g
    · have e0 : decide ((97 : Int) ≤ (((⟨(c :: r).toArray⟩ : ByteArray)[0]'(by simp [ByteArray.size])).toNat : Int)) = false := decide_eq_false (by show ¬ ((97 : Int) ≤ (c.toNat : Int)); omega)
      have e1 : decide ((((⟨(c :: r).toArray⟩ : ByteArray)[0]'(by simp [ByteArray.size])).toNat : Int) ≤ 122) = true := decide_eq_true (by show ((c.toNat : Int) ≤ 122); omega)
      have e2 : decide ((65 : Int) ≤ (((⟨(c :: r).toArray⟩ : ByteArray)[0]'(by simp [ByteArray.size])).toNat : Int)) = false := decide_eq_false (by show ¬ ((65 : Int) ≤ (c.toNat : Int)); omega)
      have e3 : decide ((((⟨(c :: r).toArray⟩ : ByteArray)[0]'(by simp [ByteArray.size])).toNat : Int) ≤ 90) = true := decide_eq_true (by show ((c.toNat : Int) ≤ 90); omega)
      have HB : Hid (begL (c :: r) = false) := by show letterP c = _; unfold letterP; simp; omega
      clear g
      go_enter Tryd.func45, Tryd.ntmps45
      go_wp2
      go_ret
      exact ⟨by rw [HB.out]; rfl, rfl⟩
    · have e0 : decide ((97 : Int) ≤ (((⟨(c :: r).toArray⟩ : ByteArray)[0]'(by simp [ByteArray.size])).toNat : Int)) = false := decide_eq_false (by show ¬ ((97 : Int) ≤ (c.toNat : Int)); omega)
      have e1 : decide ((((⟨(c :: r).toArray⟩ : ByteArray)[0]'(by simp [ByteArray.size])).toNat : Int) ≤ 122) = true := decide_eq_true (by show ((c.toNat : Int) ≤ 122); omega)
      have e2 : decide ((65 : Int) ≤ (((⟨(c :: r).toArray⟩ : ByteArray)[0]'(by simp [ByteArray.size])).toNat : Int)) = true := decide_eq_true (by show ((65 : Int) ≤ (c.toNat : Int)); omega)
      have e3 : decide ((((⟨(c :: r).toArray⟩ : ByteArray)[0]'(by simp [ByteArray.size])).toNat : Int) ≤ 90) = true := decide_eq_true (by show ((c.toNat : Int) ≤ 90); omega)
      have HB : Hid (begL (c :: r) = true) := by show letterP c = _; unfold letterP; simp; omega
      clear g
      go_enter Tryd.func45, Tryd.ntmps45
      go_wp2
      go_ret
      exact ⟨by rw [HB.out]; rfl, rfl⟩
    · have e0 : decide ((97 : Int) ≤ (((⟨(c :: r).toArray⟩ : ByteArray)[0]'(by simp [ByteArray.size])).toNat : Int)) = false := decide_eq_false (by show ¬ ((97 : Int) ≤ (c.toNat : Int)); omega)
      have e1 : decide ((((⟨(c :: r).toArray⟩ : ByteArray)[0]'(by simp [ByteArray.size])).toNat : Int) ≤ 122) = true := decide_eq_true (by show ((c.toNat : Int) ≤ 122); omega)
      have e2 : decide ((65 : Int) ≤ (((⟨(c :: r).toArray⟩ : ByteArray)[0]'(by simp [ByteArray.size])).toNat : Int)) = true := decide_eq_true (by show ((65 : Int) ≤ (c.toNat : Int)); omega)
      have e3 : decide ((((⟨(c :: r).toArray⟩ : ByteArray)[0]'(by simp [ByteArray.size])).toNat : Int) ≤ 90) = false := decide_eq_false (by show ¬ ((c.toNat : Int) ≤ 90); omega)
      have HB : Hid (begL (c :: r) = false) := by show letterP c = _; unfold letterP; simp; omega
      clear g
      go_enter Tryd.func45, Tryd.ntmps45
      go_wp2
      go_ret
      exact ⟨by rw [HB.out]; rfl, rfl⟩
    · have e0 : decide ((97 : Int) ≤ (((⟨(c :: r).toArray⟩ : ByteArray)[0]'(by simp [ByteArray.size])).toNat : Int)) = true := decide_eq_true (by show ((97 : Int) ≤ (c.toNat : Int)); omega)
      have e1 : decide ((((⟨(c :: r).toArray⟩ : ByteArray)[0]'(by simp [ByteArray.size])).toNat : Int) ≤ 122) = true := decide_eq_true (by show ((c.toNat : Int) ≤ 122); omega)
      have e2 : decide ((65 : Int) ≤ (((⟨(c :: r).toArray⟩ : ByteArray)[0]'(by simp [ByteArray.size])).toNat : Int)) = true := decide_eq_true (by show ((65 : Int) ≤ (c.toNat : Int)); omega)
      have e3 : decide ((((⟨(c :: r).toArray⟩ : ByteArray)[0]'(by simp [ByteArray.size])).toNat : Int) ≤ 90) = false := decide_eq_false (by show ¬ ((c.toNat : Int) ≤ 90); omega)
      have HB : Hid (begL (c :: r) = true) := by show letterP c = _; unfold letterP; simp; omega
      clear g
      go_enter Tryd.func45, Tryd.ntmps45
      go_wp2
      go_ret
      exact ⟨by rw [HB.out]; rfl, rfl⟩
    · have e0 : decide ((97 : Int) ≤ (((⟨(c :: r).toArray⟩ : ByteArray)[0]'(by simp [ByteArray.size])).toNat : Int)) = true := decide_eq_true (by show ((97 : Int) ≤ (c.toNat : Int)); omega)
      have e1 : decide ((((⟨(c :: r).toArray⟩ : ByteArray)[0]'(by simp [ByteArray.size])).toNat : Int) ≤ 122) = false := decide_eq_false (by show ¬ ((c.toNat : Int) ≤ 122); omega)
      have e2 : decide ((65 : Int) ≤ (((⟨(c :: r).toArray⟩ : ByteArray)[0]'(by simp [ByteArray.size])).toNat : Int)) = true := decide_eq_true (by show ((65 : Int) ≤ (c.toNat : Int)); omega)
      have e3 : decide ((((⟨(c :: r).toArray⟩ : ByteArray)[0]'(by simp [ByteArray.size])).toNat : Int) ≤ 90) = false := decide_eq_false (by show ¬ ((c.toNat : Int) ≤ 90); omega)
      have HB : Hid (begL (c :: r) = false) := by show letterP c = _; unfold letterP; simp; omega
      clear g
      go_enter Tryd.func45, Tryd.ntmps45
      go_wp2
      go_ret
      exact ⟨by rw [HB.out]; rfl, rfl⟩
end Go.Proofs.YtncfgahnjakeiaaDoor
