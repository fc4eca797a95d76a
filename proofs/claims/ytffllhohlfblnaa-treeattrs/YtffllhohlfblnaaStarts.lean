/-
  What the document's starts answers.
-/
import Derived.Test.YtffllhohlfblnaaLeaf
import Derived.Deep.QuietTactic
import Derived.BigQuiet
namespace Go.Proofs.Ytffllhohlfblnaa
open Go.RowKit

def preD (t s : ByteArray) (i : Nat) : Bool := t.data.toList.isPrefixOf (s.data.toList.drop i)
theorem starts_any (s t : ByteArray) (i : Nat) (hi : i ≤ s.size) (hs : s.size < 1000000) (ht : t.size < 1000000) (w : World) :
    Calls Try.prog 38 #[.string s, .int .i64 i, .string t] w fun e w' => e = .returned (.bool (preD t s i)) ∧ w' = w := by
  by_cases h : i + t.size ≤ s.size
  · have e1 : decide ((s.size : Int) - (i : Int) ≥ (t.size : Int)) = true := by simp; omega
    have HP : Hid (((s.extract i (i + t.size)).toList == t.toList) = preD t s i) := by
      show (_ == _) = _
      rw [beq_data, extract_list, List.drop_take, Nat.add_sub_cancel_left]
      exact pre_take t.data.toList _
    go_enter Try.func38, Try.ntmps38
    go_wp2
    go_ret
    exact ⟨by rw [HP.out]; rfl, rfl⟩
  · have e1 : decide ((s.size : Int) - (i : Int) ≥ (t.size : Int)) = false := by simp; omega
    have hp : preD t s i = false := pre_short _ _ (by rw [List.length_drop]; show s.size - i < t.size; omega)
    rw [hp]
    clear hp
    go_enter Try.func38, Try.ntmps38
    go_wp2
    go_ret
    exact ⟨rfl, rfl⟩

end Go.Proofs.Ytffllhohlfblnaa
