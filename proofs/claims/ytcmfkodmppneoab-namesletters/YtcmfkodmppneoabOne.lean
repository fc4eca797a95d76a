/-
  What the statements' own one answers.
-/
import Derived.Test.YtcmfkodmppneoabProg
import Derived.Test.YtcmfkodmppneoabBase
import Derived.Test.YtcmfkodmppneoabPure
namespace Go.Proofs.Ytcmfkodmppneoab
open Go.RowKit

def oneB (k : Nat) (s : ByteArray) : ByteArray := match oneL[k]? with
  | some l => ⟨l.toArray⟩
  | none => s
theorem oneB_lt (k : Nat) (s : ByteArray) (h : k < 66) : (oneL.map fun l => Value.string ⟨l.toArray⟩)[k]'(by simpa [oneL] using h) = .string (oneB k s) := by
  have h' : k < oneL.length := h
  rw [List.getElem_map]
  unfold oneB
  rw [List.getElem?_eq_getElem h']
theorem oneB_ge (k : Nat) (s : ByteArray) (h : ¬ k < 66) : oneB k s = s := by
  have h' : oneL.length ≤ k := Nat.le_of_not_lt h
  unfold oneB
  rw [List.getElem?_eq_none h']
set_option maxRecDepth 20000 in
set_option maxHeartbeats 4000000 in
theorem one_any (k : UInt8) (s : ByteArray) (K : Nat → Prop) (w : World) (hK : ∀ k, K k → k < w.heap.size) :
    Calls Try.prog 4 #[.int .u8 k.toNat, .string s] w fun e w' => e = .returned (.string (oneB k.toNat s)) ∧ Kept K w w' := by
  have kk : ∀ o, Kept K w (w.alloc o) := fun o => (Kept.refl K w).alloc hK o
  by_cases h : k.toNat < 66
  · have e0 : decide ((k.toNat : Int) < 66) = true := by simp; omega
    go_enter Try.func4, Try.ntmps4
    go_wp2_with fail
    go_ret
    exact ⟨congrArg Ending.returned (oneB_lt k.toNat s h), kk _⟩
  · have h256 : k.toNat < 256 := k.toNat_lt
    have e0 : decide ((k.toNat : Int) < 66) = false := by simp; omega
    rw [oneB_ge _ _ h]
    go_enter Try.func4, Try.ntmps4
    go_wp2
    go_ret
    exact ⟨rfl, kk _⟩
end Go.Proofs.Ytcmfkodmppneoab
