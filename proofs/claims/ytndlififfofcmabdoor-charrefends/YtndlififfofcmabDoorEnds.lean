/-
  A name with its semicolon, whatever stands behind.
-/
import Derived.Test.YtndlififfofcmabDoorTake
import Derived.KernelRfl
namespace Go.Proofs.YtndlififfofcmabDoor
open Go.RowKit

theorem scan_ends (more : List UInt8) : ∀ r ∈ names, scanN (r.name ++ 59 :: more) names = ⟨r.code, r.name.length + 1, true⟩ := by
  intro r hr
  simp only [names, List.mem_cons, List.not_mem_nil, or_false] at hr
  rcases hr with rfl | rfl | rfl | rfl | rfl | rfl | rfl | rfl | rfl | rfl | rfl | rfl | rfl | rfl | rfl | rfl | rfl | rfl | rfl | rfl | rfl | rfl
  all_goals rfl
theorem names_35 : ∀ r ∈ names, hash r.name = false ∧ r.name ≠ [] ∧ r.name.length < 10 ∧ r.code < 10000 := by decide
theorem take_ends {r : Nm} (hr : r ∈ names) (more : List UInt8) (attr : Bool) : takeL (38 :: (r.name ++ 59 :: more)) attr = ⟨Utf8.encode r.code, r.name.length + 2, 0⟩ := by
  have h1 : amp (38 :: (r.name ++ 59 :: more)) = true := rfl
  obtain ⟨h35, hne, _⟩ := names_35 r hr
  have h2 : ¬ hash (r.name ++ 59 :: more) = true := by
    cases hn : r.name with
    | nil => exact absurd hn hne
    | cons c t =>
      rw [hn] at h35
      show ¬ hash (c :: t) = true
      rw [h35]
      decide
  unfold takeL refL
  rw [if_pos h1, List.drop_succ_cons, List.drop_zero, if_neg h2]
  unfold nameL
  rw [scan_ends more r hr]
  unfold endR
  dsimp only
  rw [if_neg (by omega), if_pos rfl, Nat.add_comm 1]
theorem enc_some : ∀ r ∈ names, ((Utf8.encode (r.code : Int)).toList == []) = false := by
  have key : ∀ r ∈ names, ((Utf8.encode (r.code : Int)).data.toList == []) = false := by decide
  intro r hr
  rw [ByteArray.toList_eq]
  exact key r hr
theorem takeS_zero {s : ByteArray} {attr : Bool} (h : 0 < s.data.toList.length) : takeS s 0 attr = takeL s.data.toList attr := by
  have h' : 0 < s.size := h
  unfold takeS
  rw [if_pos (by omega)]
  rfl
theorem name_at (k : Nat) (h : k < names.length) : (names.map fun r => Value.string (nmB r))[k]'(by simpa using h) = .string (nmB names[k]) := List.getElem_map ..
end Go.Proofs.YtndlififfofcmabDoor
