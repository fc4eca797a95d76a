/-
  Small facts in the shape that the walks of the statements ask.
-/
import Derived.Test.YtncfgahnjakeiabDoorKnown
import Derived.Test.YtncfgahnjakeiabDoorRun
import Derived.Test.YtncfgahnjakeiabDoorRText
namespace Go.Proofs.YtncfgahnjakeiabDoor
open Go.RowKit

/-- A text without bytes 0. -/
def nz (l : List UInt8) : List UInt8 := l.filter (· ≠ 0)
theorem nz_mem {l : List UInt8} : ∀ c ∈ nz l, c ≠ 0 := fun c hc => by simpa using (List.mem_filter.1 hc).2
theorem take_snoc {s : ByteArray} {k : Nat} (h : k < s.size) : s.data.toList.take (k + 1) = s.data.toList.take k ++ [s[k]] := List.take_succ_eq_append_getElem (show k < s.data.toList.length from h)
theorem nz_snoc {s : ByteArray} {k : Nat} (h : k < s.size) : nz (s.data.toList.take (k + 1)) = if s[k] = 0 then nz (s.data.toList.take k) else nz (s.data.toList.take k) ++ [s[k]] := by
  rw [take_snoc h]
  unfold nz
  rw [List.filter_append]
  by_cases hc : s[k] = 0
  · rw [if_pos hc]
    simp [hc]
  · rw [if_neg hc]
    simp [hc]
theorem ext_one {s : ByteArray} {k : Nat} (h : k < s.size) : (s.extract k (k + 1)).data.toList = [s[k]] := by
  rw [extract_list, List.drop_take, Nat.add_sub_cancel_left, drop_cons h]
  rfl
end Go.Proofs.YtncfgahnjakeiabDoor
