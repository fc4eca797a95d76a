/-
  Noughts, and texts without the sign of a reference, for the statements.
-/
import Derived.Test.YtndlififfofcmaaDoorMore
import Derived.Deep.LoopGhost
namespace Go.Proofs.YtndlififfofcmaaDoor
open Go.RowKit
/-- So many noughts. -/
def zerB (k : Nat) : ByteArray := ⟨(List.replicate k 48).toArray⟩
theorem zerB_size (k : Nat) : (zerB k).size = k := by
  show (List.replicate k (48 : UInt8)).toArray.size = k
  simp
theorem zerB_succ (k : Nat) : zerB k ++ ⟨#[48]⟩ = zerB (k + 1) := by
  unfold zerB
  rw [List.replicate_succ', app_arr]
/-- A text without &. -/
def noB (l : List UInt8) : ByteArray := ⟨(l.filter fun c => decide (c ≠ 38)).toArray⟩
theorem noB_size (l : List UInt8) : (noB l).size ≤ l.length := by
  show (l.filter fun c => decide (c ≠ 38)).toArray.size ≤ _
  rw [List.size_toArray]
  exact List.length_filter_le _ _
theorem noB_no (l : List UInt8) : 38 ∉ (noB l).data.toList := by
  intro h
  have h' : 38 ∈ l.filter fun c => decide (c ≠ 38) := h
  have := (List.mem_filter.1 h').2
  simp at this
theorem noB_skip {s : ByteArray} {k : Nat} (hk : k < s.size) (h : s[k] = 38) : noB (s.data.toList.take (k + 1)) = noB (s.data.toList.take k) := by
  unfold noB
  rw [List.take_succ_eq_append_getElem (show k < s.data.toList.length from hk), List.filter_append, show s.data.toList[k]'hk = 38 from h]
  simp
theorem noB_keep {s : ByteArray} {k : Nat} (hk : k < s.size) (h : ¬ s[k] = 38) : noB (s.data.toList.take (k + 1)) = noB (s.data.toList.take k) ++ s.extract k (k + 1) := by
  have e : s.data.toList[k]'hk = s[k] := rfl
  apply ByteArray.ext
  apply Array.toList_inj.1
  rw [ByteArray.data_append, Array.toList_append, extract_list, List.drop_take, Nat.add_sub_cancel_left, drop_cons hk]
  show (List.filter _ _) = (List.filter _ _) ++ _
  rw [List.take_succ_eq_append_getElem (show k < s.data.toList.length from hk), List.filter_append, e]
  simp [h]
theorem takeS_none {s : ByteArray} {i : Int} {attr : Bool} (h : 38 ∉ s.data.toList) : takeS s i attr = none0 := by
  unfold takeS
  split
  · exact take_none (fun hm => h (List.mem_of_mem_drop hm)) attr
  · rfl
theorem take_beyond (s : ByteArray) (i : Int) (attr : Bool) (K : Nat → Prop) (w : World) (hK : ∀ k, K k → k < w.heap.size) (hs : s.size < 1000000) (hT : Tab w) (hi : (s.size : Int) ≤ i) :
    Calls Tryd.prog 12 #[.string s, .int .i64 i, .bool attr] w fun e w' => e = .returned (refV none0) ∧ Kept K w w' := by
  have h := take_any s i attr K w hK hs hT
  have e : takeS s i attr = none0 := by
    unfold takeS
    rw [if_neg (by omega)]
  rw [e] at h
  exact h
end Go.Proofs.YtndlififfofcmaaDoor
