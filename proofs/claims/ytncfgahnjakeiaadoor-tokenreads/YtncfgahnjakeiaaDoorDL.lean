/-
  What the document's Lower and Clean answer.
-/
import Derived.Test.YtncfgahnjakeiaaDoorDM
import Derived.Test.YtncfgahnjakeiaaDoorRAll
import Derived.Test.YtncfgahnjakeiaaDoorLower
import Derived.Deep.QuietTactic
import Derived.BigQuiet
import Derived.Deep.LoopGhost
namespace Go.Proofs.YtncfgahnjakeiaaDoor
open Go.RowKit







theorem take_snoc {s : ByteArray} {k : Nat} (h : k < s.size) : s.data.toList.take (k + 1) = s.data.toList.take k ++ [s[k]] := List.take_succ_eq_append_getElem (show k < s.data.toList.length from h)
theorem ext_one {s : ByteArray} {k : Nat} (h : k < s.size) : (s.extract k (k + 1)).data.toList = [s[k]] := by
  rw [extract_list, List.drop_take, Nat.add_sub_cancel_left, drop_cons h]
  rfl
theorem cleanL_snoc (l : List UInt8) (c : UInt8) : cleanL (l ++ [c]) = cleanL l ++ cleanB c := by simp [cleanL]
set_option maxRecDepth 20000 in
set_option maxHeartbeats 1000000 in
theorem rclean_any (s : ByteArray) (hs : s.size < 100000) (w : World) :
    Calls Tryd.prog 66 #[.string s] w fun e w' => e = .returned (sv (cleanL s.data.toList)) ∧ w' = w := by
  have hl0 : s.data.toList.length = s.size := rfl
  have HF : Hid (cleanL (s.data.toList.take s.size) = cleanL s.data.toList) := by show cleanL _ = _; rw [← hl0, List.take_length]
  go_enter Tryd.func66, Tryd.ntmps66
  go_wp2_with fail
  go_loopg [3, 4] s.size (fun gm tv iv wr => ∃ k : Nat, gm = s.size - k ∧ k ≤ s.size ∧ iv = .int .i64 k ∧ tv = sv (cleanL (s.data.toList.take k)) ∧ wr = w)
  case atStart => exact ⟨0, rfl, Nat.zero_le _, rfl, rfl, rfl⟩
  case round =>
    obtain ⟨k, hgk, hk, rfl, rfl, rfl⟩ := hrel
    have hcl := cleanL_length (s.data.toList.take k)
    rw [List.length_take] at hcl
    by_cases hlt : k < s.size
    · have hone := ext_one hlt
      have hsn : cleanL (s.data.toList.take (k + 1)) = cleanL (s.data.toList.take k) ++ cleanB s[k] := by rw [take_snoc hlt, cleanL_snoc]
      by_cases hc : s[k] = 0
      · have ec : (((s[k]).toNat : Int) == 0) = true := by rw [hc]; rfl
        have HS : (⟨(cleanL (s.data.toList.take k)).toArray⟩ : ByteArray) ++ ⟨#[239, 191, 189]⟩ = ⟨(cleanL (s.data.toList.take (k + 1))).toArray⟩ := by
          rw [mk_app, hsn, hc]
          rfl
        clear hsn hone hc HF
        go_wp2
        go_roundg (s.size - (k + 1))
        case rel => exact ⟨k + 1, rfl, by omega, by go_num, rfl, rfl⟩
        case measure => omega
      · have ec : (((s[k]).toNat : Int) == 0) = false := by
          simp
          intro e
          exact hc (UInt8.toNat_inj.1 (by show (s[k]).toNat = 0; omega))
        have HS : (⟨(cleanL (s.data.toList.take k)).toArray⟩ : ByteArray) ++ s.extract k (k + 1) = ⟨(cleanL (s.data.toList.take (k + 1))).toArray⟩ := by
          rw [mk_app, hone, hsn]
          unfold cleanB
          rw [if_neg hc]
        have hes : (s.extract k (k + 1)).size = 1 := congrArg List.length hone
        clear hsn hone hc HF
        go_wp2
        go_roundg (s.size - (k + 1))
        case rel => exact ⟨k + 1, rfl, by omega, by go_num, rfl, rfl⟩
        case measure => omega
    · have hkk : k = s.size := by omega
      subst hkk
      rw [HF.out]
      go_wp2
      go_ret
      exact ⟨rfl, rfl⟩
end Go.Proofs.YtncfgahnjakeiaaDoor
