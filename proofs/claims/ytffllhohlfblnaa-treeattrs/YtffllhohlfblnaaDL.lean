/-
  What the document's Lower and Clean answer.
-/
import Derived.Test.YtffllhohlfblnaaDM
import Derived.Test.YtffllhohlfblnaaRAll
import Derived.Deep.QuietTactic
import Derived.BigQuiet
import Derived.Deep.LoopGhost
namespace Go.Proofs.Ytffllhohlfblnaa
open Go.RowKit

theorem info5 : (Try.prog.info? 5).map (fun i => (i.zero, i.size, i.bytes)) = some (some (.int .u8 0), 1, 1) := by kernel_rfl
theorem lowB_up {c : UInt8} (h1 : 65 ≤ c.toNat) (h2 : c.toNat ≤ 90) : Value.int .u8 ((c.toNat : Int) - 65 + 97) = bv (lowB c) := by
  have : (lowB c).toNat = c.toNat + 32 := by
    unfold lowB
    rw [if_pos ⟨h1, h2⟩, UInt8.toNat_add]
    show (c.toNat + 32) % 256 = _
    omega
  show _ = Value.int .u8 ((lowB c).toNat : Int)
  rw [this]
  exact congrArg (Value.int .u8) (by omega)
theorem lowB_up' {c : UInt8} (h1 : 65 ≤ c.toNat) (h2 : c.toNat ≤ 90) : Value.int .u8 ((c.toNat : Int) + 32) = bv (lowB c) := by
  rw [← lowB_up h1 h2]
  exact congrArg (Value.int .u8) (by omega)
theorem lowL_snoc {s : ByteArray} {k : Nat} (hk : k < s.size) : bvs (lowL (s.data.toList.take (k + 1))) = bvs (lowL (s.data.toList.take k)) ++ [bv (lowB s[k])] := by
  have h : k < s.data.toList.length := hk
  rw [List.take_succ_eq_append_getElem h]
  simp [lowL, bvs]
  rfl
set_option maxRecDepth 20000 in
set_option maxHeartbeats 1000000 in
theorem rlower_any (s : ByteArray) (K : Nat → Prop) (w : World) (hK : ∀ k, K k → k < w.heap.size) (hs : s.size < 1000000) :
    Calls Try.prog 52 #[.string s] w fun e w' => e = .returned (.string ⟨(lowL s.data.toList).toArray⟩) ∧ Kept K w w' := by
  obtain ⟨i0, hi, hz0, hz1, hz2⟩ := info_parts info5
  have hz3 : i0.bytes ≤ 64 := by omega
  go_enter Try.func52, Try.ntmps52
  go_wp2_with fail
  go_loopw [3, 4, 5, 6, 7, 8, 9, 10, 11, 12, 13, 14, 15, 16, 17, 18, 19, 20, 21, 22, 23, 24, 25, 26] (fun b i _ _ _ _ _ _ _ _ _ _ _ _ _ _ _ _ _ _ _ _ _ _ wr => ∃ (k : Nat) (ao : Option Addr) (cap : Nat), k ≤ s.size ∧ i = .int .i64 k ∧ b = .slice ao k cap ∧ Own K wr 5 ao k cap (bvs (lowL (s.data.toList.take k))) ∧ Kept K w wr) (fun _ i _ _ _ _ _ _ _ _ _ _ _ _ _ _ _ _ _ _ _ _ _ _ _ => s.size - (intOf i).toNat)
  case atStart => exact ⟨0, none, 0, Nat.zero_le _, rfl, rfl, Own.nil _ _ _, Kept.refl _ _⟩
  case round =>
    obtain ⟨k, ao, cap, hk, rfl, rfl, how, hkp⟩ := hrel
    by_cases hlt : k < s.size
    · have hsn := lowL_snoc hlt
      have HS : Hid (bvs (lowL (s.data.toList.take (k + 1))) = bvs (lowL (s.data.toList.take k)) ++ [bv (lowB s[k])]) := hsn
      have HK : Hid (∀ k, K k → k < wr.heap.size) := fun k hk => Nat.lt_of_lt_of_le (hK k hk) hkp.size
      have hkb : k ≤ 1099511627776 := by omega
      have cls : (65 ≤ s[k].toNat ∧ s[k].toNat ≤ 90) ∨ s[k].toNat < 65 ∨ 90 < s[k].toNat := by omega
      rcases cls with hg | hg | hg
      · have e1 : decide ((s[k].toNat : Int) ≥ 65) = true := by simp; omega
        have e2 : decide ((s[k].toNat : Int) ≤ 90) = true := by simp; omega
        have g1' : (65 : Int) ≤ (s[k].toNat : Int) := by omega
        have g2' : (s[k].toNat : Int) ≤ 90 := by omega
        have HW : Hid (Value.int .u8 ((s[k].toNat : Int) + 32) = bv (lowB s[k])) := lowB_up' hg.1 hg.2
        clear hg hsn
        go_wp2_with (at_builtin; refine wpList_app1 (K := K) rfl (.tmp 23) (.tmp 25) 53 5 rfl i0 (.int .u8 0) Try.underlying53 hi hz0 hz1 rfl hz3 ao k cap (bvs (lowL (s.data.toList.take k))) rfl (Value.int .u8 ((s[k].toNat : Int) + 32)) rfl wr.heap.size rfl hkb how HK.out rfl ?_)
        intro ao1 cap1 w1 own1 kept1
        have HO : Hid (Own K w1 5 ao1 (k + 1) cap1 (bvs (lowL (s.data.toList.take (k + 1))))) := by
          show Own _ _ _ _ _ _ _
          rw [HS.out, ← HW.out]
          exact own1
        clear own1 how
        go_wp2
        go_roundw
        case rel => exact ⟨k + 1, ao1, cap1, by omega, by go_num, rfl, HO.out, hkp.trans kept1⟩
        case measure => simp [intOf]; omega
      · have e1 : decide ((s[k].toNat : Int) ≥ 65) = false := by simp; omega
        have HW : Hid (bv s[k] = bv (lowB s[k])) := by unfold lowB; rw [if_neg (by omega)]; exact (rfl : bv s[k] = bv s[k])
        clear hg hsn
        go_wp2_with (at_builtin; refine wpList_app1 (K := K) rfl (.tmp 23) (.tmp 25) 53 5 rfl i0 (.int .u8 0) Try.underlying53 hi hz0 hz1 rfl hz3 ao k cap (bvs (lowL (s.data.toList.take k))) rfl (bv s[k]) rfl wr.heap.size rfl hkb how HK.out rfl ?_)
        intro ao1 cap1 w1 own1 kept1
        have HO : Hid (Own K w1 5 ao1 (k + 1) cap1 (bvs (lowL (s.data.toList.take (k + 1))))) := by
          show Own _ _ _ _ _ _ _
          rw [HS.out, ← HW.out]
          exact own1
        clear own1 how
        go_wp2
        go_roundw
        case rel => exact ⟨k + 1, ao1, cap1, by omega, by go_num, rfl, HO.out, hkp.trans kept1⟩
        case measure => simp [intOf]; omega
      · have e1 : decide ((s[k].toNat : Int) ≥ 65) = true := by simp; omega
        have e2 : decide ((s[k].toNat : Int) ≤ 90) = false := by simp; omega
        have HW : Hid (bv s[k] = bv (lowB s[k])) := by unfold lowB; rw [if_neg (by omega)]; exact (rfl : bv s[k] = bv s[k])
        clear hg hsn
        go_wp2_with (at_builtin; refine wpList_app1 (K := K) rfl (.tmp 23) (.tmp 25) 53 5 rfl i0 (.int .u8 0) Try.underlying53 hi hz0 hz1 rfl hz3 ao k cap (bvs (lowL (s.data.toList.take k))) rfl (bv s[k]) rfl wr.heap.size rfl hkb how HK.out rfl ?_)
        intro ao1 cap1 w1 own1 kept1
        have HO : Hid (Own K w1 5 ao1 (k + 1) cap1 (bvs (lowL (s.data.toList.take (k + 1))))) := by
          show Own _ _ _ _ _ _ _
          rw [HS.out, ← HW.out]
          exact own1
        clear own1 how
        go_wp2
        go_roundw
        case rel => exact ⟨k + 1, ao1, cap1, by omega, by go_num, rfl, HO.out, hkp.trans kept1⟩
        case measure => simp [intOf]; omega
    · have hcv2 : (convert 53 9 (.slice ao k cap)).run Try.prog wr = .ok (.string ⟨(lowL s.data.toList).toArray⟩) wr := by
        have := run_string_own (P := Try.prog) wr 53 9 5 Try.underlying53 Try.underlying5 Try.underlying9 how
        have hk' : s.data.toList.take k = s.data.toList := List.take_of_length_le (by simp; omega)
        rwa [hk'] at this
      clear how
      go_wp2
      go_ret
      exact ⟨rfl, hkp⟩

theorem take_snoc {s : ByteArray} {k : Nat} (h : k < s.size) : s.data.toList.take (k + 1) = s.data.toList.take k ++ [s[k]] := List.take_succ_eq_append_getElem (show k < s.data.toList.length from h)
theorem ext_one {s : ByteArray} {k : Nat} (h : k < s.size) : (s.extract k (k + 1)).data.toList = [s[k]] := by
  rw [extract_list, List.drop_take, Nat.add_sub_cancel_left, drop_cons h]
  rfl
theorem cleanL_snoc (l : List UInt8) (c : UInt8) : cleanL (l ++ [c]) = cleanL l ++ cleanB c := by simp [cleanL]
set_option maxRecDepth 20000 in
set_option maxHeartbeats 1000000 in
theorem rclean_any (s : ByteArray) (hs : s.size < 100000) (w : World) :
    Calls Try.prog 54 #[.string s] w fun e w' => e = .returned (sv (cleanL s.data.toList)) ∧ w' = w := by
  have hl0 : s.data.toList.length = s.size := rfl
  have HF : Hid (cleanL (s.data.toList.take s.size) = cleanL s.data.toList) := by show cleanL _ = _; rw [← hl0, List.take_length]
  go_enter Try.func54, Try.ntmps54
  go_wp2_with fail
  go_loopg [3, 4] s.size (fun gm tv iv wr => ∃ k : Nat, gm = s.size - k ∧ k ≤ s.size ∧ iv = .int .i64 k ∧ tv = sv (cleanL (s.data.toList.take k)) ∧ wr = w)
  case atStart => exact ⟨0, rfl, Nat.zero_le _, rfl, rfl, rfl⟩
  case round =>
    obtain ⟨k, hgk, hk, rfl, rfl, rfl⟩ := hrel
    have hcl := cleanL_length (s.data.toList.take k)
    rw [List.length_take] at hcl
    by_cases hlt : k < s.size
    · have hone := ext_one hlt
      have hsn : cleanL (s.data.toList.take (k + 1)) = cleanL (s.data.toList.take k) ++ cleanB s[k] := by rw [take_snoc hlt, cleanL_snoc]
      by_cases hc : s[k] = 0
      · have ec : (((s[k]).toNat : Int) == 0) = true := by rw [hc]; rfl
        have HS : (⟨(cleanL (s.data.toList.take k)).toArray⟩ : ByteArray) ++ ⟨#[239, 191, 189]⟩ = ⟨(cleanL (s.data.toList.take (k + 1))).toArray⟩ := by
          rw [mk_app, hsn, hc]
          rfl
        clear hsn hone hc HF
        go_wp2
        go_roundg (s.size - (k + 1))
        case rel => exact ⟨k + 1, rfl, by omega, by go_num, rfl, rfl⟩
        case measure => omega
      · have ec : (((s[k]).toNat : Int) == 0) = false := by
          simp
          intro e
          exact hc (UInt8.toNat_inj.1 (by show (s[k]).toNat = 0; omega))
        have HS : (⟨(cleanL (s.data.toList.take k)).toArray⟩ : ByteArray) ++ s.extract k (k + 1) = ⟨(cleanL (s.data.toList.take (k + 1))).toArray⟩ := by
          rw [mk_app, hone, hsn]
          unfold cleanB
          rw [if_neg hc]
        have hes : (s.extract k (k + 1)).size = 1 := congrArg List.length hone
        clear hsn hone hc HF
        go_wp2
        go_roundg (s.size - (k + 1))
        case rel => exact ⟨k + 1, rfl, by omega, by go_num, rfl, rfl⟩
        case measure => omega
    · have hkk : k = s.size := by omega
      subst hkk
      rw [HF.out]
      go_wp2
      go_ret
      exact ⟨rfl, rfl⟩
end Go.Proofs.Ytffllhohlfblnaa
