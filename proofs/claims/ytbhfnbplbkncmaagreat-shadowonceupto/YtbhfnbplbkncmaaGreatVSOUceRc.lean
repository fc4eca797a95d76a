/-
  What the document's own Custom and Host answer.
-/
import Derived.Test.YtbhfnbplbkncmaaGreatZ17
namespace Go.Proofs.YtbhfnbplbkncmaaGreat
open Go.RowKit

theorem dash_snoc {s : ByteArray} {k : Nat} (hk : k < s.size) : (s.data.toList.take (k + 1)).any (· == 45) = ((s.data.toList.take k).any (· == 45) || s[k].toNat == 45) := by
  have h : k < s.data.toList.length := hk
  rw [List.take_succ_eq_append_getElem h, List.any_append]
  have : (s.data.toList[k] == (45 : UInt8)) = (s[k].toNat == 45) := by
    rw [Bool.eq_iff_iff]
    simp
    exact ⟨fun e => congrArg UInt8.toNat e, fun e => UInt8.toNat_inj.1 e⟩
  rw [List.any_cons, List.any_nil, Bool.or_false, this]
theorem customP_eq (l : List UInt8) : customP l = (dashP l && validP l && !takenP l) := by
  unfold customP
  cases validP l <;> cases dashP l <;> rfl

set_option maxRecDepth 20000 in
set_option maxHeartbeats 1000000 in
theorem rcustom_any (s : ByteArray) (K : Nat → Prop) (w : World) (h300 : s.size < 1000) :
    Calls Tryz.prog 115 #[.string s] w fun e w' => e = .returned (.bool (customP s.toList)) ∧ Kept K w w' := by
  have h1 := fun X => rvalid_any s K X (by omega)
  have h2 := fun X => among_any takenT s K X (by decide +kernel)
  rw [among_taken] at h2
  rw [customP_eq]
  have hd : dashP s.toList = (s.data.toList.take s.size).any (· == 45) := by
    rw [ByteArray.toList_eq]
    unfold dashP
    have : s.data.toList.take s.size = s.data.toList := List.take_length
    rw [this]
  rw [hd]
  clear hd
  obtain ⟨v, hv⟩ : ∃ v, validP s.toList = v := ⟨_, rfl⟩
  obtain ⟨t, ht⟩ : ∃ v, takenP s.toList = v := ⟨_, rfl⟩
  rw [hv] at h1 ⊢
  rw [ht] at h2 ⊢
  clear hv ht
  go_enter Tryz.func115, Tryz.ntmps115
  go_wp2_with fail
  go_loopw [3, 4, 5, 6, 7, 8, 9, 10, 11, 12, 13, 14, 15, 16, 17] (fun b i _ _ _ _ _ _ _ _ _ _ _ _ _ wr => ∃ k : Nat, k ≤ s.size ∧ i = .int .i64 k ∧ b = .bool ((s.data.toList.take k).any (· == 45)) ∧ wr = w) (fun _ i _ _ _ _ _ _ _ _ _ _ _ _ _ _ => s.size - (intOf i).toNat)
  case atStart => exact ⟨0, Nat.zero_le _, rfl, rfl, rfl⟩
  case round =>
    obtain ⟨k, hk, rfl, rfl, rfl⟩ := hrel
    by_cases hlt : k < s.size
    · have hs := dash_snoc hlt
      obtain ⟨b, hb⟩ : ∃ b, (s.data.toList.take k).any (· == 45) = b := ⟨_, rfl⟩
      rw [hb] at hs ⊢
      have HS : Hid ((s.data.toList.take (k + 1)).any (· == 45) = (b || s[k].toNat == 45)) := hs
      clear hb hs
      cases b with
      | true =>
        go_wp2
        go_roundw
        case rel => exact ⟨k + 1, by omega, by go_num, by rw [HS.out]; rfl, trivial⟩
        case measure => simp [intOf]; omega
      | false =>
        go_wp2
        go_roundw
        case rel =>
          refine ⟨k + 1, by omega, by go_num, congrArg Value.bool ?_, trivial⟩
          rw [HS.out, Bool.false_or, Bool.eq_iff_iff]
          simp
          omega
        case measure => simp [intOf]; omega
    · obtain rfl : k = s.size := by omega
      obtain ⟨b, hb⟩ : ∃ b, (s.data.toList.take s.size).any (· == 45) = b := ⟨_, rfl⟩
      rw [hb]
      have HB : Hid ((s.data.toList.take s.size).any (· == 45) = b) := hb
      clear hb
      cases b with
      | false =>
        go_wp2
        go_ret
        exact ⟨by rw [HB.out]; rfl, Kept.refl _ _⟩
      | true =>
        cases v with
        | false =>
          go_wp2_with fail
          refine (h1 _).mono ?_
          rintro e w1 ⟨rfl, hk1⟩
          go_wp2
          go_ret
          exact ⟨by rw [HB.out]; rfl, hk1⟩
        | true =>
          go_wp2_with fail
          refine (h1 _).mono ?_
          rintro e w1 ⟨rfl, hk1⟩
          go_wp2_with fail
          refine (h2 _).mono ?_
          rintro e w2 ⟨rfl, hk2⟩
          go_wp2
          go_ret
          exact ⟨by rw [HB.out]; rfl, hk1.trans hk2⟩

theorem rhost_any (s : ByteArray) (K : Nat → Prop) (w : World) (h300 : s.size < 1000) :
    Calls Tryz.prog 50 #[.string s] w fun e w' => e = .returned (.bool (hostP s.toList)) ∧ Kept K w w' := by
  have h1 := fun X => rcustom_any s K X h300
  have h2 := fun X => among_any hostsT s K X (by decide +kernel)
  rw [among_hosts] at h2
  unfold hostP
  obtain ⟨c, hc⟩ : ∃ v, customP s.toList = v := ⟨_, rfl⟩
  rw [hc] at h1 ⊢
  obtain ⟨o, ho⟩ : ∃ v, hostsP s.toList = v := ⟨_, rfl⟩
  rw [ho] at h2 ⊢
  clear hc ho
  cases c with
  | true =>
    go_enter Tryz.func50, Tryz.ntmps50
    go_wp2_with fail
    refine (h1 _).mono ?_
    rintro e w1 ⟨rfl, hk1⟩
    go_wp2
    go_ret
    exact ⟨by simp, hk1⟩
  | false =>
    go_enter Tryz.func50, Tryz.ntmps50
    go_wp2_with fail
    refine (h1 _).mono ?_
    rintro e w1 ⟨rfl, hk1⟩
    go_wp2_with fail
    refine (h2 _).mono ?_
    rintro e w2 ⟨rfl, hk2⟩
    go_wp2
    go_ret
    exact ⟨by simp, hk1.trans hk2⟩
end Go.Proofs.YtbhfnbplbkncmaaGreat
