/-
  What the document's own Void, Raw, Soft, Block, Valid, Custom and Host answer.
-/
import Derived.Test.YtcmfkodmppneoaaAmong
import Derived.Test.YtcmfkodmppneoaaValid
namespace Go.Proofs.Ytcmfkodmppneoaa
open Go.RowKit

theorem rvoid_any (s : ByteArray) (K : Nat → Prop) (w : World) :
    Calls Try.prog 13 #[.string s] w fun e w' => e = .returned (.bool (voidP s.toList)) ∧ Kept K w w' := by
  have h1 := fun X => among_any voidT s K X (by decide +kernel)
  rw [among_void] at h1
  go_enter Try.func13, Try.ntmps13
  go_wp2_with fail
  refine (h1 _).mono ?_
  rintro e w1 ⟨rfl, hk1⟩
  go_wp2
  go_ret
  exact ⟨rfl, hk1⟩
theorem rraw_any (s : ByteArray) (K : Nat → Prop) (w : World) :
    Calls Try.prog 15 #[.string s] w fun e w' => e = .returned (.bool (rawP s.toList)) ∧ Kept K w w' := by
  have h1 := fun X => among_any rawT s K X (by decide +kernel)
  rw [among_raw] at h1
  go_enter Try.func15, Try.ntmps15
  go_wp2_with fail
  refine (h1 _).mono ?_
  rintro e w1 ⟨rfl, hk1⟩
  go_wp2
  go_ret
  exact ⟨rfl, hk1⟩
theorem rsoft_any (s : ByteArray) (K : Nat → Prop) (w : World) :
    Calls Try.prog 17 #[.string s] w fun e w' => e = .returned (.bool (softP s.toList)) ∧ Kept K w w' := by
  have h1 := fun X => among_any softT s K X (by decide +kernel)
  rw [among_soft] at h1
  go_enter Try.func17, Try.ntmps17
  go_wp2_with fail
  refine (h1 _).mono ?_
  rintro e w1 ⟨rfl, hk1⟩
  go_wp2
  go_ret
  exact ⟨rfl, hk1⟩
theorem rblock_any (s : ByteArray) (K : Nat → Prop) (w : World) :
    Calls Try.prog 19 #[.string s] w fun e w' => e = .returned (.bool (blockP s.toList)) ∧ Kept K w w' := by
  have h1 := fun X => among_any blockT s K X (by decide +kernel)
  rw [among_block] at h1
  go_enter Try.func19, Try.ntmps19
  go_wp2_with fail
  refine (h1 _).mono ?_
  rintro e w1 ⟨rfl, hk1⟩
  go_wp2
  go_ret
  exact ⟨rfl, hk1⟩

/-- What the document's own Valid bars at a place. -/
def rbar (c : UInt8) (i : Nat) : Bool := !smallP c && (i == 0 || !innerP c)
def rbarN (n i : Nat) : Prop := (n < 97 ∨ 122 < n) ∧ (i = 0 ∨ ((n < 48 ∨ 57 < n) ∧ n ≠ 45 ∧ n ≠ 46 ∧ n ≠ 95))
theorem rbar_iff (c : UInt8) (i : Nat) : rbar c i = true ↔ rbarN c.toNat i := by
  unfold rbar rbarN smallP innerP
  simp
  omega
theorem rbar_fit (s : ByteArray) (i : Nat) (hi : i < s.size) (h : rbar s[i] i = true) : validP s.toList = false := by
  have : barP s i = true := by unfold barP; rw [dif_pos hi]; exact h
  simp [validP, bar_fit s i hi this]
theorem rbar_none_fit (s : ByteArray) (h : ∀ i (hi : i < s.size), rbar s[i] i = false) : validP s.toList = (decide (1 ≤ s.size) && decide (s.size ≤ 60)) := by
  have hf := bar_none_fit s fun i hi => by unfold barP; rw [dif_pos hi]; exact h i hi
  have hl : s.toList.length = s.size := by rw [ByteArray.toList_eq]; rfl
  rw [validP, hl, hf, Bool.and_true]

theorem rbar_more {s : ByteArray} {k : Nat} (hk : k < s.size) (hj : ∀ j (hj : j < s.size), j < k → rbar s[j] j = false) (hb : ¬ rbarN s[k].toNat k) : ∀ j (hj : j < s.size), j < k + 1 → rbar s[j] j = false := by
  intro j hjs hjk
  rcases Nat.lt_succ_iff_lt_or_eq.1 hjk with h | rfl
  · exact hj j hjs h
  · cases h : rbar s[j] j
    · rfl
    · exact absurd ((rbar_iff _ _).1 h) hb

set_option maxRecDepth 20000 in
set_option maxHeartbeats 1000000 in
theorem rvalid_any (s : ByteArray) (K : Nat → Prop) (w : World) (h300 : s.size < 1000) :
    Calls Try.prog 20 #[.string s] w fun e w' => e = .returned (.bool (validP s.toList)) ∧ Kept K w w' := by
  go_enter Try.func20, Try.ntmps20
  go_wp2_with fail
  go_loopw [2, 3, 4, 5, 6, 7, 8, 9, 10, 11, 12, 13, 14, 15, 16, 17, 18, 19, 20, 21, 22, 23, 24, 25, 26, 27, 28, 29, 30, 31, 32, 33, 34, 35, 36, 37, 38, 39, 40, 41, 42, 43, 44, 45, 46, 47] (fun r i _ _ _ _ _ _ _ _ _ _ _ _ _ _ _ _ _ _ _ _ _ _ _ _ _ _ _ _ _ _ _ _ _ _ _ _ _ _ _ _ _ _ _ _ wr => ∃ k : Nat, k ≤ s.size ∧ i = .int .i64 k ∧ wr = w ∧ ∀ j (hj : j < s.size), j < k → rbar s[j] j = false) (fun _ i _ _ _ _ _ _ _ _ _ _ _ _ _ _ _ _ _ _ _ _ _ _ _ _ _ _ _ _ _ _ _ _ _ _ _ _ _ _ _ _ _ _ _ _ _ => s.size - (intOf i).toNat)
  case atStart => exact ⟨0, Nat.zero_le _, rfl, rfl, fun j _ hj => absurd hj (Nat.not_lt_zero _)⟩
  case round =>
    obtain ⟨k, hk, rfl, rfl, hj⟩ := hrel
    by_cases hlt : k < s.size
    · have cls : (97 ≤ s[k].toNat ∧ s[k].toNat ≤ 122) ∨ (122 < s[k].toNat ∧ k = 0) ∨ (s[k].toNat < 97 ∧ k = 0) ∨ (122 < s[k].toNat ∧ k ≠ 0) ∨ (57 < s[k].toNat ∧ s[k].toNat < 97 ∧ s[k].toNat ≠ 95 ∧ k ≠ 0) ∨ (s[k].toNat = 95 ∧ k ≠ 0) ∨ (48 ≤ s[k].toNat ∧ s[k].toNat ≤ 57 ∧ k ≠ 0) ∨ (s[k].toNat = 46 ∧ k ≠ 0) ∨ (s[k].toNat = 45 ∧ k ≠ 0) ∨ (s[k].toNat < 48 ∧ s[k].toNat ≠ 45 ∧ s[k].toNat ≠ 46 ∧ k ≠ 0) := by omega
      rcases cls with g | g | g | g | g | g | g | g | g | g
      · have hnew := rbar_more hlt hj (by unfold rbarN; omega)
        have e0 : decide ((s[k].toNat : Int) ≥ 97) = true := by simp; omega
        have e1 : decide ((s[k].toNat : Int) ≤ 122) = true := by simp; omega
        clear hj g
        go_wp2
        go_roundw
        case rel => exact ⟨k + 1, by omega, by go_num, trivial, hnew⟩
        case measure => simp [intOf]; omega
      · have hv : Hid (validP s.toList = false) := rbar_fit s k hlt ((rbar_iff _ _).2 (by unfold rbarN; omega))
        have e0 : decide ((s[k].toNat : Int) ≥ 97) = true := by simp; omega
        have e1 : decide ((s[k].toNat : Int) ≤ 122) = false := by simp; omega
        have e2 : ((k : Int) == 0) = true := by simp; omega
        clear hj g
        go_wp2
        go_ret
        exact ⟨congrArg (fun b => Ending.returned (.bool b)) hv.out.symm, Kept.refl _ _⟩
      · have hv : Hid (validP s.toList = false) := rbar_fit s k hlt ((rbar_iff _ _).2 (by unfold rbarN; omega))
        have e0 : decide ((s[k].toNat : Int) ≥ 97) = false := by simp; omega
        have e1 : ((k : Int) == 0) = true := by simp; omega
        clear hj g
        go_wp2
        go_ret
        exact ⟨congrArg (fun b => Ending.returned (.bool b)) hv.out.symm, Kept.refl _ _⟩
      · have hv : Hid (validP s.toList = false) := rbar_fit s k hlt ((rbar_iff _ _).2 (by unfold rbarN; omega))
        have e0 : decide ((s[k].toNat : Int) ≥ 97) = true := by simp; omega
        have e1 : decide ((s[k].toNat : Int) ≤ 122) = false := by simp; omega
        have e2 : ((k : Int) == 0) = false := by simp; omega
        have e3 : decide ((s[k].toNat : Int) ≥ 48) = true := by simp; omega
        have e4 : decide ((s[k].toNat : Int) ≤ 57) = false := by simp; omega
        have e5 : ((s[k].toNat : Int) != 45) = true := by simp; omega
        have e6 : ((s[k].toNat : Int) != 46) = true := by simp; omega
        have e7 : ((s[k].toNat : Int) != 95) = true := by simp; omega
        clear hj g
        go_wp2
        go_ret
        exact ⟨congrArg (fun b => Ending.returned (.bool b)) hv.out.symm, Kept.refl _ _⟩
      · have hv : Hid (validP s.toList = false) := rbar_fit s k hlt ((rbar_iff _ _).2 (by unfold rbarN; omega))
        have e0 : decide ((s[k].toNat : Int) ≥ 97) = false := by simp; omega
        have e1 : ((k : Int) == 0) = false := by simp; omega
        have e2 : decide ((s[k].toNat : Int) ≥ 48) = true := by simp; omega
        have e3 : decide ((s[k].toNat : Int) ≤ 57) = false := by simp; omega
        have e4 : ((s[k].toNat : Int) != 45) = true := by simp; omega
        have e5 : ((s[k].toNat : Int) != 46) = true := by simp; omega
        have e6 : ((s[k].toNat : Int) != 95) = true := by simp; omega
        clear hj g
        go_wp2
        go_ret
        exact ⟨congrArg (fun b => Ending.returned (.bool b)) hv.out.symm, Kept.refl _ _⟩
      · have hnew := rbar_more hlt hj (by unfold rbarN; omega)
        have e0 : decide ((s[k].toNat : Int) ≥ 97) = false := by simp; omega
        have e1 : ((k : Int) == 0) = false := by simp; omega
        have e2 : decide ((s[k].toNat : Int) ≥ 48) = true := by simp; omega
        have e3 : decide ((s[k].toNat : Int) ≤ 57) = false := by simp; omega
        have e4 : ((s[k].toNat : Int) != 45) = true := by simp; omega
        have e5 : ((s[k].toNat : Int) != 46) = true := by simp; omega
        have e6 : ((s[k].toNat : Int) != 95) = false := by simp; omega
        clear hj g
        go_wp2
        go_roundw
        case rel => exact ⟨k + 1, by omega, by go_num, trivial, hnew⟩
        case measure => simp [intOf]; omega
      · have hnew := rbar_more hlt hj (by unfold rbarN; omega)
        have e0 : decide ((s[k].toNat : Int) ≥ 97) = false := by simp; omega
        have e1 : ((k : Int) == 0) = false := by simp; omega
        have e2 : decide ((s[k].toNat : Int) ≥ 48) = true := by simp; omega
        have e3 : decide ((s[k].toNat : Int) ≤ 57) = true := by simp; omega
        clear hj g
        go_wp2
        go_roundw
        case rel => exact ⟨k + 1, by omega, by go_num, trivial, hnew⟩
        case measure => simp [intOf]; omega
      · have hnew := rbar_more hlt hj (by unfold rbarN; omega)
        have e0 : decide ((s[k].toNat : Int) ≥ 97) = false := by simp; omega
        have e1 : ((k : Int) == 0) = false := by simp; omega
        have e2 : decide ((s[k].toNat : Int) ≥ 48) = false := by simp; omega
        have e3 : ((s[k].toNat : Int) != 45) = true := by simp; omega
        have e4 : ((s[k].toNat : Int) != 46) = false := by simp; omega
        clear hj g
        go_wp2
        go_roundw
        case rel => exact ⟨k + 1, by omega, by go_num, trivial, hnew⟩
        case measure => simp [intOf]; omega
      · have hnew := rbar_more hlt hj (by unfold rbarN; omega)
        have e0 : decide ((s[k].toNat : Int) ≥ 97) = false := by simp; omega
        have e1 : ((k : Int) == 0) = false := by simp; omega
        have e2 : decide ((s[k].toNat : Int) ≥ 48) = false := by simp; omega
        have e3 : ((s[k].toNat : Int) != 45) = false := by simp; omega
        clear hj g
        go_wp2
        go_roundw
        case rel => exact ⟨k + 1, by omega, by go_num, trivial, hnew⟩
        case measure => simp [intOf]; omega
      · have hv : Hid (validP s.toList = false) := rbar_fit s k hlt ((rbar_iff _ _).2 (by unfold rbarN; omega))
        have e0 : decide ((s[k].toNat : Int) ≥ 97) = false := by simp; omega
        have e1 : ((k : Int) == 0) = false := by simp; omega
        have e2 : decide ((s[k].toNat : Int) ≥ 48) = false := by simp; omega
        have e3 : ((s[k].toNat : Int) != 45) = true := by simp; omega
        have e4 : ((s[k].toNat : Int) != 46) = true := by simp; omega
        have e5 : ((s[k].toNat : Int) != 95) = true := by simp; omega
        clear hj g
        go_wp2
        go_ret
        exact ⟨congrArg (fun b => Ending.returned (.bool b)) hv.out.symm, Kept.refl _ _⟩
    · have hv : Hid (validP s.toList = (decide (1 ≤ s.size) && decide (s.size ≤ 60))) := rbar_none_fit s fun i hi => hj i hi (by omega)
      by_cases h1 : 1 ≤ s.size
      · have e1 : decide ((s.size : Int) ≥ 1) = true := by simp; omega
        go_wp2
        go_ret
        refine ⟨congrArg (fun b => Ending.returned (.bool b)) ?_, Kept.refl _ _⟩
        rw [hv.out, decide_eq_true h1, Bool.true_and, Bool.eq_iff_iff]
        simp
        omega
      · have e1 : decide ((s.size : Int) ≥ 1) = false := by simp; omega
        go_wp2
        go_ret
        refine ⟨congrArg (fun b => Ending.returned (.bool b)) ?_, Kept.refl _ _⟩
        rw [hv.out, decide_eq_false h1, Bool.false_and]
end Go.Proofs.Ytcmfkodmppneoaa
