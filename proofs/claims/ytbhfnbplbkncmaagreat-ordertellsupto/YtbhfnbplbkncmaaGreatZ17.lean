/-
  The document's own among, Void, Valid, Writable, has.
  The document's own element, may, Sound.
-/
import Derived.Test.YtbhfnbplbkncmaaGreatZ09
import Derived.Test.YtbhfnbplbkncmaaGreatZ01
import Derived.Test.YtbhfnbplbkncmaaGreatZ02
import Derived.Test.YtbhfnbplbkncmaaGreatZ04
import Derived.Deep.QuietTactic
import Derived.BigQuiet
import Derived.Deep.LoopGhost
import Derived.Deep.DeepCutAuto
import Derived.Deep.CutBlock
import Derived.Deep.Cut
import Derived.Deep.RegionWith
import Derived.Deep.RegionHeld3
import Derived.Deep.RegionLaw
import Derived.Lib.QuietBelow
namespace Go.Proofs.YtbhfnbplbkncmaaGreat
open Go.RowKit


/-- What is left to be answered at a place. -/
def amLeft (t l : List UInt8) (fr i : Nat) : Bool := (wordsP ((t.take i).drop fr) (t.drop i)).any (· == l) && l != []

theorem amLeft_zero (t l : List UInt8) : amLeft t l 0 0 = amongP t l := by simp [amLeft, amongP]
theorem amLeft_end (t l : List UInt8) (fr : Nat) : amLeft t l fr t.length = ((t.drop fr == l) && l != []) := by simp [amLeft, wordsP]
theorem amLeft_blank {t : List UInt8} (l : List UInt8) (fr : Nat) {i : Nat} (hi : i < t.length) (hb : t[i] = 32) : amLeft t l fr i = ((((t.take i).drop fr == l) && l != []) || amLeft t l (i + 1) (i + 1)) := by
  unfold amLeft
  rw [List.drop_eq_getElem_cons hi, wordsP, if_pos hb, List.any_cons]
  have : (t.take (i + 1)).drop (i + 1) = [] := by simp
  rw [this]
  cases (l != []) <;> simp
theorem amLeft_step {t : List UInt8} (l : List UInt8) {fr i : Nat} (hf : fr ≤ i) (hi : i < t.length) (hb : ¬ t[i] = 32) : amLeft t l fr i = amLeft t l fr (i + 1) := by
  unfold amLeft
  rw [List.drop_eq_getElem_cons hi, wordsP, if_neg hb, List.take_succ_eq_append_getElem hi, List.drop_append_of_le_length (by simp; omega)]

theorem extract_listT (t : ByteArray) (a b : Nat) : (t.extract a b).toList = (t.data.toList.take b).drop a := by
  rw [ByteArray.toList_eq, ByteArray.data_extract, Array.toList_extract, List.extract_eq_take_drop, List.drop_take]
theorem nonempty_bne (l : List UInt8) : (l != []) = !l.isEmpty := by cases l <;> rfl

set_option maxRecDepth 20000 in
set_option maxHeartbeats 1000000 in
theorem among_any (t s : ByteArray) (K : Nat → Prop) (w : World) (ht : t.size < 1000) :
    Calls Tryz.prog 116 #[.string t, .string s] w fun e w' => e = .returned (.bool (amongP t.data.toList s.toList)) ∧ Kept K w w' := by
  rw [← amLeft_zero]
  obtain ⟨A, hA⟩ : ∃ A, amLeft t.data.toList s.toList 0 0 = A := ⟨_, rfl⟩
  rw [hA]
  have hlen : t.data.toList.length = t.size := rfl
  go_enter Tryz.func116, Tryz.ntmps116
  go_wp2_with fail
  go_loopw [5, 6, 7, 8, 9, 10, 11, 12, 13, 14, 15, 16, 17, 18, 19, 20, 21, 22, 23, 24, 25, 26, 27, 28, 29, 30, 31, 32, 33, 34] (fun f i _ _ _ _ _ _ _ _ _ _ _ _ _ _ _ _ _ _ _ _ _ _ _ _ _ _ _ _ wr => ∃ fr k : Nat, ((fr ≤ k ∧ k ≤ t.size ∧ Hid (amLeft t.data.toList s.toList fr k = A)) ∨ (k = t.size + 1 ∧ A = false)) ∧ f = .int .i64 fr ∧ i = .int .i64 k ∧ wr = w) (fun _ i _ _ _ _ _ _ _ _ _ _ _ _ _ _ _ _ _ _ _ _ _ _ _ _ _ _ _ _ _ => t.size + 1 - (intOf i).toNat)
  case atStart => exact ⟨0, 0, .inl ⟨Nat.le_refl _, Nat.zero_le _, hA⟩, rfl, rfl, rfl⟩
  case round =>
    clear hA
    obtain ⟨fr, k, hk, rfl, rfl, rfl⟩ := hrel
    rcases hk with ⟨hf, hk, HA⟩ | ⟨rfl, rfl⟩
    · have hx := extract_listT t fr k
      by_cases hm : ((t.extract fr k).toList = s.toList ∧ s.toList.isEmpty = false)
      · obtain ⟨m1, m2⟩ := hm
        have m3 : ((t.extract fr k).toList == s.toList) = true := by simpa using m1
        have hw : (((t.data.toList.take k).drop fr == s.toList) && s.toList != []) = true := by
          rw [nonempty_bne, m2, ← hx, m3]
          rfl
        by_cases he : k = t.size
        · have hA : A = true := by
            rw [← HA.out, he, ← hlen, amLeft_end, ← hw, he, ← hlen, List.take_length]
          subst hA
          subst he
          clear hw HA hx m1
          go_wp2
          go_ret
          exact ⟨rfl, Kept.refl _ _⟩
        · have hlt : k < t.size := by omega
          have e1 : ((k : Int) == (t.size : Int)) = false := by simp; omega
          have hl' : k < t.data.toList.length := by omega
          by_cases hb : t[k].toNat = 32
          · have e2 : ((t[k].toNat : Int) == 32) = true := by simp; omega
            have hb' : t.data.toList[k] = 32 := UInt8.toNat_inj.1 hb
            have hA : A = true := by
              rw [← HA.out, amLeft_blank s.toList fr hl' hb', hw]
              rfl
            subst hA
            clear hw HA hx m1 he hb hb'
            go_wp2
            go_ret
            exact ⟨rfl, Kept.refl _ _⟩
          · have e2 : ((t[k].toNat : Int) == 32) = false := by simp; omega
            have hb' : ¬ t.data.toList[k] = 32 := fun h => hb (congrArg UInt8.toNat h)
            have HA' : Hid (amLeft t.data.toList s.toList fr (k + 1) = A) := by rw [← HA.out]; exact (amLeft_step s.toList hf hl' hb').symm
            clear hw HA hx m1 he hb hb' m3 m2
            go_wp2
            go_roundw
            case rel => exact ⟨fr, k + 1, .inl ⟨by omega, by omega, HA'⟩, rfl, by go_num, trivial⟩
            case measure => simp [intOf]; omega
      · have hw : (((t.data.toList.take k).drop fr == s.toList) && s.toList != []) = false := by
          rw [nonempty_bne, ← hx, Bool.eq_false_iff]
          intro h
          simp at h
          exact hm ⟨h.1, by simpa using h.2⟩
        by_cases he : k = t.size
        · have hA : A = false := by
            rw [← HA.out, he, ← hlen, amLeft_end, ← hw, he, ← hlen, List.take_length]
          subst hA
          subst he
          clear hw HA hx
          by_cases m1 : (t.extract fr t.size).toList = s.toList
          · have m2 : s.toList.isEmpty = true := by
              cases h : s.toList.isEmpty
              · exact absurd ⟨m1, h⟩ hm
              · rfl
            have m3 : ((t.extract fr t.size).toList == s.toList) = true := by simpa using m1
            clear m1 hm
            go_wp2
            go_roundw
            case rel => exact ⟨t.size + 1, t.size + 1, .inr ⟨rfl, trivial⟩, by go_num, by go_num, trivial⟩
            case measure => simp [intOf]
          · have m3 : ((t.extract fr t.size).toList == s.toList) = false := by simpa using m1
            clear m1 hm
            go_wp2
            go_roundw
            case rel => exact ⟨t.size + 1, t.size + 1, .inr ⟨rfl, trivial⟩, by go_num, by go_num, trivial⟩
            case measure => simp [intOf]
        · have hlt : k < t.size := by omega
          have e1 : ((k : Int) == (t.size : Int)) = false := by simp; omega
          have hl' : k < t.data.toList.length := by omega
          by_cases hb : t[k].toNat = 32
          · have e2 : ((t[k].toNat : Int) == 32) = true := by simp; omega
            have hb' : t.data.toList[k] = 32 := UInt8.toNat_inj.1 hb
            have HA' : Hid (amLeft t.data.toList s.toList (k + 1) (k + 1) = A) := by
              show _ = _
              rw [← HA.out, amLeft_blank s.toList fr hl' hb', hw]
              rfl
            clear hw HA hx he hb hb'
            by_cases m1 : (t.extract fr k).toList = s.toList
            · have m2 : s.toList.isEmpty = true := by
                cases h : s.toList.isEmpty
                · exact absurd ⟨m1, h⟩ hm
                · rfl
              have m3 : ((t.extract fr k).toList == s.toList) = true := by simpa using m1
              clear m1 hm
              go_wp2
              go_roundw
              case rel => exact ⟨k + 1, k + 1, .inl ⟨Nat.le_refl _, by omega, HA'⟩, by go_num, by go_num, trivial⟩
              case measure => simp [intOf]; omega
            · have m3 : ((t.extract fr k).toList == s.toList) = false := by simpa using m1
              clear m1 hm
              go_wp2
              go_roundw
              case rel => exact ⟨k + 1, k + 1, .inl ⟨Nat.le_refl _, by omega, HA'⟩, by go_num, by go_num, trivial⟩
              case measure => simp [intOf]; omega
          · have e2 : ((t[k].toNat : Int) == 32) = false := by simp; omega
            have hb' : ¬ t.data.toList[k] = 32 := fun h => hb (congrArg UInt8.toNat h)
            have HA' : Hid (amLeft t.data.toList s.toList fr (k + 1) = A) := by rw [← HA.out]; exact (amLeft_step s.toList hf hl' hb').symm
            clear hw HA hx he hb hb' hm
            go_wp2
            go_roundw
            case rel => exact ⟨fr, k + 1, .inl ⟨by omega, by omega, HA'⟩, rfl, by go_num, trivial⟩
            case measure => simp [intOf]; omega
    · have e1 : decide (((t.size + 1 : Nat) : Int) ≤ (t.size : Int)) = false := by simp; omega
      go_wp2
      go_ret
      exact ⟨rfl, Kept.refl _ _⟩


theorem rvoid_any (s : ByteArray) (K : Nat → Prop) (w : World) :
    Calls Tryz.prog 182 #[.string s] w fun e w' => e = .returned (.bool (voidP s.toList)) ∧ Kept K w w' := by
  have h1 := fun X => among_any voidT s K X (by decide +kernel)
  rw [among_void] at h1
  go_enter Tryz.func182, Tryz.ntmps182
  go_wp2_with fail
  refine (h1 _).mono ?_
  rintro e w1 ⟨rfl, hk1⟩
  go_wp2
  go_ret
  exact ⟨rfl, hk1⟩


/-- What the document's own Valid bars at a place. -/
def rbar (c : UInt8) (i : Nat) : Bool := !smallP c && (i == 0 || !innerP c)
def rbarN (n i : Nat) : Prop := (n < 97 ∨ 122 < n) ∧ (i = 0 ∨ ((n < 48 ∨ 57 < n) ∧ n ≠ 45 ∧ n ≠ 46 ∧ n ≠ 95))
theorem rbar_iff (c : UInt8) (i : Nat) : rbar c i = true ↔ rbarN c.toNat i := by
  unfold rbar rbarN smallP innerP
  simp
  omega
theorem rbar_fit (s : ByteArray) (i : Nat) (hi : i < s.size) (h : rbar s[i] i = true) : validP s.toList = false := by
  have : barP s i = true := by unfold barP; rw [dif_pos hi]; exact h
  simp [validP, bar_fit s i hi this]
theorem rbar_none_fit (s : ByteArray) (h : ∀ i (hi : i < s.size), rbar s[i] i = false) : validP s.toList = (decide (1 ≤ s.size) && decide (s.size ≤ 60)) := by
  have hf := bar_none_fit s fun i hi => by unfold barP; rw [dif_pos hi]; exact h i hi
  have hl : s.toList.length = s.size := by rw [ByteArray.toList_eq]; rfl
  rw [validP, hl, hf, Bool.and_true]

theorem rbar_more {s : ByteArray} {k : Nat} (hk : k < s.size) (hj : ∀ j (hj : j < s.size), j < k → rbar s[j] j = false) (hb : ¬ rbarN s[k].toNat k) : ∀ j (hj : j < s.size), j < k + 1 → rbar s[j] j = false := by
  intro j hjs hjk
  rcases Nat.lt_succ_iff_lt_or_eq.1 hjk with h | rfl
  · exact hj j hjs h
  · cases h : rbar s[j] j
    · rfl
    · exact absurd ((rbar_iff _ _).1 h) hb

set_option maxRecDepth 20000 in
set_option maxHeartbeats 1000000 in
theorem rvalid_any (s : ByteArray) (K : Nat → Prop) (w : World) (h300 : s.size < 1000000) :
    Calls Tryz.prog 171 #[.string s] w fun e w' => e = .returned (.bool (validP s.toList)) ∧ Kept K w w' := by
  go_enter Tryz.func171, Tryz.ntmps171
  go_wp2_with fail
  go_loopw [2, 3, 4, 5, 6, 7, 8, 9, 10, 11, 12, 13, 14, 15, 16, 17, 18, 19, 20, 21, 22, 23, 24, 25, 26, 27, 28, 29, 30, 31, 32, 33, 34, 35, 36, 37, 38, 39, 40, 41, 42, 43, 44, 45, 46, 47] (fun r i _ _ _ _ _ _ _ _ _ _ _ _ _ _ _ _ _ _ _ _ _ _ _ _ _ _ _ _ _ _ _ _ _ _ _ _ _ _ _ _ _ _ _ _ wr => ∃ k : Nat, k ≤ s.size ∧ i = .int .i64 k ∧ wr = w ∧ ∀ j (hj : j < s.size), j < k → rbar s[j] j = false) (fun _ i _ _ _ _ _ _ _ _ _ _ _ _ _ _ _ _ _ _ _ _ _ _ _ _ _ _ _ _ _ _ _ _ _ _ _ _ _ _ _ _ _ _ _ _ _ => s.size - (intOf i).toNat)
  case atStart => exact ⟨0, Nat.zero_le _, rfl, rfl, fun j _ hj => absurd hj (Nat.not_lt_zero _)⟩
  case round =>
    obtain ⟨k, hk, rfl, rfl, hj⟩ := hrel
    by_cases hlt : k < s.size
    · have cls : (97 ≤ s[k].toNat ∧ s[k].toNat ≤ 122) ∨ (122 < s[k].toNat ∧ k = 0) ∨ (s[k].toNat < 97 ∧ k = 0) ∨ (122 < s[k].toNat ∧ k ≠ 0) ∨ (57 < s[k].toNat ∧ s[k].toNat < 97 ∧ s[k].toNat ≠ 95 ∧ k ≠ 0) ∨ (s[k].toNat = 95 ∧ k ≠ 0) ∨ (48 ≤ s[k].toNat ∧ s[k].toNat ≤ 57 ∧ k ≠ 0) ∨ (s[k].toNat = 46 ∧ k ≠ 0) ∨ (s[k].toNat = 45 ∧ k ≠ 0) ∨ (s[k].toNat < 48 ∧ s[k].toNat ≠ 45 ∧ s[k].toNat ≠ 46 ∧ k ≠ 0) := by omega
      rcases cls with g | g | g | g | g | g | g | g | g | g
      · have hnew := rbar_more hlt hj (by unfold rbarN; omega)
        have e0 : decide ((s[k].toNat : Int) ≥ 97) = true := by simp; omega
        have e1 : decide ((s[k].toNat : Int) ≤ 122) = true := by simp; omega
        clear hj g
        go_wp2
        go_roundw
        case rel => exact ⟨k + 1, by omega, by go_num, trivial, hnew⟩
        case measure => simp [intOf]; omega
      · have hv : Hid (validP s.toList = false) := rbar_fit s k hlt ((rbar_iff _ _).2 (by unfold rbarN; omega))
        have e0 : decide ((s[k].toNat : Int) ≥ 97) = true := by simp; omega
        have e1 : decide ((s[k].toNat : Int) ≤ 122) = false := by simp; omega
        have e2 : ((k : Int) == 0) = true := by simp; omega
        clear hj g
        go_wp2
        go_ret
        exact ⟨congrArg (fun b => Ending.returned (.bool b)) hv.out.symm, Kept.refl _ _⟩
      · have hv : Hid (validP s.toList = false) := rbar_fit s k hlt ((rbar_iff _ _).2 (by unfold rbarN; omega))
        have e0 : decide ((s[k].toNat : Int) ≥ 97) = false := by simp; omega
        have e1 : ((k : Int) == 0) = true := by simp; omega
        clear hj g
        go_wp2
        go_ret
        exact ⟨congrArg (fun b => Ending.returned (.bool b)) hv.out.symm, Kept.refl _ _⟩
      · have hv : Hid (validP s.toList = false) := rbar_fit s k hlt ((rbar_iff _ _).2 (by unfold rbarN; omega))
        have e0 : decide ((s[k].toNat : Int) ≥ 97) = true := by simp; omega
        have e1 : decide ((s[k].toNat : Int) ≤ 122) = false := by simp; omega
        have e2 : ((k : Int) == 0) = false := by simp; omega
        have e3 : decide ((s[k].toNat : Int) ≥ 48) = true := by simp; omega
        have e4 : decide ((s[k].toNat : Int) ≤ 57) = false := by simp; omega
        have e5 : ((s[k].toNat : Int) != 45) = true := by simp; omega
        have e6 : ((s[k].toNat : Int) != 46) = true := by simp; omega
        have e7 : ((s[k].toNat : Int) != 95) = true := by simp; omega
        clear hj g
        go_wp2
        go_ret
        exact ⟨congrArg (fun b => Ending.returned (.bool b)) hv.out.symm, Kept.refl _ _⟩
      · have hv : Hid (validP s.toList = false) := rbar_fit s k hlt ((rbar_iff _ _).2 (by unfold rbarN; omega))
        have e0 : decide ((s[k].toNat : Int) ≥ 97) = false := by simp; omega
        have e1 : ((k : Int) == 0) = false := by simp; omega
        have e2 : decide ((s[k].toNat : Int) ≥ 48) = true := by simp; omega
        have e3 : decide ((s[k].toNat : Int) ≤ 57) = false := by simp; omega
        have e4 : ((s[k].toNat : Int) != 45) = true := by simp; omega
        have e5 : ((s[k].toNat : Int) != 46) = true := by simp; omega
        have e6 : ((s[k].toNat : Int) != 95) = true := by simp; omega
        clear hj g
        go_wp2
        go_ret
        exact ⟨congrArg (fun b => Ending.returned (.bool b)) hv.out.symm, Kept.refl _ _⟩
      · have hnew := rbar_more hlt hj (by unfold rbarN; omega)
        have e0 : decide ((s[k].toNat : Int) ≥ 97) = false := by simp; omega
        have e1 : ((k : Int) == 0) = false := by simp; omega
        have e2 : decide ((s[k].toNat : Int) ≥ 48) = true := by simp; omega
        have e3 : decide ((s[k].toNat : Int) ≤ 57) = false := by simp; omega
        have e4 : ((s[k].toNat : Int) != 45) = true := by simp; omega
        have e5 : ((s[k].toNat : Int) != 46) = true := by simp; omega
        have e6 : ((s[k].toNat : Int) != 95) = false := by simp; omega
        clear hj g
        go_wp2
        go_roundw
        case rel => exact ⟨k + 1, by omega, by go_num, trivial, hnew⟩
        case measure => simp [intOf]; omega
      · have hnew := rbar_more hlt hj (by unfold rbarN; omega)
        have e0 : decide ((s[k].toNat : Int) ≥ 97) = false := by simp; omega
        have e1 : ((k : Int) == 0) = false := by simp; omega
        have e2 : decide ((s[k].toNat : Int) ≥ 48) = true := by simp; omega
        have e3 : decide ((s[k].toNat : Int) ≤ 57) = true := by simp; omega
        clear hj g
        go_wp2
        go_roundw
        case rel => exact ⟨k + 1, by omega, by go_num, trivial, hnew⟩
        case measure => simp [intOf]; omega
      · have hnew := rbar_more hlt hj (by unfold rbarN; omega)
        have e0 : decide ((s[k].toNat : Int) ≥ 97) = false := by simp; omega
        have e1 : ((k : Int) == 0) = false := by simp; omega
        have e2 : decide ((s[k].toNat : Int) ≥ 48) = false := by simp; omega
        have e3 : ((s[k].toNat : Int) != 45) = true := by simp; omega
        have e4 : ((s[k].toNat : Int) != 46) = false := by simp; omega
        clear hj g
        go_wp2
        go_roundw
        case rel => exact ⟨k + 1, by omega, by go_num, trivial, hnew⟩
        case measure => simp [intOf]; omega
      · have hnew := rbar_more hlt hj (by unfold rbarN; omega)
        have e0 : decide ((s[k].toNat : Int) ≥ 97) = false := by simp; omega
        have e1 : ((k : Int) == 0) = false := by simp; omega
        have e2 : decide ((s[k].toNat : Int) ≥ 48) = false := by simp; omega
        have e3 : ((s[k].toNat : Int) != 45) = false := by simp; omega
        clear hj g
        go_wp2
        go_roundw
        case rel => exact ⟨k + 1, by omega, by go_num, trivial, hnew⟩
        case measure => simp [intOf]; omega
      · have hv : Hid (validP s.toList = false) := rbar_fit s k hlt ((rbar_iff _ _).2 (by unfold rbarN; omega))
        have e0 : decide ((s[k].toNat : Int) ≥ 97) = false := by simp; omega
        have e1 : ((k : Int) == 0) = false := by simp; omega
        have e2 : decide ((s[k].toNat : Int) ≥ 48) = false := by simp; omega
        have e3 : ((s[k].toNat : Int) != 45) = true := by simp; omega
        have e4 : ((s[k].toNat : Int) != 46) = true := by simp; omega
        have e5 : ((s[k].toNat : Int) != 95) = true := by simp; omega
        clear hj g
        go_wp2
        go_ret
        exact ⟨congrArg (fun b => Ending.returned (.bool b)) hv.out.symm, Kept.refl _ _⟩
    · have hv : Hid (validP s.toList = (decide (1 ≤ s.size) && decide (s.size ≤ 60))) := rbar_none_fit s fun i hi => hj i hi (by omega)
      by_cases h1 : 1 ≤ s.size
      · have e1 : decide ((s.size : Int) ≥ 1) = true := by simp; omega
        go_wp2
        go_ret
        refine ⟨congrArg (fun b => Ending.returned (.bool b)) ?_, Kept.refl _ _⟩
        rw [hv.out, decide_eq_true h1, Bool.true_and, Bool.eq_iff_iff]
        simp
        omega
      · have e1 : decide ((s.size : Int) ≥ 1) = false := by simp; omega
        go_wp2
        go_ret
        refine ⟨congrArg (fun b => Ending.returned (.bool b)) ?_, Kept.refl _ _⟩
        rw [hv.out, decide_eq_false h1, Bool.false_and]


theorem writ_no {N V : ByteArray} {k : Nat} (hk : k < N.size) (h : barB N[k] = true) : writP ⟨N.data.toList, V.data.toList⟩ = false := by
  have hm : N[k] ∈ N.data.toList := List.getElem_mem (l := N.data.toList) (n := k) hk
  have : (N.data.toList.all fun c => !barB c) = false := by
    apply Bool.eq_false_iff.2
    intro ha
    have := List.all_eq_true.1 ha _ hm
    rw [h] at this
    cases this
  unfold writP
  simp only [this, Bool.and_false, Bool.false_and]
theorem writ_yes {N V : ByteArray} (h : ∀ j (hj : j < N.size), barB N[j] = false) : writP ⟨N.data.toList, V.data.toList⟩ = (decide (1 ≤ N.size) && decide (N.size ≤ 60) && decide (V.size ≤ 2000)) := by
  have : (N.data.toList.all fun c => !barB c) = true := by
    apply List.all_eq_true.2
    intro c hc
    obtain ⟨j, hj, rfl⟩ := List.getElem_of_mem hc
    have := h j hj
    show (!barB N[j]) = true
    rw [this]
    rfl
  unfold writP
  simp only [this, Bool.and_true]
  rfl

set_option maxRecDepth 20000 in
set_option maxHeartbeats 4000000 in
theorem rwritable_any (N V : ByteArray) (hN : N.size < 1000000) (K : Nat → Prop) (w : World) (hK : ∀ k, K k → k < w.heap.size) :
    Calls Tryz.prog 159 #[.agg #[.string N, .string V]] w fun e w' => e = .returned (.bool (writP ⟨N.data.toList, V.data.toList⟩)) ∧ Kept K w w' := by
  obtain ⟨M, hM⟩ : ∃ M, w.heap.size = M := ⟨_, rfl⟩
  obtain ⟨W, hW⟩ : ∃ W, w.alloc (.cells #[.string N, .string V] 140) = W := ⟨_, rfl⟩
  have HKW : Hid (Kept K w W) := by show Kept K w W; rw [← hW]; exact (Kept.refl K w).alloc hK _
  have b0 : W.heap[M]? = some (.cells #[.string N, .string V] 140 (0, 0)) := by rw [← hW, ← hM]; exact heap_alloc_new w _
  have c0 : W.cell? ⟨M, 0, none⟩ = some (.string N) := by rw [cell_block b0]; rfl
  have c1 : W.cell? ⟨M, 1, none⟩ = some (.string V) := by rw [cell_block b0]; rfl
  have HF : Hid (∀ k (hk : k < N.size), barB N[k] = true → writP ⟨N.data.toList, V.data.toList⟩ = false) := fun k hk h => writ_no hk h
  have HT : Hid ((∀ j (hj : j < N.size), barB N[j] = false) → writP ⟨N.data.toList, V.data.toList⟩ = (decide (1 ≤ N.size) && decide (N.size ≤ 60) && decide (V.size ≤ 2000))) := fun h => writ_yes h
  have HW : Hid (w.alloc (.cells #[.string N, .string V] 140) = W) := hW
  have HM : Hid (w.heap.size = M) := hM
  clear hW b0 hK hM
  go_enter Tryz.func159, Tryz.ntmps159
  go_upto_region 1 with fail
  rw [HW.out, HM.out]
  clear HW HM
  go_wp2_with fail
  go_loopg [3] N.size (fun g v wr => ∃ k : Nat, g = N.size - k ∧ k ≤ N.size ∧ v = .int .i64 k ∧ (∀ j (hj : j < N.size), j < k → barB N[j] = false) ∧ wr = W)
  case atStart => exact ⟨0, rfl, Nat.zero_le _, rfl, fun j _ h => absurd h (Nat.not_lt_zero _), rfl⟩
  case round =>
    obtain ⟨k, hgk, hk, rfl, hall, rfl⟩ := hrel
    by_cases hlt : k < N.size
    · have hc256 := (N[k]).toNat_lt
      have cls : (N[k]).toNat = 0 ∨ (1 ≤ (N[k]).toNat ∧ (N[k]).toNat ≤ 8) ∨ (N[k]).toNat = 9 ∨ (N[k]).toNat = 10 ∨ (N[k]).toNat = 11 ∨ (N[k]).toNat = 12 ∨ (13 ≤ (N[k]).toNat ∧ (N[k]).toNat ≤ 31) ∨ (N[k]).toNat = 32 ∨ (33 ≤ (N[k]).toNat ∧ (N[k]).toNat ≤ 46) ∨ (N[k]).toNat = 47 ∨ (48 ≤ (N[k]).toNat ∧ (N[k]).toNat ≤ 60) ∨ (N[k]).toNat = 61 ∨ (N[k]).toNat = 62 ∨ (63 ≤ (N[k]).toNat ∧ (N[k]).toNat ≤ 64) ∨ (65 ≤ (N[k]).toNat ∧ (N[k]).toNat ≤ 90) ∨ 91 ≤ (N[k]).toNat := by omega
      rcases cls with g | g | g | g | g | g | g | g | g | g | g | g | g | g | g | g
      · have e0 : decide (((N[k]).toNat : Int) ≥ 65) = false := by simp; omega
        have e1 : decide (((N[k]).toNat : Int) ≤ 90) = true := by simp; omega
        have e2 : (((N[k]).toNat : Int) == 0) = true := by simp; omega
        have e3 : (((N[k]).toNat : Int) == 32) = false := by simp; omega
        have e4 : (((N[k]).toNat : Int) == 9) = false := by simp; omega
        have e5 : (((N[k]).toNat : Int) == 10) = false := by simp; omega
        have e6 : (((N[k]).toNat : Int) == 12) = false := by simp; omega
        have e7 : (((N[k]).toNat : Int) == 47) = false := by simp; omega
        have e8 : (((N[k]).toNat : Int) == 62) = false := by simp; omega
        have e9 : (((N[k]).toNat : Int) == 61) = false := by simp; omega
        have hbb : barB N[k] = true := by unfold barB; rw [show N[k] = 0 from UInt8.toNat_inj.1 (by show _ = 0; omega)]; rfl
        have HRES : Hid (writP ⟨N.data.toList, V.data.toList⟩ = false) := HF.out k hlt hbb
        clear HF HT hbb hall g
        go_wp2
        go_ret
        exact ⟨by rw [HRES.out]; rfl, HKW.out⟩
      · have e0 : decide (((N[k]).toNat : Int) ≥ 65) = false := by simp; omega
        have e1 : decide (((N[k]).toNat : Int) ≤ 90) = true := by simp; omega
        have e2 : (((N[k]).toNat : Int) == 0) = false := by simp; omega
        have e3 : (((N[k]).toNat : Int) == 32) = false := by simp; omega
        have e4 : (((N[k]).toNat : Int) == 9) = false := by simp; omega
        have e5 : (((N[k]).toNat : Int) == 10) = false := by simp; omega
        have e6 : (((N[k]).toNat : Int) == 12) = false := by simp; omega
        have e7 : (((N[k]).toNat : Int) == 47) = false := by simp; omega
        have e8 : (((N[k]).toNat : Int) == 62) = false := by simp; omega
        have e9 : (((N[k]).toNat : Int) == 61) = false := by simp; omega
        have hbb : barB N[k] = false := by unfold barB; apply Bool.eq_false_iff.2; intro hh; simp at hh; rcases hh with hh | hh | hh | hh | hh | hh | hh | hh | hh <;> first | omega | (have := congrArg UInt8.toNat hh; revert this; simp; omega)
        have HALL : Hid (∀ j (hj : j < N.size), j < k + 1 → barB N[j] = false) := fun j hj hjk => by
          rcases Nat.lt_or_ge j k with h | h
          · exact hall j hj h
          · have : j = k := by omega
            subst this
            exact hbb
        clear HF HT hbb hall g
        go_wp2
        go_roundg (N.size - (k + 1))
        case rel => exact ⟨k + 1, rfl, by omega, by go_num, HALL.out, rfl⟩
        case measure => omega
      · have e0 : decide (((N[k]).toNat : Int) ≥ 65) = false := by simp; omega
        have e1 : decide (((N[k]).toNat : Int) ≤ 90) = true := by simp; omega
        have e2 : (((N[k]).toNat : Int) == 0) = false := by simp; omega
        have e3 : (((N[k]).toNat : Int) == 32) = false := by simp; omega
        have e4 : (((N[k]).toNat : Int) == 9) = true := by simp; omega
        have e5 : (((N[k]).toNat : Int) == 10) = false := by simp; omega
        have e6 : (((N[k]).toNat : Int) == 12) = false := by simp; omega
        have e7 : (((N[k]).toNat : Int) == 47) = false := by simp; omega
        have e8 : (((N[k]).toNat : Int) == 62) = false := by simp; omega
        have e9 : (((N[k]).toNat : Int) == 61) = false := by simp; omega
        have hbb : barB N[k] = true := by unfold barB; rw [show N[k] = 9 from UInt8.toNat_inj.1 (by show _ = 9; omega)]; rfl
        have HRES : Hid (writP ⟨N.data.toList, V.data.toList⟩ = false) := HF.out k hlt hbb
        clear HF HT hbb hall g
        go_wp2
        go_ret
        exact ⟨by rw [HRES.out]; rfl, HKW.out⟩
      · have e0 : decide (((N[k]).toNat : Int) ≥ 65) = false := by simp; omega
        have e1 : decide (((N[k]).toNat : Int) ≤ 90) = true := by simp; omega
        have e2 : (((N[k]).toNat : Int) == 0) = false := by simp; omega
        have e3 : (((N[k]).toNat : Int) == 32) = false := by simp; omega
        have e4 : (((N[k]).toNat : Int) == 9) = false := by simp; omega
        have e5 : (((N[k]).toNat : Int) == 10) = true := by simp; omega
        have e6 : (((N[k]).toNat : Int) == 12) = false := by simp; omega
        have e7 : (((N[k]).toNat : Int) == 47) = false := by simp; omega
        have e8 : (((N[k]).toNat : Int) == 62) = false := by simp; omega
        have e9 : (((N[k]).toNat : Int) == 61) = false := by simp; omega
        have hbb : barB N[k] = true := by unfold barB; rw [show N[k] = 10 from UInt8.toNat_inj.1 (by show _ = 10; omega)]; rfl
        have HRES : Hid (writP ⟨N.data.toList, V.data.toList⟩ = false) := HF.out k hlt hbb
        clear HF HT hbb hall g
        go_wp2
        go_ret
        exact ⟨by rw [HRES.out]; rfl, HKW.out⟩
      · have e0 : decide (((N[k]).toNat : Int) ≥ 65) = false := by simp; omega
        have e1 : decide (((N[k]).toNat : Int) ≤ 90) = true := by simp; omega
        have e2 : (((N[k]).toNat : Int) == 0) = false := by simp; omega
        have e3 : (((N[k]).toNat : Int) == 32) = false := by simp; omega
        have e4 : (((N[k]).toNat : Int) == 9) = false := by simp; omega
        have e5 : (((N[k]).toNat : Int) == 10) = false := by simp; omega
        have e6 : (((N[k]).toNat : Int) == 12) = false := by simp; omega
        have e7 : (((N[k]).toNat : Int) == 47) = false := by simp; omega
        have e8 : (((N[k]).toNat : Int) == 62) = false := by simp; omega
        have e9 : (((N[k]).toNat : Int) == 61) = false := by simp; omega
        have hbb : barB N[k] = false := by unfold barB; apply Bool.eq_false_iff.2; intro hh; simp at hh; rcases hh with hh | hh | hh | hh | hh | hh | hh | hh | hh <;> first | omega | (have := congrArg UInt8.toNat hh; revert this; simp; omega)
        have HALL : Hid (∀ j (hj : j < N.size), j < k + 1 → barB N[j] = false) := fun j hj hjk => by
          rcases Nat.lt_or_ge j k with h | h
          · exact hall j hj h
          · have : j = k := by omega
            subst this
            exact hbb
        clear HF HT hbb hall g
        go_wp2
        go_roundg (N.size - (k + 1))
        case rel => exact ⟨k + 1, rfl, by omega, by go_num, HALL.out, rfl⟩
        case measure => omega
      · have e0 : decide (((N[k]).toNat : Int) ≥ 65) = false := by simp; omega
        have e1 : decide (((N[k]).toNat : Int) ≤ 90) = true := by simp; omega
        have e2 : (((N[k]).toNat : Int) == 0) = false := by simp; omega
        have e3 : (((N[k]).toNat : Int) == 32) = false := by simp; omega
        have e4 : (((N[k]).toNat : Int) == 9) = false := by simp; omega
        have e5 : (((N[k]).toNat : Int) == 10) = false := by simp; omega
        have e6 : (((N[k]).toNat : Int) == 12) = true := by simp; omega
        have e7 : (((N[k]).toNat : Int) == 47) = false := by simp; omega
        have e8 : (((N[k]).toNat : Int) == 62) = false := by simp; omega
        have e9 : (((N[k]).toNat : Int) == 61) = false := by simp; omega
        have hbb : barB N[k] = true := by unfold barB; rw [show N[k] = 12 from UInt8.toNat_inj.1 (by show _ = 12; omega)]; rfl
        have HRES : Hid (writP ⟨N.data.toList, V.data.toList⟩ = false) := HF.out k hlt hbb
        clear HF HT hbb hall g
        go_wp2
        go_ret
        exact ⟨by rw [HRES.out]; rfl, HKW.out⟩
      · have e0 : decide (((N[k]).toNat : Int) ≥ 65) = false := by simp; omega
        have e1 : decide (((N[k]).toNat : Int) ≤ 90) = true := by simp; omega
        have e2 : (((N[k]).toNat : Int) == 0) = false := by simp; omega
        have e3 : (((N[k]).toNat : Int) == 32) = false := by simp; omega
        have e4 : (((N[k]).toNat : Int) == 9) = false := by simp; omega
        have e5 : (((N[k]).toNat : Int) == 10) = false := by simp; omega
        have e6 : (((N[k]).toNat : Int) == 12) = false := by simp; omega
        have e7 : (((N[k]).toNat : Int) == 47) = false := by simp; omega
        have e8 : (((N[k]).toNat : Int) == 62) = false := by simp; omega
        have e9 : (((N[k]).toNat : Int) == 61) = false := by simp; omega
        have hbb : barB N[k] = false := by unfold barB; apply Bool.eq_false_iff.2; intro hh; simp at hh; rcases hh with hh | hh | hh | hh | hh | hh | hh | hh | hh <;> first | omega | (have := congrArg UInt8.toNat hh; revert this; simp; omega)
        have HALL : Hid (∀ j (hj : j < N.size), j < k + 1 → barB N[j] = false) := fun j hj hjk => by
          rcases Nat.lt_or_ge j k with h | h
          · exact hall j hj h
          · have : j = k := by omega
            subst this
            exact hbb
        clear HF HT hbb hall g
        go_wp2
        go_roundg (N.size - (k + 1))
        case rel => exact ⟨k + 1, rfl, by omega, by go_num, HALL.out, rfl⟩
        case measure => omega
      · have e0 : decide (((N[k]).toNat : Int) ≥ 65) = false := by simp; omega
        have e1 : decide (((N[k]).toNat : Int) ≤ 90) = true := by simp; omega
        have e2 : (((N[k]).toNat : Int) == 0) = false := by simp; omega
        have e3 : (((N[k]).toNat : Int) == 32) = true := by simp; omega
        have e4 : (((N[k]).toNat : Int) == 9) = false := by simp; omega
        have e5 : (((N[k]).toNat : Int) == 10) = false := by simp; omega
        have e6 : (((N[k]).toNat : Int) == 12) = false := by simp; omega
        have e7 : (((N[k]).toNat : Int) == 47) = false := by simp; omega
        have e8 : (((N[k]).toNat : Int) == 62) = false := by simp; omega
        have e9 : (((N[k]).toNat : Int) == 61) = false := by simp; omega
        have hbb : barB N[k] = true := by unfold barB; rw [show N[k] = 32 from UInt8.toNat_inj.1 (by show _ = 32; omega)]; rfl
        have HRES : Hid (writP ⟨N.data.toList, V.data.toList⟩ = false) := HF.out k hlt hbb
        clear HF HT hbb hall g
        go_wp2
        go_ret
        exact ⟨by rw [HRES.out]; rfl, HKW.out⟩
      · have e0 : decide (((N[k]).toNat : Int) ≥ 65) = false := by simp; omega
        have e1 : decide (((N[k]).toNat : Int) ≤ 90) = true := by simp; omega
        have e2 : (((N[k]).toNat : Int) == 0) = false := by simp; omega
        have e3 : (((N[k]).toNat : Int) == 32) = false := by simp; omega
        have e4 : (((N[k]).toNat : Int) == 9) = false := by simp; omega
        have e5 : (((N[k]).toNat : Int) == 10) = false := by simp; omega
        have e6 : (((N[k]).toNat : Int) == 12) = false := by simp; omega
        have e7 : (((N[k]).toNat : Int) == 47) = false := by simp; omega
        have e8 : (((N[k]).toNat : Int) == 62) = false := by simp; omega
        have e9 : (((N[k]).toNat : Int) == 61) = false := by simp; omega
        have hbb : barB N[k] = false := by unfold barB; apply Bool.eq_false_iff.2; intro hh; simp at hh; rcases hh with hh | hh | hh | hh | hh | hh | hh | hh | hh <;> first | omega | (have := congrArg UInt8.toNat hh; revert this; simp; omega)
        have HALL : Hid (∀ j (hj : j < N.size), j < k + 1 → barB N[j] = false) := fun j hj hjk => by
          rcases Nat.lt_or_ge j k with h | h
          · exact hall j hj h
          · have : j = k := by omega
            subst this
            exact hbb
        clear HF HT hbb hall g
        go_wp2
        go_roundg (N.size - (k + 1))
        case rel => exact ⟨k + 1, rfl, by omega, by go_num, HALL.out, rfl⟩
        case measure => omega
      · have e0 : decide (((N[k]).toNat : Int) ≥ 65) = false := by simp; omega
        have e1 : decide (((N[k]).toNat : Int) ≤ 90) = true := by simp; omega
        have e2 : (((N[k]).toNat : Int) == 0) = false := by simp; omega
        have e3 : (((N[k]).toNat : Int) == 32) = false := by simp; omega
        have e4 : (((N[k]).toNat : Int) == 9) = false := by simp; omega
        have e5 : (((N[k]).toNat : Int) == 10) = false := by simp; omega
        have e6 : (((N[k]).toNat : Int) == 12) = false := by simp; omega
        have e7 : (((N[k]).toNat : Int) == 47) = true := by simp; omega
        have e8 : (((N[k]).toNat : Int) == 62) = false := by simp; omega
        have e9 : (((N[k]).toNat : Int) == 61) = false := by simp; omega
        have hbb : barB N[k] = true := by unfold barB; rw [show N[k] = 47 from UInt8.toNat_inj.1 (by show _ = 47; omega)]; rfl
        have HRES : Hid (writP ⟨N.data.toList, V.data.toList⟩ = false) := HF.out k hlt hbb
        clear HF HT hbb hall g
        go_wp2
        go_ret
        exact ⟨by rw [HRES.out]; rfl, HKW.out⟩
      · have e0 : decide (((N[k]).toNat : Int) ≥ 65) = false := by simp; omega
        have e1 : decide (((N[k]).toNat : Int) ≤ 90) = true := by simp; omega
        have e2 : (((N[k]).toNat : Int) == 0) = false := by simp; omega
        have e3 : (((N[k]).toNat : Int) == 32) = false := by simp; omega
        have e4 : (((N[k]).toNat : Int) == 9) = false := by simp; omega
        have e5 : (((N[k]).toNat : Int) == 10) = false := by simp; omega
        have e6 : (((N[k]).toNat : Int) == 12) = false := by simp; omega
        have e7 : (((N[k]).toNat : Int) == 47) = false := by simp; omega
        have e8 : (((N[k]).toNat : Int) == 62) = false := by simp; omega
        have e9 : (((N[k]).toNat : Int) == 61) = false := by simp; omega
        have hbb : barB N[k] = false := by unfold barB; apply Bool.eq_false_iff.2; intro hh; simp at hh; rcases hh with hh | hh | hh | hh | hh | hh | hh | hh | hh <;> first | omega | (have := congrArg UInt8.toNat hh; revert this; simp; omega)
        have HALL : Hid (∀ j (hj : j < N.size), j < k + 1 → barB N[j] = false) := fun j hj hjk => by
          rcases Nat.lt_or_ge j k with h | h
          · exact hall j hj h
          · have : j = k := by omega
            subst this
            exact hbb
        clear HF HT hbb hall g
        go_wp2
        go_roundg (N.size - (k + 1))
        case rel => exact ⟨k + 1, rfl, by omega, by go_num, HALL.out, rfl⟩
        case measure => omega
      · have e0 : decide (((N[k]).toNat : Int) ≥ 65) = false := by simp; omega
        have e1 : decide (((N[k]).toNat : Int) ≤ 90) = true := by simp; omega
        have e2 : (((N[k]).toNat : Int) == 0) = false := by simp; omega
        have e3 : (((N[k]).toNat : Int) == 32) = false := by simp; omega
        have e4 : (((N[k]).toNat : Int) == 9) = false := by simp; omega
        have e5 : (((N[k]).toNat : Int) == 10) = false := by simp; omega
        have e6 : (((N[k]).toNat : Int) == 12) = false := by simp; omega
        have e7 : (((N[k]).toNat : Int) == 47) = false := by simp; omega
        have e8 : (((N[k]).toNat : Int) == 62) = false := by simp; omega
        have e9 : (((N[k]).toNat : Int) == 61) = true := by simp; omega
        have hbb : barB N[k] = true := by unfold barB; rw [show N[k] = 61 from UInt8.toNat_inj.1 (by show _ = 61; omega)]; rfl
        have HRES : Hid (writP ⟨N.data.toList, V.data.toList⟩ = false) := HF.out k hlt hbb
        clear HF HT hbb hall g
        go_wp2
        go_ret
        exact ⟨by rw [HRES.out]; rfl, HKW.out⟩
      · have e0 : decide (((N[k]).toNat : Int) ≥ 65) = false := by simp; omega
        have e1 : decide (((N[k]).toNat : Int) ≤ 90) = true := by simp; omega
        have e2 : (((N[k]).toNat : Int) == 0) = false := by simp; omega
        have e3 : (((N[k]).toNat : Int) == 32) = false := by simp; omega
        have e4 : (((N[k]).toNat : Int) == 9) = false := by simp; omega
        have e5 : (((N[k]).toNat : Int) == 10) = false := by simp; omega
        have e6 : (((N[k]).toNat : Int) == 12) = false := by simp; omega
        have e7 : (((N[k]).toNat : Int) == 47) = false := by simp; omega
        have e8 : (((N[k]).toNat : Int) == 62) = true := by simp; omega
        have e9 : (((N[k]).toNat : Int) == 61) = false := by simp; omega
        have hbb : barB N[k] = true := by unfold barB; rw [show N[k] = 62 from UInt8.toNat_inj.1 (by show _ = 62; omega)]; rfl
        have HRES : Hid (writP ⟨N.data.toList, V.data.toList⟩ = false) := HF.out k hlt hbb
        clear HF HT hbb hall g
        go_wp2
        go_ret
        exact ⟨by rw [HRES.out]; rfl, HKW.out⟩
      · have e0 : decide (((N[k]).toNat : Int) ≥ 65) = false := by simp; omega
        have e1 : decide (((N[k]).toNat : Int) ≤ 90) = true := by simp; omega
        have e2 : (((N[k]).toNat : Int) == 0) = false := by simp; omega
        have e3 : (((N[k]).toNat : Int) == 32) = false := by simp; omega
        have e4 : (((N[k]).toNat : Int) == 9) = false := by simp; omega
        have e5 : (((N[k]).toNat : Int) == 10) = false := by simp; omega
        have e6 : (((N[k]).toNat : Int) == 12) = false := by simp; omega
        have e7 : (((N[k]).toNat : Int) == 47) = false := by simp; omega
        have e8 : (((N[k]).toNat : Int) == 62) = false := by simp; omega
        have e9 : (((N[k]).toNat : Int) == 61) = false := by simp; omega
        have hbb : barB N[k] = false := by unfold barB; apply Bool.eq_false_iff.2; intro hh; simp at hh; rcases hh with hh | hh | hh | hh | hh | hh | hh | hh | hh <;> first | omega | (have := congrArg UInt8.toNat hh; revert this; simp; omega)
        have HALL : Hid (∀ j (hj : j < N.size), j < k + 1 → barB N[j] = false) := fun j hj hjk => by
          rcases Nat.lt_or_ge j k with h | h
          · exact hall j hj h
          · have : j = k := by omega
            subst this
            exact hbb
        clear HF HT hbb hall g
        go_wp2
        go_roundg (N.size - (k + 1))
        case rel => exact ⟨k + 1, rfl, by omega, by go_num, HALL.out, rfl⟩
        case measure => omega
      · have e0 : decide (((N[k]).toNat : Int) ≥ 65) = true := by simp; omega
        have e1 : decide (((N[k]).toNat : Int) ≤ 90) = true := by simp; omega
        have e2 : (((N[k]).toNat : Int) == 0) = false := by simp; omega
        have e3 : (((N[k]).toNat : Int) == 32) = false := by simp; omega
        have e4 : (((N[k]).toNat : Int) == 9) = false := by simp; omega
        have e5 : (((N[k]).toNat : Int) == 10) = false := by simp; omega
        have e6 : (((N[k]).toNat : Int) == 12) = false := by simp; omega
        have e7 : (((N[k]).toNat : Int) == 47) = false := by simp; omega
        have e8 : (((N[k]).toNat : Int) == 62) = false := by simp; omega
        have e9 : (((N[k]).toNat : Int) == 61) = false := by simp; omega
        have hbb : barB N[k] = true := by unfold barB; simp; omega
        have HRES : Hid (writP ⟨N.data.toList, V.data.toList⟩ = false) := HF.out k hlt hbb
        clear HF HT hbb hall g
        go_wp2
        go_ret
        exact ⟨by rw [HRES.out]; rfl, HKW.out⟩
      · have e0 : decide (((N[k]).toNat : Int) ≥ 65) = true := by simp; omega
        have e1 : decide (((N[k]).toNat : Int) ≤ 90) = false := by simp; omega
        have e2 : (((N[k]).toNat : Int) == 0) = false := by simp; omega
        have e3 : (((N[k]).toNat : Int) == 32) = false := by simp; omega
        have e4 : (((N[k]).toNat : Int) == 9) = false := by simp; omega
        have e5 : (((N[k]).toNat : Int) == 10) = false := by simp; omega
        have e6 : (((N[k]).toNat : Int) == 12) = false := by simp; omega
        have e7 : (((N[k]).toNat : Int) == 47) = false := by simp; omega
        have e8 : (((N[k]).toNat : Int) == 62) = false := by simp; omega
        have e9 : (((N[k]).toNat : Int) == 61) = false := by simp; omega
        have hbb : barB N[k] = false := by unfold barB; apply Bool.eq_false_iff.2; intro hh; simp at hh; rcases hh with hh | hh | hh | hh | hh | hh | hh | hh | hh <;> first | omega | (have := congrArg UInt8.toNat hh; revert this; simp; omega)
        have HALL : Hid (∀ j (hj : j < N.size), j < k + 1 → barB N[j] = false) := fun j hj hjk => by
          rcases Nat.lt_or_ge j k with h | h
          · exact hall j hj h
          · have : j = k := by omega
            subst this
            exact hbb
        clear HF HT hbb hall g
        go_wp2
        go_roundg (N.size - (k + 1))
        case rel => exact ⟨k + 1, rfl, by omega, by go_num, HALL.out, rfl⟩
        case measure => omega
    · have hkk : k = N.size := by omega
      subst hkk
      have HR : Hid (writP ⟨N.data.toList, V.data.toList⟩ = (decide (1 ≤ N.size) && decide (N.size ≤ 60) && decide (V.size ≤ 2000))) := HT.out fun j hj => hall j hj hj
      clear HF HT hall
      by_cases h1 : 1 ≤ N.size
      · have f1 : decide ((N.size : Int) ≥ 1) = true := decide_eq_true (by omega)
        by_cases h2 : N.size ≤ 60
        · have f2 : decide ((N.size : Int) ≤ 60) = true := decide_eq_true (by omega)
          by_cases h3 : V.size ≤ 2000
          · have f3 : decide ((V.size : Int) ≤ 2000) = true := decide_eq_true (by omega)
            go_wp2
            go_ret
            exact ⟨by rw [HR.out]; simp [h1, h2, h3]; try rfl, HKW.out⟩
          · have f3 : decide ((V.size : Int) ≤ 2000) = false := decide_eq_false (by omega)
            go_wp2
            go_ret
            exact ⟨by rw [HR.out]; simp [h1, h2, h3]; try rfl, HKW.out⟩
        · have f2 : decide ((N.size : Int) ≤ 60) = false := decide_eq_false (by omega)
          go_wp2
          go_ret
          exact ⟨by rw [HR.out]; simp [h1, h2]; try rfl, HKW.out⟩
      · have f1 : decide ((N.size : Int) ≥ 1) = false := decide_eq_false (by omega)
        go_wp2
        go_ret
        exact ⟨by rw [HR.out]; simp [h1]; try rfl, HKW.out⟩


theorem hasN_cons (a : Atr) (l : List Atr) (n : List UInt8) : hasN (a :: l) n = ((a.name == n) || hasN l n) := rfl

set_option maxRecDepth 20000 in
set_option maxHeartbeats 1000000 in
theorem rhas_any (l : List Atr) (aa : Option Addr) (cap : Nat) (s : ByteArray) (hn : l.length ≤ 1000000) (K K' : Nat → Prop) (w : World) (ha : AtsAt K' w aa l) :
    Calls Tryz.prog 209 #[.slice aa l.length cap, .string s] w fun e w' => e = .returned (.bool (hasN l s.data.toList)) ∧ Kept K w w' := by
  obtain ⟨A, hA⟩ : ∃ A, hasN l s.data.toList = A := ⟨_, rfl⟩
  rw [hA]
  obtain ⟨n, hne⟩ : ∃ n, l.length = n := ⟨_, rfl⟩
  have HA0 : Hid (hasN (l.drop 0) s.data.toList = A) := hA
  have HI : Hid (AtsAt K' w aa l) := ha
  have HN : Hid (l.length = n) := hne
  rw [hne] at hn ⊢
  clear hA ha hne
  go_enter Tryz.func209, Tryz.ntmps209
  go_wp2_with fail
  go_loopg [5] n (fun g v wr => ∃ k : Nat, g = n - k ∧ k ≤ n ∧ v = .int .i64 k ∧ hasN (l.drop k) s.data.toList = A ∧ wr = w)
  case atStart => exact ⟨0, rfl, Nat.zero_le _, rfl, HA0.out, rfl⟩
  case round =>
    clear HA0
    obtain ⟨k, hgk, hk, rfl, HA, rfl⟩ := hrel
    by_cases hlt : k < n
    · have hl : k < l.length := by rw [HN.out]; exact hlt
      obtain ⟨g, o, hg, -, c0, -⟩ := HI.out k hl
      subst hg
      rw [List.drop_eq_getElem_cons hl, hasN_cons] at HA
      obtain ⟨S, hS⟩ : ∃ S : ByteArray, (⟨l[k].name.toArray⟩ : ByteArray) = S := ⟨_, rfl⟩
      replace c0 : wr.cell? ⟨g, o + k * 2, none⟩ = some (.string S) := by rw [← hS]; exact c0
      obtain ⟨q, hq⟩ : ∃ q, (S.toList == s.toList) = q := ⟨_, rfl⟩
      have hqe : (l[k].name == s.data.toList) = q := by rw [← hq, ByteArray.toList_eq, ByteArray.toList_eq, ← hS]
      rw [hqe] at HA
      have HA' : Hid ((q || hasN (l.drop (k + 1)) s.data.toList) = A) := HA
      clear HA hqe hS HI HN hl
      cases q with
      | true =>
        have hA : A = true := HA'.out.symm
        subst hA
        clear HA'
        go_wp2
        go_ret
        exact ⟨rfl, Kept.refl _ _⟩
      | false =>
        go_wp2
        go_roundg (n - (k + 1))
        case rel => exact ⟨k + 1, rfl, by omega, by go_num, HA'.out, rfl⟩
        case measure => omega
    · have hkk : k = n := by omega
      subst hkk
      have hA : A = false := by rw [← HA, List.drop_eq_nil_of_le (by rw [HN.out]; exact Nat.le_refl _)]; rfl
      subst hA
      clear HA HI HN
      go_wp2
      go_ret
      exact ⟨rfl, Kept.refl _ _⟩
end Go.Proofs.YtbhfnbplbkncmaaGreat

namespace Go.Proofs.YtbhfnbplbkncmaaGreat
open Go.RowKit Go.Sort
set_option linter.unusedVariables false

theorem hasN_mem (l : List Atr) (n : List UInt8) : hasN l n = (l.map fun x => x.name).contains n := by
  induction l with
  | nil => rfl
  | cons a r ih =>
    rw [hasN_cons, ih, List.map_cons, List.contains_cons]
    congr 1
    exact Bool.beq_comm
theorem ahead_has (l : List Atr) (k : Nat) (n : List UInt8) : hasN (l.take k) n = (aheadL l k).contains n := by
  rw [hasN_mem]
  unfold aheadL
  rw [Bool.eq_iff_iff]
  simp
theorem AtsAt.take {K : Nat → Prop} {w : World} {aa : Option Addr} {l : List Atr} (h : AtsAt K w aa l) (k : Nat) : AtsAt K w aa (l.take k) := fun j hj => by
  have hj' : j < l.length := by rw [List.length_take] at hj; omega
  obtain ⟨g, o, h1, h2, h3, h4⟩ := h j hj'
  rw [List.getElem_take]
  exact ⟨g, o, h1, h2, h3, h4⟩
abbrev izV (d : Int) (kd : Nat) (S D : ByteArray) (aa : Option Addr) (n ac : Nat) : Array Value := #[.int .i64 d, .int .u8 (kd : Int), .string S, .string D, .slice aa n ac]

set_option maxRecDepth 20000 in
set_option maxHeartbeats 2000000 in
theorem relement_any (d : Int) (kd : Nat) (S D : ByteArray) (l : List Atr) (aa : Option Addr) (n ac : Nat) (hln : l.length = n) (hn : n ≤ 1000000) (hca : n ≤ ac) (hsz : ∀ x ∈ l, x.name.length < 1000000) (hS : S.size < 1000000) (w : World) (ha : AtsAt (fun k => k < w.heap.size) w aa l) :
    Calls Tryz.prog 205 #[.agg (izV d kd S D aa n ac)] w fun e w' => e = .returned (.bool ((validP S.toList && D.toList == []) && soundA l)) ∧ Kept (fun k => k < w.heap.size) w w' := by
  obtain ⟨W, hW⟩ : ∃ W, w.alloc (.cells (izV d kd S D aa n ac) 165) = W := ⟨_, rfl⟩
  obtain ⟨N, hN⟩ : ∃ N, w.heap.size = N := ⟨_, rfl⟩
  have kW : Kept (fun k => k < w.heap.size) w W := by rw [← hW]; exact (Kept.refl _ w).alloc (fun _ h => h) _
  have hb : W.heap[N]? = some (.cells (izV d kd S D aa n ac) 165 (0, 0)) := by rw [← hW, ← hN]; exact heap_alloc_new w _
  have haW : AtsAt (fun k => k < W.heap.size) W aa l := ha.kept kW fun k h => Nat.lt_of_lt_of_le h kW.size
  have hNW : N < W.heap.size := lt_block hb
  have HK : Hid (Kept (fun k => k < w.heap.size) w W) := kW
  have HW : Hid (w.alloc (.cells (izV d kd S D aa n ac) 165) = W) := hW
  have HN : Hid (w.heap.size = N) := hN
  have HA : Hid (AtsAt (fun k => k < W.heap.size) W aa l) := haW
  have HB : Hid (W.cell? ⟨N, 2, none⟩ = some (.string S) ∧ W.cell? ⟨N, 3, none⟩ = some (.string D) ∧ W.cell? ⟨N, 4, none⟩ = some (.slice aa n ac)) := ⟨by rw [cell_block hb]; rfl, by rw [cell_block hb]; rfl, by rw [cell_block hb]; rfl⟩
  have HL : Hid (l.length = n) := hln
  have HSZ : Hid (∀ x ∈ l, x.name.length < 1000000) := hsz
  obtain ⟨A, hA⟩ : ∃ A, allW [] l = A := ⟨_, rfl⟩
  have HA0 : Hid (allW (aheadL l 0) (l.drop 0) = A) := hA
  have hR0 : soundA l = (decide (l.length ≤ 50) && allW [] l) := rfl
  rw [hln, hA] at hR0
  have HR : Hid (soundA l = (decide (n ≤ 50) && A)) := hR0
  rw [HR.out]
  obtain ⟨v, hv⟩ : ∃ v, validP S.toList = v := ⟨_, rfl⟩
  have HV : Hid (validP S.toList = v) := hv
  obtain ⟨e, he⟩ : ∃ e, (D.toList == []) = e := ⟨_, rfl⟩
  obtain ⟨b5, hb5⟩ : ∃ b, decide (n ≤ 50) = b := ⟨_, rfl⟩
  have HB5 : Hid (decide (n ≤ 50) = b5) := hb5
  rw [hv, he, hb5]
  clear hv hb5 hW hN kW hb haW ha hln hsz hA HR hR0
  go_enter Tryz.func205, Tryz.ntmps205
  go_upto_region 1 with fail
  rw [HW.out, HN.out]
  clear HW HN
  go_upto_region 2 with fail
  go_loopg [3] n (fun g v wr => ∃ (k : Nat), g = n - k ∧ k ≤ n ∧ v = .int .i64 k ∧ allW (aheadL l k) (l.drop k) = A ∧ Kept (fun k => k < W.heap.size) W wr)
  case atStart => exact ⟨0, rfl, Nat.zero_le _, rfl, HA0.out, Kept.refl _ _⟩
  case round =>
    clear HA0
    obtain ⟨k, hgk, hk, rfl, hAk, hKk⟩ := hrel
    have HKk : Hid (Kept (fun k => k < W.heap.size) W wr) := hKk
    have c4 : wr.cell? ⟨N, 4, none⟩ = some (.slice aa n ac) := (hKk.cell (p := ⟨N, 4, none⟩) hNW).trans HB.out.2.2
    by_cases hlt : k < n
    · have hl : k < l.length := by rw [HL.out]; exact hlt
      obtain ⟨g, o, hg, hgl, c0, c1⟩ := HA.out k hl
      subst hg
      have d0 : wr.cell? ⟨g, o + k * 2, none⟩ = some (.string ⟨l[k].name.toArray⟩) := (hKk.cell (p := ⟨g, o + k * 2, none⟩) hgl).trans c0
      have d1 : wr.cell? ⟨g, o + k * 2 + 1, none⟩ = some (.string ⟨l[k].value.toArray⟩) := (hKk.cell (p := ⟨g, o + k * 2 + 1, none⟩) hgl).trans c1
      have hnl := HSZ.out l[k] (List.getElem_mem hl)
      rw [List.drop_eq_getElem_cons hl] at hAk
      obtain ⟨x, hx⟩ : ∃ x, l[k] = x := ⟨_, rfl⟩
      rw [hx] at hAk d0 d1 hnl
      have hAk' : ((writP x && !(aheadL l k).contains x.name) && allW (x.name :: aheadL l k) (l.drop (k + 1))) = A := hAk
      have eah : aheadL l (k + 1) = x.name :: aheadL l k := by
        rw [aheadL_succ l k hl, hx]
      rw [← eah, ← ahead_has] at hAk'
      obtain ⟨q, hq⟩ : ∃ q, writP x = q := ⟨_, rfl⟩
      obtain ⟨h2, hh⟩ : ∃ h2, hasN (l.take k) x.name = h2 := ⟨_, rfl⟩
      rw [hq] at hAk'
      rw [hh] at hAk'
      have htl : (l.take k).length = k := by rw [List.length_take]; omega
      have hxn : (⟨x.name.toArray⟩ : ByteArray).size < 1000000 := by show x.name.toArray.size < _; simpa using hnl
      have hW1 : ∀ dd os, Calls Tryz.prog 159 #[.agg #[.string ⟨x.name.toArray⟩, .string ⟨x.value.toArray⟩]] (grow (redrawn wr dd) os) fun e w'' => e = .returned (.bool q) ∧ ∃ p : Regrown, w'' = grow (redrawn wr p.d) p.os := fun dd os => by
        have r := rwritable_any ⟨x.name.toArray⟩ ⟨x.value.toArray⟩ hxn (fun k => k < (grow (redrawn wr dd) os).heap.size) (grow (redrawn wr dd) os) (fun _ h => h)
        have e1 : writP ⟨(⟨x.name.toArray⟩ : ByteArray).data.toList, (⟨x.value.toArray⟩ : ByteArray).data.toList⟩ = writP x := rfl
        rw [e1, hq] at r
        exact Calls.regrown_of (r.mono fun e w' h => ⟨h.1, h.2.below⟩)
      have hH1 : ∀ dd os, Calls Tryz.prog 209 #[.slice (some ⟨g, o, none⟩) k ac, .string ⟨x.name.toArray⟩] (grow (redrawn wr dd) os) fun e w'' => e = .returned (.bool h2) ∧ ∃ p : Regrown, w'' = grow (redrawn wr p.d) p.os := fun dd os => by
        have r := rhas_any (l.take k) (some ⟨g, o, none⟩) ac ⟨x.name.toArray⟩ (by omega) (fun k => k < (grow (redrawn wr dd) os).heap.size) (fun _ => True) (grow (redrawn wr dd) os) (fun j hj => by
          obtain ⟨g', o', h1, h2', h3, h4⟩ := (HA.out.take k) j hj
          exact ⟨g', o', h1, trivial, cell_regrown ((HKk.out.cell (p := ⟨g', o' + j * 2, none⟩) h2').trans h3) dd os, cell_regrown ((HKk.out.cell (p := ⟨g', o' + j * 2 + 1, none⟩) h2').trans h4) dd os⟩)
        rw [htl] at r
        have e2 : hasN (l.take k) (⟨x.name.toArray⟩ : ByteArray).data.toList = h2 := hh
        rw [e2] at r
        exact Calls.regrown_of (r.mono fun e w' h => ⟨h.1, h.2.below⟩)
      have HRES : Hid (((q && !h2) && allW (aheadL l (k + 1)) (l.drop (k + 1))) = A) := hAk'
      have hNr : N < wr.heap.size := Nat.lt_of_lt_of_le hNW hKk.size
      have hgr : g < wr.heap.size := Nat.lt_of_lt_of_le hgl hKk.size
      have c4r := fun dd os => cell_regrown c4 dd os
      have d0r := fun dd os => cell_regrown d0 dd os
      have d1r := fun dd os => cell_regrown d1 dd os
      clear hAk hAk' eah hx hq hh htl hnl c0 c1 hKk hxn
      go_upto_region 4 with fail
      go_cut [30] from 11 to 29 (fun v wx => v = .bool (!q || h2) ∧ Kept (fun k => k < wr.heap.size) wr wx)
      case first =>
        cases q with
        | false =>
          refine wp_region_quiet_below (by kernel_rfl) (by kernel_rfl) ?_
          repeat (go_big_quiet_step (exact hW1 _ _))
          refine wpQuiet_nil ?_
          intro _ hw'
          obtain ⟨⟨dq, osq⟩, hw''⟩ := hw'
          subst hw''
          go_wp2_with fail
          go_meet
          exact ⟨rfl, Below.kept (below_regrown wr dq osq)⟩
        | true =>
          refine wp_region_quiet_below (by kernel_rfl) (by kernel_rfl) ?_
          repeat (go_big_quiet_step (first | exact hW1 _ _ | exact hH1 _ _))
          refine wpQuiet_nil ?_
          intro _ hw'
          obtain ⟨⟨dq, osq⟩, hw''⟩ := hw'
          subst hw''
          go_wp2_with fail
          go_meet
          exact ⟨rfl, Below.kept (below_regrown wr dq osq)⟩
      case rest =>
        obtain ⟨rfl, hKc⟩ := hcut
        have HKc : Hid (Kept (fun k => k < W.heap.size) W wc) := HKk.out.trans (hKc.mono fun k h => Nat.lt_of_lt_of_le h HKk.out.size)
        clear hW1 hH1 c4 c4r d0 d1 d0r d1r hKc
        obtain ⟨b, hbe⟩ : ∃ b, (!q || h2) = b := ⟨_, rfl⟩
        rw [hbe]
        cases b with
        | true =>
          have hA : A = false := by
            rw [← HRES.out]
            have : (q && !h2) = false := by cases q <;> cases h2 <;> simp_all
            rw [this]
            rfl
          subst hA
          clear hbe
          go_wp2
          go_ret
          exact ⟨by simp, HK.out.trans (HKc.out.mono fun k h => Nat.lt_of_lt_of_le h HK.out.size)⟩
        | false =>
          have hA : allW (aheadL l (k + 1)) (l.drop (k + 1)) = A := by
            rw [← HRES.out]
            have : (q && !h2) = true := by cases q <;> cases h2 <;> simp_all
            rw [this]
            rfl
          have HA1 : Hid (allW (aheadL l (k + 1)) (l.drop (k + 1)) = A) := hA
          clear hA hbe
          go_wp2
          go_roundg (n - (k + 1))
          case rel => exact ⟨k + 1, rfl, by omega, by go_num, HA1.out, HKc.out⟩
          case measure => omega
    · have hkn : n = k := by omega
      subst hkn
      have hA : A = true := by
        rw [← hAk, List.drop_eq_nil_of_le (by rw [HL.out]; exact Nat.le_refl _)]
        rfl
      subst hA
      have c2 : wr.cell? ⟨N, 2, none⟩ = some (.string S) := (hKk.cell (p := ⟨N, 2, none⟩) hNW).trans HB.out.1
      have c3 : wr.cell? ⟨N, 3, none⟩ = some (.string D) := (hKk.cell (p := ⟨N, 3, none⟩) hNW).trans HB.out.2.1
      have hNr : N < wr.heap.size := Nat.lt_of_lt_of_le hNW hKk.size
      have rv := rvalid_any S (fun k => k < wr.heap.size) wr hS
      rw [HV.out] at rv
      have hb5' : decide ((n : Int) ≤ 50) = b5 := by
        rw [← HB5.out, Bool.eq_iff_iff]
        simp
        omega
      clear hAk hKk
      cases v with
      | false =>
        go_wp2_with (go_at_call 171; refine rv.mono ?_; rintro e1 w3 ⟨rfl, hk3⟩)
        go_ret
        exact ⟨by simp, (HK.out.trans (HKk.out.mono fun k h => Nat.lt_of_lt_of_le h HK.out.size)).trans (hk3.mono fun k h => Nat.lt_of_lt_of_le h (Nat.le_trans HK.out.size HKk.out.size))⟩
      | true =>
        cases e with
        | false =>
          go_wp2_with (go_at_call 171; refine rv.mono ?_; rintro e1 w3 ⟨rfl, hk3⟩; have f3 : w3.cell? ⟨N, 3, none⟩ = some (.string D) := (hk3.cell (p := ⟨N, 3, none⟩) hNr).trans c3)
          go_ret
          exact ⟨by simp, (HK.out.trans (HKk.out.mono fun k h => Nat.lt_of_lt_of_le h HK.out.size)).trans (hk3.mono fun k h => Nat.lt_of_lt_of_le h (Nat.le_trans HK.out.size HKk.out.size))⟩
        | true =>
          go_wp2_with (go_at_call 171; refine rv.mono ?_; rintro e1 w3 ⟨rfl, hk3⟩; have f3 : w3.cell? ⟨N, 3, none⟩ = some (.string D) := (hk3.cell (p := ⟨N, 3, none⟩) hNr).trans c3; have f4 : w3.cell? ⟨N, 4, none⟩ = some (.slice aa n ac) := (hk3.cell (p := ⟨N, 4, none⟩) hNr).trans c4)
          go_ret
          exact ⟨by simp, (HK.out.trans (HKk.out.mono fun k h => Nat.lt_of_lt_of_le h HK.out.size)).trans (hk3.mono fun k h => Nat.lt_of_lt_of_le h (Nat.le_trans HK.out.size HKk.out.size))⟩
end Go.Proofs.YtbhfnbplbkncmaaGreat
