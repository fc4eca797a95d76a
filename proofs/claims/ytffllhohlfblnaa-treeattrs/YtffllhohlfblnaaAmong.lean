/-
  What the document's own among answers.
-/
import Derived.Test.YtffllhohlfblnaaProg
import Derived.Test.YtffllhohlfblnaaBase
import Derived.Test.YtffllhohlfblnaaNPure
import Derived.Deep.QuietTactic
import Derived.BigQuiet
namespace Go.Proofs.Ytffllhohlfblnaa
open Go.RowKit

/-- What is left to be answered at a place. -/
def amLeft (t l : List UInt8) (fr i : Nat) : Bool := (wordsP ((t.take i).drop fr) (t.drop i)).any (· == l) && l != []

theorem amLeft_zero (t l : List UInt8) : amLeft t l 0 0 = amongP t l := by simp [amLeft, amongP]
theorem amLeft_end (t l : List UInt8) (fr : Nat) : amLeft t l fr t.length = ((t.drop fr == l) && l != []) := by simp [amLeft, wordsP]
theorem amLeft_blank {t : List UInt8} (l : List UInt8) (fr : Nat) {i : Nat} (hi : i < t.length) (hb : t[i] = 32) : amLeft t l fr i = ((((t.take i).drop fr == l) && l != []) || amLeft t l (i + 1) (i + 1)) := by
  unfold amLeft
  rw [List.drop_eq_getElem_cons hi, wordsP, if_pos hb, List.any_cons]
  have : (t.take (i + 1)).drop (i + 1) = [] := by simp
  rw [this]
  cases (l != []) <;> simp
theorem amLeft_step {t : List UInt8} (l : List UInt8) {fr i : Nat} (hf : fr ≤ i) (hi : i < t.length) (hb : ¬ t[i] = 32) : amLeft t l fr i = amLeft t l fr (i + 1) := by
  unfold amLeft
  rw [List.drop_eq_getElem_cons hi, wordsP, if_neg hb, List.take_succ_eq_append_getElem hi, List.drop_append_of_le_length (by simp; omega)]

theorem extract_listT (t : ByteArray) (a b : Nat) : (t.extract a b).toList = (t.data.toList.take b).drop a := by
  rw [ByteArray.toList_eq, ByteArray.data_extract, Array.toList_extract, List.extract_eq_take_drop, List.drop_take]
theorem nonempty_bne (l : List UInt8) : (l != []) = !l.isEmpty := by cases l <;> rfl

set_option maxRecDepth 20000 in
set_option maxHeartbeats 1000000 in
theorem among_any (t s : ByteArray) (K : Nat → Prop) (w : World) (ht : t.size < 1000) :
    Calls Try.prog 78 #[.string t, .string s] w fun e w' => e = .returned (.bool (amongP t.data.toList s.toList)) ∧ Kept K w w' := by
  rw [← amLeft_zero]
  obtain ⟨A, hA⟩ : ∃ A, amLeft t.data.toList s.toList 0 0 = A := ⟨_, rfl⟩
  rw [hA]
  have hlen : t.data.toList.length = t.size := rfl
  go_enter Try.func78, Try.ntmps78
  go_wp2_with fail
  go_loopw [5, 6, 7, 8, 9, 10, 11, 12, 13, 14, 15, 16, 17, 18, 19, 20, 21, 22, 23, 24, 25, 26, 27, 28, 29, 30, 31, 32, 33, 34] (fun f i _ _ _ _ _ _ _ _ _ _ _ _ _ _ _ _ _ _ _ _ _ _ _ _ _ _ _ _ wr => ∃ fr k : Nat, ((fr ≤ k ∧ k ≤ t.size ∧ Hid (amLeft t.data.toList s.toList fr k = A)) ∨ (k = t.size + 1 ∧ A = false)) ∧ f = .int .i64 fr ∧ i = .int .i64 k ∧ wr = w) (fun _ i _ _ _ _ _ _ _ _ _ _ _ _ _ _ _ _ _ _ _ _ _ _ _ _ _ _ _ _ _ => t.size + 1 - (intOf i).toNat)
  case atStart => exact ⟨0, 0, .inl ⟨Nat.le_refl _, Nat.zero_le _, hA⟩, rfl, rfl, rfl⟩
  case round =>
    clear hA
    obtain ⟨fr, k, hk, rfl, rfl, rfl⟩ := hrel
    rcases hk with ⟨hf, hk, HA⟩ | ⟨rfl, rfl⟩
    · have hx := extract_listT t fr k
      by_cases hm : ((t.extract fr k).toList = s.toList ∧ s.toList.isEmpty = false)
      · obtain ⟨m1, m2⟩ := hm
        have m3 : ((t.extract fr k).toList == s.toList) = true := by simpa using m1
        have hw : (((t.data.toList.take k).drop fr == s.toList) && s.toList != []) = true := by
          rw [nonempty_bne, m2, ← hx, m3]
          rfl
        by_cases he : k = t.size
        · have hA : A = true := by
            rw [← HA.out, he, ← hlen, amLeft_end, ← hw, he, ← hlen, List.take_length]
          subst hA
          subst he
          clear hw HA hx m1
          go_wp2
          go_ret
          exact ⟨rfl, Kept.refl _ _⟩
        · have hlt : k < t.size := by omega
          have e1 : ((k : Int) == (t.size : Int)) = false := by simp; omega
          have hl' : k < t.data.toList.length := by omega
          by_cases hb : t[k].toNat = 32
          · have e2 : ((t[k].toNat : Int) == 32) = true := by simp; omega
            have hb' : t.data.toList[k] = 32 := UInt8.toNat_inj.1 hb
            have hA : A = true := by
              rw [← HA.out, amLeft_blank s.toList fr hl' hb', hw]
              rfl
            subst hA
            clear hw HA hx m1 he hb hb'
            go_wp2
            go_ret
            exact ⟨rfl, Kept.refl _ _⟩
          · have e2 : ((t[k].toNat : Int) == 32) = false := by simp; omega
            have hb' : ¬ t.data.toList[k] = 32 := fun h => hb (congrArg UInt8.toNat h)
            have HA' : Hid (amLeft t.data.toList s.toList fr (k + 1) = A) := by rw [← HA.out]; exact (amLeft_step s.toList hf hl' hb').symm
            clear hw HA hx m1 he hb hb' m3 m2
            go_wp2
            go_roundw
            case rel => exact ⟨fr, k + 1, .inl ⟨by omega, by omega, HA'⟩, rfl, by go_num, trivial⟩
            case measure => simp [intOf]; omega
      · have hw : (((t.data.toList.take k).drop fr == s.toList) && s.toList != []) = false := by
          rw [nonempty_bne, ← hx, Bool.eq_false_iff]
          intro h
          simp at h
          exact hm ⟨h.1, by simpa using h.2⟩
        by_cases he : k = t.size
        · have hA : A = false := by
            rw [← HA.out, he, ← hlen, amLeft_end, ← hw, he, ← hlen, List.take_length]
          subst hA
          subst he
          clear hw HA hx
          by_cases m1 : (t.extract fr t.size).toList = s.toList
          · have m2 : s.toList.isEmpty = true := by
              cases h : s.toList.isEmpty
              · exact absurd ⟨m1, h⟩ hm
              · rfl
            have m3 : ((t.extract fr t.size).toList == s.toList) = true := by simpa using m1
            clear m1 hm
            go_wp2
            go_roundw
            case rel => exact ⟨t.size + 1, t.size + 1, .inr ⟨rfl, trivial⟩, by go_num, by go_num, trivial⟩
            case measure => simp [intOf]
          · have m3 : ((t.extract fr t.size).toList == s.toList) = false := by simpa using m1
            clear m1 hm
            go_wp2
            go_roundw
            case rel => exact ⟨t.size + 1, t.size + 1, .inr ⟨rfl, trivial⟩, by go_num, by go_num, trivial⟩
            case measure => simp [intOf]
        · have hlt : k < t.size := by omega
          have e1 : ((k : Int) == (t.size : Int)) = false := by simp; omega
          have hl' : k < t.data.toList.length := by omega
          by_cases hb : t[k].toNat = 32
          · have e2 : ((t[k].toNat : Int) == 32) = true := by simp; omega
            have hb' : t.data.toList[k] = 32 := UInt8.toNat_inj.1 hb
            have HA' : Hid (amLeft t.data.toList s.toList (k + 1) (k + 1) = A) := by
              show _ = _
              rw [← HA.out, amLeft_blank s.toList fr hl' hb', hw]
              rfl
            clear hw HA hx he hb hb'
            by_cases m1 : (t.extract fr k).toList = s.toList
            · have m2 : s.toList.isEmpty = true := by
                cases h : s.toList.isEmpty
                · exact absurd ⟨m1, h⟩ hm
                · rfl
              have m3 : ((t.extract fr k).toList == s.toList) = true := by simpa using m1
              clear m1 hm
              go_wp2
              go_roundw
              case rel => exact ⟨k + 1, k + 1, .inl ⟨Nat.le_refl _, by omega, HA'⟩, by go_num, by go_num, trivial⟩
              case measure => simp [intOf]; omega
            · have m3 : ((t.extract fr k).toList == s.toList) = false := by simpa using m1
              clear m1 hm
              go_wp2
              go_roundw
              case rel => exact ⟨k + 1, k + 1, .inl ⟨Nat.le_refl _, by omega, HA'⟩, by go_num, by go_num, trivial⟩
              case measure => simp [intOf]; omega
          · have e2 : ((t[k].toNat : Int) == 32) = false := by simp; omega
            have hb' : ¬ t.data.toList[k] = 32 := fun h => hb (congrArg UInt8.toNat h)
            have HA' : Hid (amLeft t.data.toList s.toList fr (k + 1) = A) := by rw [← HA.out]; exact (amLeft_step s.toList hf hl' hb').symm
            clear hw HA hx he hb hb' hm
            go_wp2
            go_roundw
            case rel => exact ⟨fr, k + 1, .inl ⟨by omega, by omega, HA'⟩, rfl, by go_num, trivial⟩
            case measure => simp [intOf]; omega
    · have e1 : decide (((t.size + 1 : Nat) : Int) ≤ (t.size : Int)) = false := by simp; omega
      go_wp2
      go_ret
      exact ⟨rfl, Kept.refl _ _⟩
end Go.Proofs.Ytffllhohlfblnaa
