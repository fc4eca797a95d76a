/-
  What the document's starts and the program's meant answer; the tables in memory.
-/
import Derived.Test.YtncfgahnjakeiaaDoorLeaf
import Derived.Deep.QuietTactic
import Derived.BigQuiet
namespace Go.Proofs.YtncfgahnjakeiaaDoor
open Go.RowKit

def preD (t s : ByteArray) (i : Nat) : Bool := t.data.toList.isPrefixOf (s.data.toList.drop i)
theorem starts_any (s t : ByteArray) (i : Nat) (hi : i ≤ s.size) (hs : s.size < 1000000) (ht : t.size < 1000000) (w : World) :
    Calls Tryd.prog 44 #[.string s, .int .i64 i, .string t] w fun e w' => e = .returned (.bool (preD t s i)) ∧ w' = w := by
  by_cases h : i + t.size ≤ s.size
  · have e1 : decide ((s.size : Int) - (i : Int) ≥ (t.size : Int)) = true := by simp; omega
    have HP : Hid (((s.extract i (i + t.size)).toList == t.toList) = preD t s i) := by
      show (_ == _) = _
      rw [beq_data, extract_list, List.drop_take, Nat.add_sub_cancel_left]
      exact pre_take t.data.toList _
    go_enter Tryd.func44, Tryd.ntmps44
    go_wp2
    go_ret
    exact ⟨by rw [HP.out]; rfl, rfl⟩
  · have e1 : decide ((s.size : Int) - (i : Int) ≥ (t.size : Int)) = false := by simp; omega
    have hp : preD t s i = false := pre_short _ _ (by rw [List.length_drop]; show s.size - i < t.size; omega)
    rw [hp]
    clear hp
    go_enter Tryd.func44, Tryd.ntmps44
    go_wp2
    go_ret
    exact ⟨rfl, rfl⟩

/-- The two tables lie where the program lays them. -/
structure Tabs (w : World) : Prop where
  ctrl : ∀ i (h : i < ctrl.length), w.cell? ⟨1, i, none⟩ = some (.int .i32 (ctrl[i] : Nat))

theorem meant_any (code : Nat) (h31 : code ≤ 17825807) (w : World) (hT : Tabs w) :
    Calls Tryd.prog 97 #[.int .i32 code] w fun e w' => e = .returned (.tuple #[.int .i32 (meantC code), .int .u8 (meantF code)]) ∧ w' = w := by
  by_cases h0 : code = 0
  · subst h0
    go_enter Tryd.func97, Tryd.ntmps97
    go_wp2
    go_ret2
    exact ⟨rfl, rfl⟩
  · have e0 : ((code : Int) == 0) = false := by simp; omega
    by_cases h1 : 1114111 < code
    · have e1 : decide ((code : Int) > 1114111) = true := by simp; omega
      have hw : wrongC code = true := by unfold wrongC; simp; omega
      have hc : meantC code = 65533 := by unfold meantC; rw [if_pos hw]
      have hf : meantF code = 2 := by unfold meantF; rw [if_pos hw]
      rw [hc, hf]
      clear hc hf hw
      go_enter Tryd.func97, Tryd.ntmps97
      go_wp2
      go_ret2
      exact ⟨rfl, rfl⟩
    · have e1 : decide ((code : Int) > 1114111) = false := by simp; omega
      by_cases h2 : 55296 ≤ code ∧ code ≤ 57343
      · have e2 : decide ((55296 : Int) ≤ (code : Int)) = true := by simp; omega
        have e3 : decide ((code : Int) ≤ 57343) = true := by simp; omega
        have hw : wrongC code = true := by unfold wrongC; simp; omega
        have hc : meantC code = 65533 := by unfold meantC; rw [if_pos hw]
        have hf : meantF code = 2 := by unfold meantF; rw [if_pos hw]
        rw [hc, hf]
        clear hc hf hw
        go_enter Tryd.func97, Tryd.ntmps97
        go_wp2
        go_ret2
        exact ⟨rfl, rfl⟩
      · have hw : ¬ wrongC code = true := by unfold wrongC; simp; omega
        by_cases h3 : 128 ≤ code ∧ code ≤ 159
        · have hcc : ctrlC code = true := by unfold ctrlC; simp; omega
          have hc : meantC code = ctrl.getD (code - 128) 0 := by unfold meantC; rw [if_neg hw, if_pos hcc]
          have hf : meantF code = 2 := by unfold meantF; rw [if_neg hw, if_pos hcc]
          rw [hc, hf]
          clear hc hf hw hcc
          obtain ⟨j, rfl⟩ : ∃ j, code = 128 + j := ⟨code - 128, by omega⟩
          have hj : j < ctrl.length := by show j < 32; omega
          have hcell := hT.ctrl j hj
          have hg : ctrl.getD (128 + j - 128) 0 = ctrl[j] := by rw [Nat.add_sub_cancel_left, List.getD_eq_getElem?_getD, List.getElem?_eq_getElem hj]; rfl
          rw [hg]
          obtain ⟨z, hz⟩ : ∃ z : Nat, ctrl[j] = z := ⟨_, rfl⟩
          rw [hz] at hcell ⊢
          clear hg hz hT
          have e2 : decide ((55296 : Int) ≤ ((128 + j : Nat) : Int)) = false := by simp; omega
          have e4 : decide ((128 : Int) ≤ ((128 + j : Nat) : Int)) = true := by simp; omega
          have e5 : decide (((128 + j : Nat) : Int) ≤ 159) = true := by simp; omega
          have hI : (((128 + j : Nat) : Int) - 128) = (j : Int) := by omega
          have hj32 : j < 32 := hj
          go_enter Tryd.func97, Tryd.ntmps97
          go_wp2

          go_ret2
          exact ⟨rfl, rfl⟩
        · have hcc : ¬ ctrlC code = true := by unfold ctrlC; simp; omega
          have hc : meantC code = code := by unfold meantC; rw [if_neg hw, if_neg hcc]
          have hf : meantF code = 0 := by unfold meantF; rw [if_neg hw, if_neg hcc]
          rw [hc, hf]
          clear hc hf hw hcc
          go_enter Tryd.func97, Tryd.ntmps97
          go_wp2
          all_goals first | omega | (go_ret2; exact ⟨rfl, rfl⟩)
end Go.Proofs.YtncfgahnjakeiaaDoor
