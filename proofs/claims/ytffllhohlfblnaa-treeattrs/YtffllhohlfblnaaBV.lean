/-
  What names.Soft and names.Valid answer, with the functions that Valid calls.
-/
import Derived.Test.YtffllhohlfblnaaProg
import Derived.Test.YtffllhohlfblnaaBase
import Derived.Test.YtffllhohlfblnaaKPure
import Derived.Deep.QuietTactic
import Derived.BigQuiet
namespace Go.Proofs.Ytffllhohlfblnaa
open Go.RowKit



theorem small_any (c : UInt8) (K : Nat → Prop) (w : World) :
    Calls Try.prog 69 #[.int .u8 c.toNat] w fun e w' => e = .returned (.bool (smallP c)) ∧ Kept K w w' := by
  go_enter Try.func69, Try.ntmps69
  go_wp2
  all_goals go_ret
  all_goals refine ⟨congrArg (fun b => Ending.returned (.bool b)) ?_, Kept.refl _ _⟩
  all_goals unfold smallP
  · rename_i h
    have h' : 97 ≤ c.toNat := by omega
    simp [h']
    omega
  · rename_i h
    have h' : ¬ 97 ≤ c.toNat := by omega
    simp [h']

theorem inner_any (c : UInt8) (K : Nat → Prop) (w : World) :
    Calls Try.prog 70 #[.int .u8 c.toNat] w fun e w' => e = .returned (.bool (innerP c)) ∧ Kept K w w' := by
  go_enter Try.func70, Try.ntmps70
  go_wp2
  all_goals go_ret
  all_goals refine ⟨congrArg (fun b => Ending.returned (.bool b)) ?_, Kept.refl _ _⟩
  all_goals unfold innerP
  all_goals rw [Bool.eq_iff_iff]
  all_goals simp
  all_goals omega

/-- What is barred at a place. -/
def barP (s : ByteArray) (i : Nat) : Bool := if h : i < s.size then !smallP s[i] && (i == 0 || !innerP s[i]) else true

set_option maxRecDepth 20000 in
theorem bar_any (s : ByteArray) (i b : Nat) (K : Nat → Prop) (w : World) (hc : w.cell? ⟨b, 0, none⟩ = some (.string s)) (hi : i < s.size) :
    Calls Try.prog 68 #[.int .i64 i, .pointer (some ⟨b, 0, none⟩)] w fun e w' => e = .returned (.bool (barP s i)) ∧ Kept K w w' := by
  have hb : barP s i = (!smallP s[i] && (i == 0 || !innerP s[i])) := by unfold barP; rw [dif_pos hi]
  rw [hb]
  have h1 := fun X => small_any s[i] K X
  have h2 := fun X => inner_any s[i] K X
  clear hb
  obtain ⟨a, ha⟩ : ∃ a, smallP s[i] = a := ⟨_, rfl⟩
  rw [ha] at h1 ⊢
  obtain ⟨n, hn⟩ : ∃ a, innerP s[i] = a := ⟨_, rfl⟩
  rw [hn] at h2 ⊢
  clear ha hn
  cases a with
  | true =>
    go_enter Try.func68, Try.ntmps68
    go_wp2_with fail
    refine (h1 _).mono ?_
    rintro e w1 ⟨rfl, hk1⟩
    go_wp2
    go_ret
    exact ⟨by simp, hk1⟩
  | false =>
    by_cases h0 : i = 0
    · subst h0
      go_enter Try.func68, Try.ntmps68
      go_wp2_with fail
      refine (h1 _).mono ?_
      rintro e w1 ⟨rfl, hk1⟩
      go_wp2
      go_ret
      exact ⟨by simp, hk1⟩
    · have e0 : ((i : Int) == 0) = false := by simp; omega
      have e1 : (i == 0) = false := by simp; omega
      rw [e1]
      go_enter Try.func68, Try.ntmps68
      go_wp2_with fail
      refine (h1 _).mono ?_
      rintro e w1 ⟨rfl, hk1⟩
      go_wp2_with fail
      refine (h2 _).mono ?_
      rintro e w2 ⟨rfl, hk2⟩
      go_wp2
      go_ret
      exact ⟨by simp, hk1.trans hk2⟩

theorem barP_at (s : ByteArray) (i : Nat) : barP s i = match s.data.toList[i]? with
    | some c => !smallP c && (i == 0 || !innerP c)
    | none => true := by
  unfold barP
  by_cases h : i < s.size
  · have h' : i < s.data.toList.length := by simpa using h
    rw [dif_pos h, List.getElem?_eq_getElem h']
    rfl
  · have h' : s.data.toList.length ≤ i := by
      have : ¬ i < s.data.toList.length := by simpa using h
      omega
    rw [dif_neg h, List.getElem?_eq_none h']

theorem bar_none_fit (s : ByteArray) (h : ∀ i, i < s.size → barP s i = false) : fitP s.toList = true := by
  rw [ByteArray.toList_eq]
  have h' : ∀ i, i < s.data.toList.length → barP s i = false := fun i hi => h i (by simpa using hi)
  clear h
  simp only [barP_at] at h'
  generalize s.data.toList = l at h'
  cases l with
  | nil => rfl
  | cons c r =>
    have h0 := h' 0 (by simp)
    simp at h0
    simp only [fitP, h0, Bool.true_and, List.all_eq_true]
    intro x hx
    obtain ⟨j, hj, rfl⟩ := List.mem_iff_getElem.1 hx
    have hj1 := h' (j + 1) (by simpa using hj)
    rw [List.getElem?_cons_succ, List.getElem?_eq_getElem hj] at hj1
    simp only [fineP]
    cases hs : smallP r[j] <;> cases hi : innerP r[j] <;> simp [hs, hi] at hj1 ⊢

theorem bar_fit (s : ByteArray) (i : Nat) (hi : i < s.size) (h : barP s i = true) : fitP s.toList = false := by
  rw [ByteArray.toList_eq]
  have hi' : i < s.data.toList.length := by simpa using hi
  simp only [barP_at] at h
  generalize s.data.toList = l at h hi'
  cases l with
  | nil => simp at hi'
  | cons c r =>
    cases i with
    | zero =>
      simp at h
      simp [fitP, h]
    | succ j =>
      have hj : j < r.length := by simpa using hi'
      rw [List.getElem?_cons_succ, List.getElem?_eq_getElem hj] at h
      simp at h
      simp only [fitP, Bool.and_eq_false_iff, List.all_eq_false]
      refine .inr ⟨r[j], List.getElem_mem hj, ?_⟩
      simp [fineP, h]

set_option maxRecDepth 20000 in
set_option maxHeartbeats 1000000 in
theorem valid_any (s : ByteArray) (K : Nat → Prop) (w : World) (hK : ∀ k, K k → k < w.heap.size) :
    Calls Try.prog 43 #[.string s] w fun e w' => e = .returned (.bool (validP s.toList)) ∧ Kept K w w' := by
  have hmf : ∀ (fn : Fn) (first cap : Array Value) (w : World), (Instr.makeFunc fn first cap).run Try.prog w = .ok (.func fn first cap) w := fun _ _ _ _ => rfl
  have kk : ∀ o, Kept K w (w.alloc o) := fun o => (Kept.refl K w).alloc hK o
  have hl : s.toList.length = s.size := by rw [ByteArray.toList_eq]; rfl
  by_cases g0 : s.size = 0
  · have e0 : (s.toList == []) = true := by
      simpa using List.eq_nil_of_length_eq_zero (hl.trans g0)
    have hv : validP s.toList = false := by
      unfold validP
      rw [hl, g0]
      rfl
    rw [hv]
    clear hv hl
    go_enter Try.func43, Try.ntmps43
    go_wp2
    go_ret
    exact ⟨rfl, kk _⟩
  · have e0 : (s.toList == []) = false := by
      rw [Bool.eq_false_iff]
      intro h
      have : s.toList = [] := by simpa using h
      rw [this] at hl
      exact g0 hl.symm
    by_cases g1 : s.size ≤ 60
    · have e1 : decide ((s.size : Int) > 60) = false := by simp; omega
      have hv : validP s.toList = fitP s.toList := by
        unfold validP
        rw [hl, decide_eq_true g1, decide_eq_true (show 1 ≤ s.size by omega)]
        rfl
      rw [hv]
      clear hv hl
      go_enter Try.func43, Try.ntmps43
      go_wp2_with fail
      go_loopw [15, 4, 16, 17, 18, 19, 20, 21] (fun i _ _ _ _ _ _ _ wr => ∃ k : Nat, k ≤ s.size ∧ i = .int .i64 k ∧ Kept K w wr ∧ wr.cell? ⟨w.heap.size, 0, none⟩ = some (.string s) ∧ w.heap.size < wr.heap.size ∧ ∀ j, j < k → barP s j = false) (fun i _ _ _ _ _ _ _ _ => s.size - (intOf i).toNat)
      case atStart => exact ⟨0, Nat.zero_le _, rfl, kk _, by simp, by simp, fun j hj => absurd hj (Nat.not_lt_zero _)⟩
      case round => 
        obtain ⟨k, hk, rfl, hkp, hcell, hsz, hj⟩ := hrel
        by_cases hlt : k < s.size
        · have hbar := bar_any s k w.heap.size (fun k => K k ∨ k = w.heap.size) wr hcell hlt
          by_cases hbk : barP s k = true
          · have hv : Hid (fitP s.toList = false) := bar_fit s k hlt hbk
            rw [hbk] at hbar
            clear hbk
            go_wp2_with fail
            refine hbar.mono ?_
            rintro e w1 ⟨rfl, hk1⟩
            go_wp2
            go_ret
            exact ⟨by rw [hv.out]; rfl, hkp.trans (hk1.mono fun _ h => .inl h)⟩
          · have hbk : barP s k = false := by simpa using hbk
            rw [hbk] at hbar
            go_wp2_with fail
            refine hbar.mono ?_
            rintro e w1 ⟨rfl, hk1⟩
            go_wp2
            go_roundw
            case rel =>
              refine ⟨k + 1, by omega, by go_num, hkp.trans (hk1.mono fun _ h => .inl h), ?_, Nat.lt_of_lt_of_le hsz hk1.size, ?_⟩
              · rw [hk1.cell (.inr rfl)]
                exact hcell
              · intro j hj'
                rcases Nat.lt_succ_iff_lt_or_eq.1 hj' with h | rfl
                · exact hj j h
                · exact hbk
            case measure => simp [intOf]; omega
        · have hv : Hid (fitP s.toList = true) := bar_none_fit s fun i hi => hj i (by omega)
          go_wp2
          go_ret
          exact ⟨by rw [hv.out]; rfl, hkp⟩
    · have e1 : decide ((s.size : Int) > 60) = true := by simp; omega
      have hv : validP s.toList = false := by
        unfold validP
        rw [hl, decide_eq_false g1]
        simp
      rw [hv]
      clear hv hl
      go_enter Try.func43, Try.ntmps43
      go_wp2
      go_ret
      exact ⟨rfl, kk _⟩
end Go.Proofs.Ytffllhohlfblnaa
