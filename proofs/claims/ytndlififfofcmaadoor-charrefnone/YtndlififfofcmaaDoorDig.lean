/-
  What the statements' own digits answers.
-/
import Derived.Test.YtndlififfofcmaaDoorTake
import Derived.Deep.QuietTactic
import Derived.BigQuiet
namespace Go.Proofs.YtndlififfofcmaaDoor
open Go.RowKit

def hexS : ByteArray := ⟨#[48, 49, 50, 51, 52, 53, 54, 55, 56, 57, 97, 98, 99, 100, 101, 102]⟩
/-- The digits of a number. -/
def digF (b : Nat) : Nat → Nat → List UInt8
  | 0, _ => []
  | f + 1, n => if n < b ∨ b < 2 then (hexS.extract n (n + 1)).data.toList else digF b f (n / b) ++ (hexS.extract (n % b) (n % b + 1)).data.toList
theorem digF_enough (b : Nat) : ∀ (f g n : Nat), n < f → n < g → digF b f n = digF b g n
  | 0, _, _, h, _ => by cases h
  | _ + 1, 0, _, _, h => by cases h
  | f + 1, g + 1, n, hf, hg => by
    unfold digF
    split
    · rfl
    · have : n / b < n := Nat.div_lt_self (by omega) (by omega)
      rw [digF_enough b f g (n / b) (by omega) (by omega)]
def digL (b n : Nat) : List UInt8 := digF b (n + 1) n
theorem digL_lt {b n : Nat} (h : n < b ∨ b < 2) : digL b n = (hexS.extract n (n + 1)).data.toList := by
  unfold digL
  rw [digF, if_pos h]
theorem digL_ge {b n : Nat} (h : ¬ (n < b ∨ b < 2)) : digL b n = digL b (n / b) ++ (hexS.extract (n % b) (n % b + 1)).data.toList := by
  have : n / b < n := Nat.div_lt_self (by omega) (by omega)
  unfold digL
  rw [digF, if_neg h, digF_enough b n (n / b + 1) (n / b) this (by omega)]
def digB (b n : Nat) : ByteArray := ⟨(digL b n).toArray⟩
theorem digB_lt {b n : Nat} (h : n < b) : digB b n = hexS.extract n (n + 1) := by
  unfold digB
  rw [digL_lt (.inl h)]
theorem app_arr (a b : List UInt8) : (⟨(a ++ b).toArray⟩ : ByteArray) = ⟨a.toArray⟩ ++ ⟨b.toArray⟩ := by
  apply ByteArray.ext
  rw [ByteArray.data_append]
  simp
theorem digB_ge {b n : Nat} (h : ¬ n < b) (hb : 2 ≤ b) : digB b n = digB b (n / b) ++ hexS.extract (n % b) (n % b + 1) := by
  unfold digB
  rw [digL_ge (by omega), app_arr]
theorem digL_length {b : Nat} (hb : 2 ≤ b) (n : Nat) (h16 : b ≤ 16) : (digL b n).length ≤ n + 1 := by
  induction n using Nat.strongRecOn with
  | ind n ih =>
    have one : ∀ k, (hexS.extract k (k + 1)).data.toList.length ≤ 1 := by
      intro k
      rw [extract_list, List.drop_take, List.length_take]
      omega
    by_cases h : n < b ∨ b < 2
    · rw [digL_lt h]
      have := one n
      omega
    · rw [digL_ge h]
      have hlt : n / b < n := Nat.div_lt_self (by omega) (by omega)
      have := ih _ hlt
      have := one (n % b)
      rw [List.length_append]
      have h2 : n / b ≤ n / 2 := Nat.div_le_div_left hb (by omega)
      omega

set_option maxRecDepth 20000 in
set_option maxHeartbeats 1000000 in
theorem digits10_any (n : Nat) (hn : n < 4294967296) (w : World) :
    Calls Tryd.prog 11 #[.int .u32 n, .int .u32 10] w fun e w' => e = .returned (.string (digB 10 n)) ∧ ∃ m, w' = w.drewN m := by
  induction n using Nat.strongRecOn generalizing w with
  | ind n ih =>
  by_cases h : n < 10
  · have e1 : decide ((n : Int) < 10) = true := by simp; omega
    rw [digB_lt h]
    unfold hexS
    clear ih
    go_enter Tryd.func11, Tryd.ntmps11
    go_wp2
    go_ret
    exact ⟨rfl, 0, rfl⟩
  · have e1 : decide ((n : Int) < 10) = false := by simp; omega
    have hlt : n / 10 < n := Nat.div_lt_self (by omega) (by omega)
    have hrec := fun X => ih (n / 10) hlt (by omega) X
    have hD := digB_ge h (by omega)
    rw [hD]
    unfold hexS
    have hsz : (digB 10 (n / 10)).size ≤ n / 10 + 1 := by
      have := digL_length (b := 10) (by omega) (n / 10) (by omega)
      unfold digB
      show (digL 10 (n / 10)).toArray.size ≤ _
      simpa using this
    obtain ⟨d, hd⟩ : ∃ d, digB 10 (n / 10) = d := ⟨_, rfl⟩
    rw [hd] at hrec hsz ⊢
    obtain ⟨q, hq⟩ : ∃ q, n / 10 = q := ⟨_, rfl⟩
    obtain ⟨r, hr⟩ : ∃ r, n % 10 = r := ⟨_, rfl⟩
    have hq' : (n : Int) / 10 = (q : Int) := by omega
    have hr' : (n : Int) % 10 = (r : Int) := by omega
    have hr16 : r < 10 := by omega
    have hqm : q ≤ 429496730 := by omega
    rw [hq] at hrec hsz
    rw [hr]
    clear ih hlt hq hr hd hD
    go_enter Tryd.func11, Tryd.ntmps11
    go_wp2_with fail
    go_quiet ((go_at_call 11; exact Calls.quiet_of (hrec _)))
    go_wp2
    go_ret
    exact ⟨rfl, _, rfl⟩
set_option maxRecDepth 20000 in
set_option maxHeartbeats 1000000 in
theorem digits16_any (n : Nat) (hn : n < 4294967296) (w : World) :
    Calls Tryd.prog 11 #[.int .u32 n, .int .u32 16] w fun e w' => e = .returned (.string (digB 16 n)) ∧ ∃ m, w' = w.drewN m := by
  induction n using Nat.strongRecOn generalizing w with
  | ind n ih =>
  by_cases h : n < 16
  · have e1 : decide ((n : Int) < 16) = true := by simp; omega
    rw [digB_lt h]
    unfold hexS
    clear ih
    go_enter Tryd.func11, Tryd.ntmps11
    go_wp2
    go_ret
    exact ⟨rfl, 0, rfl⟩
  · have e1 : decide ((n : Int) < 16) = false := by simp; omega
    have hlt : n / 16 < n := Nat.div_lt_self (by omega) (by omega)
    have hrec := fun X => ih (n / 16) hlt (by omega) X
    have hD := digB_ge h (by omega)
    rw [hD]
    unfold hexS
    have hsz : (digB 16 (n / 16)).size ≤ n / 16 + 1 := by
      have := digL_length (b := 16) (by omega) (n / 16) (by omega)
      unfold digB
      show (digL 16 (n / 16)).toArray.size ≤ _
      simpa using this
    obtain ⟨d, hd⟩ : ∃ d, digB 16 (n / 16) = d := ⟨_, rfl⟩
    rw [hd] at hrec hsz ⊢
    obtain ⟨q, hq⟩ : ∃ q, n / 16 = q := ⟨_, rfl⟩
    obtain ⟨r, hr⟩ : ∃ r, n % 16 = r := ⟨_, rfl⟩
    have hq' : (n : Int) / 16 = (q : Int) := by omega
    have hr' : (n : Int) % 16 = (r : Int) := by omega
    have hr16 : r < 16 := by omega
    have hqm : q ≤ 429496730 := by omega
    rw [hq] at hrec hsz
    rw [hr]
    clear ih hlt hq hr hd hD
    go_enter Tryd.func11, Tryd.ntmps11
    go_wp2_with fail
    go_quiet ((go_at_call 11; exact Calls.quiet_of (hrec _)))
    go_wp2
    go_ret
    exact ⟨rfl, _, rfl⟩
end Go.Proofs.YtndlififfofcmaaDoor
