/-
  What the Go function input.behind answers for every byte: the walks, class by class, and behind_any.
-/
import Derived.Test.YtnfallgpnoofiaaProg
import Derived.Test.YtnfallgpnoofiaaBase
import Derived.Test.YtnfallgpnoofiaaPure
import Derived.Deep.Light
namespace Go.Proofs.Ytnfallgpnoofiaa
open Go.RowKit
set_option linter.unusedVariables false
set_option maxHeartbeats 400000 in
theorem beh1 (n : Int) (w : World) (h1 : 194 ≤ n) (h2 : n ≤ 223) :
    Calls Try.prog 19 #[.int .u8 n] w fun e w' => e = .returned (.agg #[.int .i64 1, .int .u8 128, .int .u8 191]) ∧ ∃ o, w' = w.alloc o := by
  go_enter Try.func19, Try.ntmps19
  go_wp2
  all_goals exact bodyPost_ret (v := .agg #[.int .i64 1, .int .u8 128, .int .u8 191]) (by simp [results, Try.results19, go_sem]) rfl ⟨rfl, _, rfl⟩

set_option maxHeartbeats 400000 in
theorem beh2 (n : Int) (w : World) (h0 : n = 224) :
    Calls Try.prog 19 #[.int .u8 n] w fun e w' => e = .returned (.agg #[.int .i64 2, .int .u8 160, .int .u8 191]) ∧ ∃ o, w' = w.alloc o := by
  subst h0
  go_enter Try.func19, Try.ntmps19
  go_wp2
  all_goals exact bodyPost_ret (v := .agg #[.int .i64 2, .int .u8 160, .int .u8 191]) (by simp [results, Try.results19, go_sem]) rfl ⟨rfl, _, rfl⟩

set_option maxHeartbeats 400000 in
theorem beh3 (n : Int) (w : World) (h0 : n = 237) :
    Calls Try.prog 19 #[.int .u8 n] w fun e w' => e = .returned (.agg #[.int .i64 2, .int .u8 128, .int .u8 159]) ∧ ∃ o, w' = w.alloc o := by
  subst h0
  go_enter Try.func19, Try.ntmps19
  go_wp2
  all_goals exact bodyPost_ret (v := .agg #[.int .i64 2, .int .u8 128, .int .u8 159]) (by simp [results, Try.results19, go_sem]) rfl ⟨rfl, _, rfl⟩

set_option maxHeartbeats 400000 in
theorem beh4 (n : Int) (w : World) (h1 : 225 ≤ n) (h2 : n ≤ 239) (h3 : (n == 237) = false) :
    Calls Try.prog 19 #[.int .u8 n] w fun e w' => e = .returned (.agg #[.int .i64 2, .int .u8 128, .int .u8 191]) ∧ ∃ o, w' = w.alloc o := by
  go_enter Try.func19, Try.ntmps19
  go_wp2
  all_goals exact bodyPost_ret (v := .agg #[.int .i64 2, .int .u8 128, .int .u8 191]) (by simp [results, Try.results19, go_sem]) rfl ⟨rfl, _, rfl⟩

set_option maxHeartbeats 400000 in
theorem beh5 (n : Int) (w : World) (h0 : n = 240) :
    Calls Try.prog 19 #[.int .u8 n] w fun e w' => e = .returned (.agg #[.int .i64 3, .int .u8 144, .int .u8 191]) ∧ ∃ o, w' = w.alloc o := by
  subst h0
  go_enter Try.func19, Try.ntmps19
  go_wp2
  all_goals exact bodyPost_ret (v := .agg #[.int .i64 3, .int .u8 144, .int .u8 191]) (by simp [results, Try.results19, go_sem]) rfl ⟨rfl, _, rfl⟩

set_option maxHeartbeats 400000 in
theorem beh6 (n : Int) (w : World) (h0 : n = 244) :
    Calls Try.prog 19 #[.int .u8 n] w fun e w' => e = .returned (.agg #[.int .i64 3, .int .u8 128, .int .u8 143]) ∧ ∃ o, w' = w.alloc o := by
  subst h0
  go_enter Try.func19, Try.ntmps19
  go_wp2
  all_goals exact bodyPost_ret (v := .agg #[.int .i64 3, .int .u8 128, .int .u8 143]) (by simp [results, Try.results19, go_sem]) rfl ⟨rfl, _, rfl⟩

set_option maxHeartbeats 400000 in
theorem beh7 (n : Int) (w : World) (h1 : 241 ≤ n) (h2 : n ≤ 243) :
    Calls Try.prog 19 #[.int .u8 n] w fun e w' => e = .returned (.agg #[.int .i64 3, .int .u8 128, .int .u8 191]) ∧ ∃ o, w' = w.alloc o := by
  go_enter Try.func19, Try.ntmps19
  go_wp2
  all_goals exact bodyPost_ret (v := .agg #[.int .i64 3, .int .u8 128, .int .u8 191]) (by simp [results, Try.results19, go_sem]) rfl ⟨rfl, _, rfl⟩

set_option maxHeartbeats 400000 in
theorem beh8 (n : Int) (w : World) (h2 : n < 194) :
    Calls Try.prog 19 #[.int .u8 n] w fun e w' => e = .returned (.agg #[.int .i64 0, .int .u8 0, .int .u8 0]) ∧ ∃ o, w' = w.alloc o := by
  go_enter Try.func19, Try.ntmps19
  go_wp2
  all_goals exact bodyPost_ret (v := .agg #[.int .i64 0, .int .u8 0, .int .u8 0]) (by simp [results, Try.results19, go_sem]) rfl ⟨rfl, _, rfl⟩

set_option maxHeartbeats 400000 in
theorem beh9 (n : Int) (w : World) (h2 : 244 < n) :
    Calls Try.prog 19 #[.int .u8 n] w fun e w' => e = .returned (.agg #[.int .i64 0, .int .u8 0, .int .u8 0]) ∧ ∃ o, w' = w.alloc o := by
  go_enter Try.func19, Try.ntmps19
  go_wp2
  all_goals exact bodyPost_ret (v := .agg #[.int .i64 0, .int .u8 0, .int .u8 0]) (by simp [results, Try.results19, go_sem]) rfl ⟨rfl, _, rfl⟩

def behV (c : UInt8) : Value := .agg #[.int .i64 (behindS c).1, bv (behindS c).2.1, bv (behindS c).2.2]
theorem behV_eq {c : UInt8} (k : Nat) (lo hi : UInt8) (h : behindS c = (k, lo, hi)) : behV c = .agg #[.int .i64 k, bv lo, bv hi] := by
  unfold behV; rw [h]
theorem behind_any (c : UInt8) (w : World) :
    Calls Try.prog 19 #[.int .u8 c.toNat] w fun e w' => e = .returned (behV c) ∧ ∃ o, w' = w.alloc o := by
  have hc := c.toNat_lt
  by_cases c1 : 194 ≤ c.toNat ∧ c.toNat ≤ 223
  · rw [behV_eq 1 128 191 (by simp [behindS, c1])]; exact beh1 _ w (by omega) (by omega)
  by_cases c2 : c.toNat = 224
  · rw [behV_eq 2 160 191 (by simp [behindS, c2])]; exact beh2 _ w (by omega)
  by_cases c3 : c.toNat = 237
  · rw [behV_eq 2 128 159 (by simp [behindS, c3])]; exact beh3 _ w (by omega)
  by_cases c4 : 225 ≤ c.toNat ∧ c.toNat ≤ 239
  · rw [behV_eq 2 128 191 (by unfold behindS; rw [if_neg c1, if_neg c2, if_neg c3, if_pos c4])]; exact beh4 _ w (by omega) (by omega) (by simp; omega)
  by_cases c5 : c.toNat = 240
  · rw [behV_eq 3 144 191 (by simp [behindS, c5])]; exact beh5 _ w (by omega)
  by_cases c6 : c.toNat = 244
  · rw [behV_eq 3 128 143 (by simp [behindS, c6])]; exact beh6 _ w (by omega)
  by_cases c7 : 241 ≤ c.toNat ∧ c.toNat ≤ 243
  · rw [behV_eq 3 128 191 (by unfold behindS; rw [if_neg c1, if_neg c2, if_neg c3, if_neg c4, if_neg c5, if_neg c6, if_pos c7])]; exact beh7 _ w (by omega) (by omega)
  rw [behV_eq 0 0 0 (by unfold behindS; rw [if_neg c1, if_neg c2, if_neg c3, if_neg c4, if_neg c5, if_neg c6, if_neg c7])]
  by_cases c8 : c.toNat < 194
  · exact beh8 _ w (by omega)
  · exact beh9 _ w (by omega)


end Go.Proofs.Ytnfallgpnoofiaa
