/-
  What names.Custom answers.
-/
import Derived.Test.YtikaheenjhdpmaaP15
import Derived.Laws.StandIn
import Derived.Laws.Externs
import Derived.Laws.Runes
namespace Go.Proofs.Ytikaheenjhdpmaa
open Go.RowKit
def takenL : List (List UInt8) := [[97, 110, 110, 111, 116, 97, 116, 105, 111, 110, 45, 120, 109, 108], [99, 111, 108, 111, 114, 45, 112, 114, 111, 102, 105, 108, 101], [102, 111, 110, 116, 45, 102, 97, 99, 101], [102, 111, 110, 116, 45, 102, 97, 99, 101, 45, 115, 114, 99], [102, 111, 110, 116, 45, 102, 97, 99, 101, 45, 117, 114, 105], [102, 111, 110, 116, 45, 102, 97, 99, 101, 45, 102, 111, 114, 109, 97, 116], [102, 111, 110, 116, 45, 102, 97, 99, 101, 45, 110, 97, 109, 101], [109, 105, 115, 115, 105, 110, 103, 45, 103, 108, 121, 112, 104]]
def takenP (l : List UInt8) : Bool := takenL.any (l == ·)
def dashP (l : List UInt8) : Bool := l.any (· == 45)
def customP (l : List UInt8) : Bool := validP l && dashP l && !takenP l

set_option maxRecDepth 20000 in
set_option maxHeartbeats 4000000 in
theorem taken_any (s : ByteArray) (K : Nat → Prop) (w : World) :
    Calls Try.prog 64 #[.string s] w fun e w' => e = .returned (.bool (takenP s.toList)) ∧ Kept K w w' := by
  go_enter Try.func64, Try.ntmps64
  go_wp2
  all_goals first | (simp_all; done) | (go_ret; exact ⟨by simp [takenP, takenL, *], Kept.refl _ _⟩)
theorem runH_ibs (s : ByteArray) (c : Int) (w : World) : (callFunc 75 #[.string s, .int .u8 c]).run Try.prog w = .ok (.value (.int .i64 (firstIdx s c.toNat.toUInt8))) w := by
  rw [run_callFunc_indexByte Try.func75 (by kernel_rfl) (by kernel_rfl) (by kernel_rfl) (by kernel_rfl), run_indexByte_string]
  rfl

theorem ibH_any (s : ByteArray) (K : Nat → Prop) (w : World) :
    Calls Try.prog 65 #[.string s, .int .u8 45] w fun e w' => e = .returned (.int .i64 (firstIdx s 45)) ∧ Kept K w w' := by
  have h1 := fun X => runH_ibs s 45 X
  go_enter Try.func65, Try.ntmps65
  go_wp2_with fail
  go_ret
  exact ⟨rfl, Kept.refl _ _⟩

def dashI (s : ByteArray) : Int := if ([45] == s.toList) = true then 0 else firstIdx s 45
theorem dashI_ge (s : ByteArray) : decide (dashI s ≥ 0) = dashP s.toList := by
  unfold dashI dashP
  by_cases h : ([45] == s.toList) = true
  · rw [if_pos h]
    have : [45] = s.toList := by simpa using h
    rw [← this]
    rfl
  · rw [if_neg h, ByteArray.toList_eq]
    exact firstIdx_nonneg s 45

set_option maxRecDepth 20000 in
theorem slindexH_any (s : ByteArray) (K : Nat → Prop) (w : World) :
    Calls Try.prog 81 #[.string s, .string ⟨#[45]⟩] w fun e w' => e = .returned (.int .i64 (dashI s)) ∧ Kept K w w' := by
  have h1 := fun X => ibH_any s K X
  by_cases h0 : ([45] == s.toList) = true
  · have hd : dashI s = 0 := by unfold dashI; rw [if_pos h0]
    rw [hd]
    go_enter Try.func81, Try.ntmps81
    go_wp2
    go_ret
    exact ⟨rfl, Kept.refl _ _⟩
  · have hd : dashI s = firstIdx s 45 := by unfold dashI; rw [if_neg h0]
    rw [hd]
    have h0 : ([45] == s.toList) = false := by simpa using h0
    go_enter Try.func81, Try.ntmps81
    go_wp2_with fail
    refine (h1 _).mono ?_
    rintro e w1 ⟨rfl, hk1⟩
    go_wp2
    go_ret
    exact ⟨rfl, hk1⟩

theorem indexH_any (s : ByteArray) (K : Nat → Prop) (w : World) :
    Calls Try.prog 74 #[.string s, .string ⟨#[45]⟩] w fun e w' => e = .returned (.int .i64 (dashI s)) ∧ Kept K w w' := by
  have h1 := fun X => slindexH_any s K X
  go_enter Try.func74, Try.ntmps74
  go_wp2_with fail
  refine (h1 _).mono ?_
  rintro e w1 ⟨rfl, hk1⟩
  go_wp2
  go_ret
  exact ⟨rfl, hk1⟩

theorem containsH_any (s : ByteArray) (K : Nat → Prop) (w : World) :
    Calls Try.prog 63 #[.string s, .string ⟨#[45]⟩] w fun e w' => e = .returned (.bool (dashP s.toList)) ∧ Kept K w w' := by
  have h1 := fun X => indexH_any s K X
  rw [← dashI_ge]
  go_enter Try.func63, Try.ntmps63
  go_wp2_with fail
  refine (h1 _).mono ?_
  rintro e w1 ⟨rfl, hk1⟩
  go_wp2
  go_ret
  exact ⟨rfl, hk1⟩

theorem custom_any (s : ByteArray) (K : Nat → Prop) (w : World) (hK : ∀ k, K k → k < w.heap.size) :
    Calls Try.prog 57 #[.string s] w fun e w' => e = .returned (.bool (customP s.toList)) ∧ Kept K w w' := by
  have h1 := valid_any s K w hK
  have h2 := fun X => containsH_any s K X
  have h3 := fun X => taken_any s K X
  unfold customP
  obtain ⟨v, hv⟩ : ∃ v, validP s.toList = v := ⟨_, rfl⟩
  obtain ⟨d, hd⟩ : ∃ v, dashP s.toList = v := ⟨_, rfl⟩
  obtain ⟨t, ht⟩ : ∃ v, takenP s.toList = v := ⟨_, rfl⟩
  rw [hv] at h1 ⊢
  rw [hd] at h2 ⊢
  rw [ht] at h3 ⊢
  clear hv hd ht
  cases v with
  | false =>
    go_enter Try.func57, Try.ntmps57
    go_wp2_with fail
    refine h1.mono ?_
    rintro e w1 ⟨rfl, hk1⟩
    go_wp2
    go_ret
    exact ⟨by simp, hk1⟩
  | true =>
    cases d with
    | false =>
      go_enter Try.func57, Try.ntmps57
      go_wp2_with fail
      refine h1.mono ?_
      rintro e w1 ⟨rfl, hk1⟩
      go_wp2_with fail
      refine (h2 _).mono ?_
      rintro e w2 ⟨rfl, hk2⟩
      go_wp2
      go_ret
      exact ⟨by simp, hk1.trans hk2⟩
    | true =>
      go_enter Try.func57, Try.ntmps57
      go_wp2_with fail
      refine h1.mono ?_
      rintro e w1 ⟨rfl, hk1⟩
      go_wp2_with fail
      refine (h2 _).mono ?_
      rintro e w2 ⟨rfl, hk2⟩
      go_wp2_with fail
      refine (h3 _).mono ?_
      rintro e w3 ⟨rfl, hk3⟩
      go_wp2
      go_ret
      exact ⟨by simp, (hk1.trans hk2).trans hk3⟩


end Go.Proofs.Ytikaheenjhdpmaa
