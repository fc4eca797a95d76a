/-
  QueryTells where it is too much.
-/
import Derived.Test.YtojbjiopilkbgaaGreatVTe
namespace Go.Proofs.YtojbjiopilkbgaaGreat
set_option maxRecDepth 100000
open Go.RowKit Go.Sort
set_option linter.unusedVariables false
set_option maxRecDepth 20000
set_option maxHeartbeats 4000000
theorem zq1 (a : Option Addr) (n c : Nat) (w : World) (ky : Int) (S T : ByteArray) (hb : Bool) (rh : Calls Tryz.prog 34 #[.slice a n c] w fun e w' => e = .returned (.bool hb) /\ Kept (fun k => k < w.heap.size) w w') (hc : hb = true \/ 300 < S.size \/ 300 < T.size) :
  Calls Tryz.prog 8 #[.slice a n c, .int .u8 ky, .string S, .string T] w fun e w' => e = .returned (.bool true) /\ Kept (fun k => k < w.heap.size) w w' := by
 obtain ⟨b1, h1⟩ : ∃ b, decide ((S.size : Int) > 300) = b := ⟨_, rfl⟩
 obtain ⟨b2, h2⟩ : ∃ b, decide ((T.size : Int) > 300) = b := ⟨_, rfl⟩
 have hor : (hb || b1 || b2) = true := by
  rcases hc with h | h | h
  ·rw [h]; rfl
  ·rw [<- h1, decide_eq_true (by omega : (S.size : Int) > 300)]; simp
  ·rw [<- h2, decide_eq_true (by omega : (T.size : Int) > 300)]; simp
 clear hc
 cases hb <;> cases b1 <;> cases b2 <;> first | (exact absurd hor (by decide)) | skip
 all_goals
  clear hor
  go_enter Tryz.func8, Tryz.ntmps8
  go_wp2_with fail
  refine rh.mono ?_
  rintro e w1 ⟨rfl, k1⟩
  have rk := zbf w1
  have HK1 : Hid (Kept (fun k => k < w.heap.size) w w1) := k1
  clear rh k1
  go_wp2_with fail
  refine rk.mono ?_
  rintro e w2 ⟨rfl, hk2⟩
  have HK2 : Hid (Kept (fun k => k < w.heap.size) w w2) := HK1.out.trans (hk2.mono fun k h => ltl h HK1.out.size)
  clear rk hk2
  go_wp2
  go_ret
  exact ⟨rfl, HK2.out⟩
end Go.Proofs.YtojbjiopilkbgaaGreat
