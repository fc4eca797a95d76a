/-
  SerialWrites where there is too much to look at.
-/
import Derived.Test.YtikaheenjhdpmaaGreatVWt
namespace Go.Proofs.YtikaheenjhdpmaaGreat
open Go.RowKit Go.Sort
set_option linter.unusedVariables false
set_option maxRecDepth 100000
set_option maxHeartbeats 8000000
theorem zf6 (a : Option Addr) (n c : Nat) (w : World) (z : Int) (sr : Bool) (la : Option Addr) (rn rc : Nat) (hv : Bool) (rh : ∀ X, Kept (fun k => k < w.heap.size) w X -> Calls Tryz.prog 16 #[.slice a n c] X fun e w' => e = .returned (.bool hv) /\ Kept (fun k => k < X.heap.size) X w') (hno : hv = true \/ 60 < rn) :
  Calls Tryz.prog 5 #[.slice a n c, .int .i64 z, .agg #[.bool sr, .slice la rn rc]] w fun e w' => e = .returned (.bool true) /\ Kept (fun k => k < w.heap.size) w w' := by
 obtain ⟨W0, NB, hW0, hNB, hbB, hkB, hzB⟩ := zae w #[.bool sr, .slice la rn rc] 41
 have rh0 := rh W0 hkB
 have HBB : Hid (W0.heap[NB]? = some (.cells #[.bool sr, .slice la rn rc] 41 (0, 0))) := hbB
 have HKB : Hid (Kept (fun k => k < w.heap.size) w W0) := hkB
 have HW0 : Hid (w.alloc (.cells #[.bool sr, .slice la rn rc] 41) = W0) := hW0
 have HNB : Hid (w.heap.size = NB) := hNB
 clear rh hW0 hNB hbB hkB hzB
 cases hv with
 | true =>
  clear hno
  go_enter Tryz.func5, Tryz.ntmps5
  go_upto_region 1 with fail
  rw [HW0.out, HNB.out]
  clear HW0 HNB
  go_wp2_with fail
  refine rh0.mono ?_
  rintro e w1 ⟨rfl, k1⟩
  have rk0 := zdt w1
  have HK1 : Hid (Kept (fun k => k < w.heap.size) w w1) := HKB.out.trans (k1.mono fun k h => ltl h HKB.out.size)
  clear rh0 k1
  go_wp2_with fail
  refine rk0.mono ?_
  rintro e w2 ⟨rfl, k2⟩
  have HK2 : Hid (Kept (fun k => k < w.heap.size) w w2) := HK1.out.trans (k2.mono fun k h => ltl h HK1.out.size)
  clear rk0 k2
  go_wp2
  go_ret
  exact ⟨rfl, HK2.out⟩
 | false =>
  have e60 : decide ((rn : Int) > 60) = true := decide_eq_true (by rcases hno with h | h; cases h; omega)
  clear hno
  go_enter Tryz.func5, Tryz.ntmps5
  go_upto_region 1 with fail
  rw [HW0.out, HNB.out]
  clear HW0 HNB
  go_wp2_with fail
  refine rh0.mono ?_
  rintro e w1 ⟨rfl, k1⟩
  have rk0 := zdt w1
  have hh : w1.heap[NB]? = some (.cells #[.bool sr, .slice la rn rc] 41 (0, 0)) := (k1.block NB (zac HBB.out)).trans HBB.out
  have o1 : w1.cell? ⟨NB, 1, none⟩ = some (.slice la rn rc) := by rw [zaa hh]; rfl
  have HK1 : Hid (Kept (fun k => k < w.heap.size) w w1) := HKB.out.trans (k1.mono fun k h => ltl h HKB.out.size)
  clear rh0 k1 hh
  go_wp2_with fail
  refine rk0.mono ?_
  rintro e w2 ⟨rfl, k2⟩
  have HK2 : Hid (Kept (fun k => k < w.heap.size) w w2) := HK1.out.trans (k2.mono fun k h => ltl h HK1.out.size)
  clear rk0 k2
  go_wp2
  go_ret
  exact ⟨rfl, HK2.out⟩
end Go.Proofs.YtikaheenjhdpmaaGreat
