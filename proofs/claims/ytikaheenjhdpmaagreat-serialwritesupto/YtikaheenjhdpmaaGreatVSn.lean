/-
  Of a number that is none nothing is written.
-/
import Derived.Test.YtikaheenjhdpmaaGreatVX4
namespace Go.Proofs.YtikaheenjhdpmaaGreat
open Go.RowKit
set_option linter.unusedVariables false
set_option maxRecDepth 100000
set_option maxHeartbeats 4000000
theorem zjf {K : Nat -> Prop} {p : Nat} {M : Dm} {z : Int} (hz : z < 0 \/ (M.n : Int) <= z) (hn : M.n <= 100000) (w : World) (hX : DX K w p M) (sr : Bool) (la : Option Addr) (rn rc : Nat) :
  Calls Tryz.prog 21 #[.pointer (some ⟨p, 0, none⟩), .int .i64 z, .agg #[.bool sr, .slice la rn rc]] w fun e w' => e = .returned (.string ⟨#[]⟩) /\ Kept (fun k => k < w.heap.size) w w' := by
 obtain ⟨W, N, hW, hN, hb, hkW, hzW⟩ := zae w #[.bool sr, .slice la rn rc] 41
 have r9 := zc4 K p M z W (hX.kept hkW) hz (by omega)
 have HW : Hid (w.alloc (.cells #[.bool sr, .slice la rn rc] 41) = W) := hW
 have HN : Hid (w.heap.size = N) := hN
 have HKW : Hid (Kept (fun k => k < w.heap.size) w W) := hkW
 clear hX hz hW hN hb hkW hzW
 go_enter Tryz.func21, Tryz.ntmps21
 go_upto_region 1 with fail
 rw [HW.out, HN.out]
 clear HW HN
 go_wp2_with fail
 refine r9.mono ?_
 rintro e w1 ⟨rfl, hK⟩
 have HK : Hid (Kept (fun k => k < w.heap.size) w w1) := HKW.out.trans (hK.mono fun k h => ltl h HKW.out.size)
 clear r9 hK HKW
 go_wp2
 go_ret
 exact ⟨rfl, HK.out.alloc (fun _ h => ltl h HK.out.size) _⟩
theorem zjc {K : Nat -> Prop} {p : Nat} {M : Dm} {z : Int} (hz : z < 0 \/ (M.n : Int) <= z) (hn : M.n <= 100000) (w : World) (hX : DX K w p M) (sr : Bool) (la : Option Addr) (rn rc : Nat) :
  Calls Tryz.prog 23 #[.pointer (some ⟨p, 0, none⟩), .int .i64 z, .agg #[.bool sr, .slice la rn rc]] w fun e w' => e = .returned (.string ⟨#[]⟩) /\ Kept (fun k => k < w.heap.size) w w' := by
 obtain ⟨W, N, hW, hN, hb, hkW, hzW⟩ := zae w #[.bool sr, .slice la rn rc] 41
 have r9 := zc4 K p M z W (hX.kept hkW) hz (by omega)
 have HW : Hid (w.alloc (.cells #[.bool sr, .slice la rn rc] 41) = W) := hW
 have HN : Hid (w.heap.size = N) := hN
 have HKW : Hid (Kept (fun k => k < w.heap.size) w W) := hkW
 clear hX hz hW hN hb hkW hzW
 go_enter Tryz.func23, Tryz.ntmps23
 go_upto_region 1 with fail
 rw [HW.out, HN.out]
 clear HW HN
 go_wp2_with fail
 refine r9.mono ?_
 rintro e w1 ⟨rfl, hK⟩
 have HK : Hid (Kept (fun k => k < w.heap.size) w w1) := HKW.out.trans (hK.mono fun k h => ltl h HKW.out.size)
 clear r9 hK HKW
 go_wp2
 go_ret
 exact ⟨rfl, HK.out.alloc (fun _ h => ltl h HK.out.size) _⟩
end Go.Proofs.YtikaheenjhdpmaaGreat
