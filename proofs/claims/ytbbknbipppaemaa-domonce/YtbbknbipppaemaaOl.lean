/-
  The walk of DomOnce, where there are more moves than are looked at.
-/
import Derived.Test.YtbbknbipppaemaaOn
namespace Go.Proofs.Ytbbknbipppaemaa
open Go.RowKit
set_option linter.unusedVariables false
set_option maxRecDepth 20000 in
set_option maxHeartbeats 1000000 in
theorem once_long (N : Nat) (hN : N ≤ 30) (z : Int) (hz : z + 2 = (N : Int)) (a0 : Int) (h0 : 0 ≤ a0) (hz0 : 0 ≤ z) (hz1 : z < 20) (hmt : a0.tmod 20 = z) (a1 : Option Addr) (len cap : Nat) (hlen : 60 < len) (w : World) :
    Calls Try.prog 6 #[.int .u8 a0, .slice a1 len cap] w fun e w' => e = .returned (.bool true) ∧ Kept (fun k => k < w.heap.size) w w' := by
  have rp := plain_any N (by omega) w
  have hgt : decide ((len : Int) > 60) = true := decide_eq_true (by omega)
  have hz2 : (2 : Int) + z = (N : Int) := by omega
  clear hz
  go_enter Try.func6, Try.ntmps6
  go_wp2_with fail
  try rw [hz2]
  refine rp.mono ?_
  rintro e w1 ⟨p, M0, R0, rk0, rfl, hp, hX0, hG0, hD0, -, hK0⟩
  have rk := known_any w1
  have HK0 : Hid (Kept (fun k => k < w.heap.size) w w1) := hK0
  clear rp hG0 hD0 hK0 hX0
  go_wp2_with fail
  refine rk.mono ?_
  rintro e w2 ⟨rfl, k2⟩
  have HK2 : Hid (Kept (fun k => k < w.heap.size) w w2) := HK0.out.trans (k2.mono fun k h => Nat.lt_of_lt_of_le h HK0.out.size)
  clear rk k2
  go_wp2
  go_ret
  exact ⟨rfl, HK2.out⟩
end Go.Proofs.Ytbbknbipppaemaa
