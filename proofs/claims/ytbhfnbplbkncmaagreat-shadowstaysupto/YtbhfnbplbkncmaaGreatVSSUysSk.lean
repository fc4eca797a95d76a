/-
  portierelaw10.known: the chapter's examples.
-/
import Derived.Test.YtbhfnbplbkncmaaGreatVSSUysSb
import Derived.Test.YtbhfnbplbkncmaaGreatZ12
namespace Go.Proofs.YtbhfnbplbkncmaaGreat
open Go.RowKit
set_option linter.unusedVariables false

def aN : Nd := Mk.nd ⟨1, [97], [], []⟩
abbrev aB : ByteArray := ⟨#[97]⟩
theorem aB_list : aB.toList = [97] := by rw [ByteArray.toList_eq]
theorem sound_a : soundN ⟨1, [97], [], []⟩ = true := by kernel_rfl
def f0 : Fg := ⟨false, false, false, false, false⟩
def sM2 : Dm := ((Dm.new 9).add divN).add aN
def sM3 : Dm := sM2.addR 1 f0
theorem sG2 : Good sM2 (updR (updR (fun _ => []) 1 []) 2 []) (fun _ => 0) := ((Good.new 9).add divN (Nat.zero_le _)).add aN (Nat.zero_le _)
theorem sG3 : ∃ R rk, Good sM3 R rk := ⟨_, _, sG2.addR 1 f0 (by decide)⟩
theorem host_divK : hostP (sM2.nd 1).name = true := by kernel_rfl
theorem host_divK3 : hostP (sM3.nd 1).name = true := by kernel_rfl
theorem host_aK3 : hostP (sM3.nd 2).name = false := by kernel_rfl
theorem openK : openI sM3 1 = 3 := by kernel_rfl
theorem shK : (sM3.nd 1).shadow = ((3 : Nat) : Int) := by kernel_rfl
theorem ofK3 : OfOf sM3 3 3 := .yes (t := 3) (.here (by kernel_rfl)) (by kernel_rfl)
theorem ofK1 : OfOf sM3 1 (-1) := .no (t := 1) (.here (by kernel_rfl)) (by show (1 : Nat) ≠ 5; decide)

set_option maxRecDepth 20000 in
set_option maxHeartbeats 2000000 in
theorem sknown_any (w : World) : Calls Tryz.prog 38 #[] w fun e w' => e = .returned (.bool true) ∧ Kept (fun k => k < w.heap.size) w w' := by
  have r0 := new_yes 9 w (by decide) (by decide)
  go_enter Tryz.func38, Tryz.ntmps38
  go_wp2_with fail
  refine r0.mono ?_
  rintro e w1 ⟨p, rfl, hp, hX1, hK1⟩
  have rm := make1 (fun k => k < w.heap.size) p (Dm.new 9) w1 1 1 divB ⟨#[]⟩ [100, 105, 118] [] rfl divB_list empB_list hX1 (by decide) (by decide) sound_div (by decide) (by decide)
  have HK1 : Hid (Kept (fun k => k < w.heap.size) w w1) := hK1
  clear r0 hX1 hK1
  go_upto_region 4 with fail
  go_wp2_with fail
  refine rm.mono ?_
  rintro e w2 ⟨rfl, hX2, hK2⟩
  have rm2 := make1 (fun k => k < w.heap.size) p ((Dm.new 9).add divN) w2 1 1 aB ⟨#[]⟩ [97] [] rfl aB_list empB_list hX2 (by decide) (by decide) sound_a (by decide) (by decide)
  have HK2 : Hid (Kept (fun k => k < w.heap.size) w w2) := HK1.out.trans hK2
  clear rm hX2 hK2 HK1
  go_upto_region 5 with fail
  go_wp2_with fail
  refine rm2.mono ?_
  rintro e w3 ⟨rfl, hX3, hK3⟩
  have hX3' : DX (fun k => k < w.heap.size) w3 p sM2 := hX3
  have ra := attach_in (fun k => k < w.heap.size) p 1 sM2 _ _ f0 w3 hX3' sG2 (by decide) (by decide) (by decide)
  have ra' : Calls Tryz.prog 46 #[.pointer (some ⟨p, 0, none⟩), .int .i64 1, fgV f0] w3 fun e w' => e = .returned (.tuple #[.int .i64 3, .int .u16 0]) ∧ DX (fun k => k < w.heap.size) w' p sM3 ∧ Kept (fun k => k < w.heap.size) w3 w' := ra.mono fun e w' hh => by
    rcases hh with ⟨h1, h2⟩
    cases h2 with
    | host q1 _ _ => exact absurd ⟨by kernel_rfl, host_divK⟩ q1
    | root _ _ q =>
      cases q with
      | host q1 _ _ => exact absurd (by kernel_rfl) q1
      | twice _ q2 _ _ => exact absurd (by kernel_rfl) q2
      | full _ _ q3 _ _ => exact absurd q3 (by decide)
      | made _ _ _ q4 q5 => exact ⟨q4, q5, h1⟩
  have HK3 : Hid (Kept (fun k => k < w.heap.size) w w3) := HK2.out.trans hK3
  clear rm2 hX3 hX3' hK3 HK2 ra
  go_upto_region 6 with fail
  go_wp2_with fail
  refine ra'.mono ?_
  rintro e w4 ⟨rfl, hX4, hK4⟩
  obtain ⟨R, rk, hG⟩ := sG3
  have HG : Hid (Good sM3 R rk) := hG
  have rb := attach_in (fun k => k < w.heap.size) p 1 sM3 R rk f0 w4 hX4 hG (by decide) (by decide) (by decide)
  have rb' : Calls Tryz.prog 46 #[.pointer (some ⟨p, 0, none⟩), .int .i64 1, fgV f0] w4 fun e w' => e = .returned (.tuple #[.int .i64 0, .int .u16 101]) ∧ DX (fun k => k < w.heap.size) w' p sM3 ∧ Kept (fun k => k < w.heap.size) w4 w' := rb.mono fun e w' hh => by
    rcases hh with ⟨h1, h2⟩
    cases h2 with
    | host q1 _ _ => exact absurd ⟨by kernel_rfl, host_divK3⟩ q1
    | root _ _ q =>
      cases q with
      | host q1 _ _ => exact absurd (by kernel_rfl) q1
      | twice _ _ q3 q4 => exact ⟨q3, q4, h1⟩
      | full _ q2 _ _ _ => rw [shK] at q2; exact absurd q2 (by decide)
      | made _ q2 _ _ _ => rw [shK] at q2; exact absurd q2 (by decide)
  have HK4 : Hid (Kept (fun k => k < w.heap.size) w w4) := HK3.out.trans hK4
  clear ra' hX4 hK4 HK3 rb hG
  go_upto_region 7 with fail
  go_wp2_with fail
  refine rb'.mono ?_
  rintro e w5 ⟨rfl, hX5, hK5⟩
  have rc := attach_in (fun k => k < w.heap.size) p 2 sM3 R rk f0 w5 hX5 HG.out (by decide) (by decide) (by decide)
  have rc' : Calls Tryz.prog 46 #[.pointer (some ⟨p, 0, none⟩), .int .i64 2, fgV f0] w5 fun e w' => e = .returned (.tuple #[.int .i64 0, .int .u16 100]) ∧ DX (fun k => k < w.heap.size) w' p sM3 ∧ Kept (fun k => k < w.heap.size) w5 w' := rc.mono fun e w' hh => by
    rcases hh with ⟨h1, h2⟩
    cases h2 with
    | host _ q2 q3 => exact ⟨q2, q3, h1⟩
    | root q1 _ _ => rw [host_aK3] at q1; cases q1
  have HK5 : Hid (Kept (fun k => k < w.heap.size) w w5) := HK4.out.trans hK5
  clear rb' hX5 hK5 HK4 rc
  go_upto_region 8 with fail
  go_wp2_with fail
  refine rc'.mono ?_
  rintro e w6 ⟨rfl, hX6, hK6⟩
  have ro := open_any (fun k => k < w.heap.size) p 1 sM3 R rk w6 hX6 HG.out (by decide) (by decide) (.inr ⟨3, by decide, shK⟩)
  rw [openK] at ro
  have ro3 := fun (X : World) (hk : Kept (fun k => k < w6.heap.size) w6 X) => (of_any (fun k => k < w.heap.size) p 3 sM3 R rk X (hX6.kept hk) HG.out (by decide) (by decide)).mono fun e w' (hh : ∃ z : Int, OfOf sM3 3 z ∧ e = .returned (.int .i64 z) ∧ Kept (fun k => k < X.heap.size) X w') => (show e = .returned (.int .i64 3) ∧ Kept (fun k => k < X.heap.size) X w' by
    obtain ⟨z, h1, h2, h3⟩ := hh
    rw [h1.one ofK3] at h2
    exact ⟨h2, h3⟩)
  have ro1 := fun (X : World) (hk : Kept (fun k => k < w6.heap.size) w6 X) => (of_any (fun k => k < w.heap.size) p 1 sM3 R rk X (hX6.kept hk) HG.out (by decide) (by decide)).mono fun e w' (hh : ∃ z : Int, OfOf sM3 1 z ∧ e = .returned (.int .i64 z) ∧ Kept (fun k => k < X.heap.size) X w') => (show e = .returned (.int .i64 (-1)) ∧ Kept (fun k => k < X.heap.size) X w' by
    obtain ⟨z, h1, h2, h3⟩ := hh
    rw [h1.one ofK1] at h2
    exact ⟨h2, h3⟩)
  have HK6 : Hid (Kept (fun k => k < w.heap.size) w w6) := HK5.out.trans hK6
  clear rc' hX6 hK6 HK5
  go_upto_region 9 with fail
  go_wp2_with fail
  refine ro.mono ?_
  rintro e w7 ⟨rfl, hK7⟩
  have ro3' := ro3 w7 hK7
  clear ro3 ro
  go_wp2_with fail
  refine ro3'.mono ?_
  rintro e w8 ⟨rfl, hK8⟩
  have k8 : Kept (fun k => k < w6.heap.size) w6 w8 := hK7.trans (hK8.mono fun k h => Nat.lt_of_lt_of_le h hK7.size)
  have ro1' := ro1 w8 k8
  clear ro1 ro3' hK7 hK8
  go_wp2_with fail
  refine ro1'.mono ?_
  rintro e w9 ⟨rfl, hK9⟩
  have HK9 : Hid (Kept (fun k => k < w.heap.size) w w9) := (HK6.out.trans (k8.mono fun k h => Nat.lt_of_lt_of_le h HK6.out.size)).trans (hK9.mono fun k h => Nat.lt_of_lt_of_le h (Nat.le_trans HK6.out.size k8.size))
  clear ro1' k8 hK9
  go_wp2
  go_ret
  exact ⟨rfl, HK9.out⟩
end Go.Proofs.YtbhfnbplbkncmaaGreat
