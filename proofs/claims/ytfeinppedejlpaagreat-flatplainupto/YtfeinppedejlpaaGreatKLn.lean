/-
  portierelaw13: known.
-/
import Derived.Test.YtfeinppedejlpaaGreatKLm
namespace Go.Proofs.YtfeinppedejlpaaGreat
set_option maxHeartbeats 8000000
set_option maxRecDepth 100000
open Go.RowKit
set_option linter.unusedVariables false
theorem zdw (w : World) : Calls Tryz.prog 39 #[] w fun e w' => e = .returned (.bool true) /\ Kept (fun k => k < w.heap.size) w w' := by
 have r0 := zej 9 w (by decide) (by decide)
 go_enter Tryz.func39, Tryz.ntmps39
 go_wp2_with fail
 refine r0.mono ?_
 rintro e w1 ⟨p, rfl, hp, hX1, hK1⟩
 have k1 : Kn (fun k => k < w.heap.size) w1 p (Dm.new 9) (fun _ => []) (fun _ => []) := Kn.new (w0 := w) hX1 (by decide) (by decide)
 have r1 := k1.make 1 1 zuv ⟨#[]⟩ [100, 105, 118] [] rfl zgf zbs zgk (by decide) (by decide)
 have HK1 : Hid (Kept (fun k => k < w.heap.size) w w1) := hK1
 clear r0 hX1 hK1 k1 hp
 go_wp2_with fail
 refine r1.mono ?_
 rintro e w2 ⟨rfl, k2, hK2⟩
 have r2 := k2.make 2 2 ⟨#[]⟩ ⟨#[120]⟩ [] [120] rfl zbs zko zgt (by decide) (by decide)
 have HK2 : Hid (Kept (fun k => k < w.heap.size) w w2) := HK1.out.trans hK2
 clear r1 k2 hK2
 go_wp2_with fail
 refine r2.mono ?_
 rintro e w3 ⟨rfl, k3, hK3⟩
 have r3 := k3.make 1 1 zjb ⟨#[]⟩ [115, 108, 111, 116] [] rfl zc1 zbs zf7 (by decide) (by decide)
 have HK3 : Hid (Kept (fun k => k < w.heap.size) w w3) := HK2.out.trans hK3
 clear r2 k3 hK3
 go_wp2_with fail
 refine r3.mono ?_
 rintro e w4 ⟨rfl, k4, hK4⟩
 have r4 := k4.root (host := 1) fg0 (by decide) (by kernel_rfl) (by kernel_rfl) (by decide)
 have HK4 : Hid (Kept (fun k => k < w.heap.size) w w4) := HK3.out.trans hK4
 clear r3 k4 hK4
 go_wp2_with fail
 refine r4.mono ?_
 rintro e w5 ⟨rfl, k5, hK5⟩
 have k5' : ∃ G, Kn (fun k => k < w.heap.size) w5 p q4 q4R G := ⟨_, k5⟩
 obtain ⟨G, k5⟩ := k5'
 have r5 := k5.ins (up := 1) (i := 2) (-1) (by decide +kernel) (by decide +kernel) (.inl rfl) qF4
 have HK5 : Hid (Kept (fun k => k < w.heap.size) w w5) := HK4.out.trans hK5
 clear r4 hK5 k5
 go_wp2_with fail
 refine r5.mono ?_
 rintro e w6 ⟨rfl, k6, hK6⟩
 have k6' : Kn (fun k => k < w.heap.size) w6 p q5 q5R G := k6
 have r6 := k6'.ins (up := 4) (i := 3) (-1) (by decide +kernel) (by decide +kernel) (.inl rfl) qF5
 have HK6 : Hid (Kept (fun k => k < w.heap.size) w w6) := HK5.out.trans hK6
 clear r5 hK6 k6 k6'
 go_wp2_with fail
 refine r6.mono ?_
 rintro e w7 ⟨rfl, k7, hK7⟩
 have k7' : Kn (fun k => k < w.heap.size) w7 p q6 q6R G := k7
 obtain ⟨rk, hR⟩ := k7'.rd
 have HK7 : Hid (Kept (fun k => k < w.heap.size) w w7) := HK6.out.trans hK7
 have HR : Hid (Rd (fun k => k < w.heap.size) w7 p q6 q6R G rk) := hR
 have n5 : q6.n = 5 := by kernel_rfl
 have ra := hR.kids 1
 have ea : fKI q6 q6R G 1 = [3] := (zex (i := 1) (by rw [n5]; decide)).trans zvp
 rw [ea] at ra
 have RB : Hid (∀ X, Kept (fun k => k < w7.heap.size) w7 X -> Calls Tryz.prog 45 #[.pointer (some ⟨p, 0, none⟩), .int .i64 3] X (Lst X [2])) := fun X hX => by
  have := (HR.out.kept hX).kids 3
  rw [show fKI q6 q6R G 3 = [2] from (zex (i := 3) (by rw [n5]; decide)).trans zu2] at this
  exact this
 have RW : Hid (∀ X, Kept (fun k => k < w7.heap.size) w7 X -> Calls Tryz.prog 42 #[.pointer (some ⟨p, 0, none⟩), .int .i64 1] X (Lst X [1, 3, 2])) := fun X hX => by
  have := (HR.out.kept hX).walk 1
  rw [show trI q6.n (fK q6 q6R G) 1 = [1, 3, 2] from (zdd (i := 1) (by rw [n5]; decide)).trans (q6W HR.out.inv)] at this
  exact this
 have RU2 : Hid (∀ X, Kept (fun k => k < w7.heap.size) w7 X -> Calls Tryz.prog 44 #[.pointer (some ⟨p, 0, none⟩), .int .i64 2] X fun e w' => e = .returned (.int .i64 3) /\ Kept (fun k => k < X.heap.size) X w') := fun X hX => by
  have := (HR.out.kept hX).up 2
  rw [show upI q6 q6R G 2 = 3 from (zj3 (i := 2) (by rw [n5]; decide)).trans (zv7 HR.out.inv)] at this
  exact this
 have RU3 : Hid (∀ X, Kept (fun k => k < w7.heap.size) w7 X -> Calls Tryz.prog 44 #[.pointer (some ⟨p, 0, none⟩), .int .i64 3] X fun e w' => e = .returned (.int .i64 1) /\ Kept (fun k => k < X.heap.size) X w') := fun X hX => by
  have := (HR.out.kept hX).up 3
  rw [show upI q6 q6R G 3 = 1 from (zj3 (i := 3) (by rw [n5]; decide)).trans (zv8 HR.out.inv)] at this
  exact this
 clear r6 hK7 k7 k7' hR ea n5
 go_wp2_with fail
 refine ra.mono ?_
 rintro e w8 ⟨ga, ca, rfl, hO8, hk8⟩
 obtain ⟨g8, rfl, hg8, c8⟩ := zh9 hO8
 have rb := RB.out w8 hk8
 have HK8 : Hid (Kept (fun k => k < w7.heap.size) w7 w8) := hk8
 clear ra hO8 hk8
 go_wp2_with fail
 refine rb.mono ?_
 rintro e w9 ⟨gb, cb, rfl, hO9, hk9⟩
 obtain ⟨g9, rfl, hg9, c9⟩ := zh9 hO9
 have k79 : Kept (fun k => k < w7.heap.size) w7 w9 := kt HK8.out hk9
 have rw1 := RW.out w9 k79
 have d8 : w9.cell? ⟨g8, 0, none⟩ = some (.int .i64 3) := (hk9.cell (p := ⟨g8, 0, none⟩) hg8).trans c8
 have hg8' : g8 < w9.heap.size := ltl hg8 hk9.size
 have HK9 : Hid (Kept (fun k => k < w7.heap.size) w7 w9) := k79
 clear rb hO9 hk9 k79 c8 hg8
 go_wp2_with fail
 refine rw1.mono ?_
 rintro e w10 ⟨gc, cc, rfl, -, hk10⟩
 have k710 : Kept (fun k => k < w7.heap.size) w7 w10 := kt HK9.out hk10
 have e8 : w10.cell? ⟨g8, 0, none⟩ = some (.int .i64 3) := (hk10.cell (p := ⟨g8, 0, none⟩) hg8').trans d8
 have e9 : w10.cell? ⟨g9, 0, none⟩ = some (.int .i64 2) := (hk10.cell (p := ⟨g9, 0, none⟩) hg9).trans c9
 have ru2 := RU2.out w10 k710
 have HK10 : Hid (Kept (fun k => k < w7.heap.size) w7 w10) := k710
 clear rw1 hk10 k710 d8 c9 hg8' hg9
 go_wp2_with fail
 refine ru2.mono ?_
 rintro e w11 ⟨rfl, hk11⟩
 have k711 : Kept (fun k => k < w7.heap.size) w7 w11 := kt HK10.out hk11
 have ru3 := RU3.out w11 k711
 have HK11 : Hid (Kept (fun k => k < w7.heap.size) w7 w11) := k711
 clear ru2 hk11 k711 e8 e9
 go_wp2_with fail
 refine ru3.mono ?_
 rintro e w12 ⟨rfl, hk12⟩
 have HK12 : Hid (Kept (fun k => k < w.heap.size) w w12) := (kt HK7.out HK11.out).trans (hk12.mono fun k h => ltl h (Nat.le_trans HK7.out.size HK11.out.size))
 clear ru3 hk12
 go_wp2
 go_ret
 exact ⟨rfl, HK12.out⟩
end Go.Proofs.YtfeinppedejlpaaGreat
