/-
  The chapter's example of query holds.
-/
import Derived.Test.YtojbjiopilkbgaaGreatVQi
import Derived.Test.YtojbjiopilkbgaaGreatVX5
namespace Go.Proofs.YtojbjiopilkbgaaGreat
open Go.RowKit Go.Sort
set_option linter.unusedVariables false
set_option maxRecDepth 100000
set_option maxHeartbeats 4000000
theorem Zai.oneQ {w : World} {N : Nat} {a b : List UInt8} (hb : w.heap[N]? = some (.cells #[sv a, sv b] 104 (0, 0))) : Zai (fun k => k < w.heap.size) w (some ⟨N, 0, none⟩) [⟨a, b⟩] := fun j hj => by
 have : j = 0 := by simp at hj; omega
 subst this
 exact ⟨N, 0, rfl, zae hb, by rw [zaa hb]; rfl, by rw [zaa hb]; rfl⟩
abbrev q01 : Nat -> List Nat := zaw (fun _ => []) 0 [1]
section
variable {L : Nat} {M : Dm} {R G : Nat -> List Nat} {rk : Nat -> Nat}
theorem zrj {x0 x1 : Nd} (hd : Dl L M R G [x0, x1] q01) (hI : Inv M R G rk) (P : Nd -> Bool) : qL M R P 0 = if P x1 = true then [1] else [] := by
 have hn : M.n = 2 := hd.n
 have hr := hd.r
 have e1 : tr M.n R 1 = [1] := by
  rw [ze5 hI.good.falls (by omega), hr]; rfl
 have e0 : tr M.n R 0 = [0, 1] := by
  rw [ze5 hI.good.falls (by omega)]
  have : R 0 = [1] := by rw [hr]; rfl
  rw [this, List.flatMap_cons, List.flatMap_nil, e1]; rfl
 have en : M.nd 1 = x1 := hd.nd 1 (by simp)
 have e2 : trI M.n R 0 = tr M.n R 0 := by
  have := zdp (F := R) (show 0 < M.n by omega)
  exact this
 unfold qL
 rw [e2, e0, List.filter_cons_of_neg (by unfold qF; simp)]
 by_cases c : P x1 = true
 ·rw [if_pos c, List.filter_cons_of_pos (by unfold qF; rw [en, c]; rfl)]; rfl
 ·rw [if_neg c, List.filter_cons_of_neg (by unfold qF; rw [en, Bool.eq_false_iff.2 c, Bool.and_false]; decide)]; rfl
end
theorem zbf (w : World) : Calls Tryz.prog 35 #[] w fun e w' => e = .returned (.bool true) /\ Kept (fun k => k < w.heap.size) w w' := by
 have r0 := zme 9 w (by decide) (by decide)
 go_enter Tryz.func35, Tryz.ntmps35
 go_wp2_with fail
 refine r0.mono ?_
 rintro e w1 ⟨p, rfl, hp, hX1, hK1⟩
 have s1 := Dq.start (by decide) (by decide) hX1
 obtain ⟨V, N, hV, hN, hb, hkV, hzV⟩ := za9 w1 #[sv [105, 100], sv [97]] 104
 have r1 := (s1.kept hkV).makeA 1 ⟨#[100, 105, 118]⟩ ⟨#[]⟩ [⟨[105, 100], [97]⟩] (some ⟨N, 0, none⟩) 1 1 zr5 [100, 105, 118] [] (by rw [ByteArray.toList_eq]) (by rw [ByteArray.toList_eq]) rfl (by decide) (Zai.oneQ hb) (by decide) (by decide +kernel) (by decide) rfl (by decide) (by decide) ⟨by decide, fun _ => by decide⟩
 have HK1 : Hid (Kept (fun k => k < w.heap.size) w V) := hK1.trans (hkV.mono fun k h => ltl h hK1.size)
 have HV : Hid (w1.alloc (.cells #[sv [105, 100], sv [97]] 104) = V) := hV
 have HN : Hid (w1.heap.size = N) := hN
 clear r0 hp hX1 hK1 s1 hV hN hb hkV hzV
 go_upto_region 4 with fail
 go_wp2_with fail
 rw [HV.out, HN.out]
 clear HV HN
 refine r1.mono ?_
 rintro e w2 ⟨rfl, s2, hK2⟩
 have r2 := s2.ins 0 1 (by simp) (by simp) (by decide) (by decide +kernel) (by decide) (by show (1 : Nat) ≠ 5; decide) (by show (1 : Nat) ≠ 4; decide) (fun u _ hm => by cases hm) rfl (fun k hk => by
  have hk2 : k = 0 \/ k = 1 := by simp at hk; omega
  rcases hk2 with rfl | rfl <;> (show (-1 : Int) ≠ ((1 : Nat) : Int); decide))
 have HK2 : Hid (Kept (fun k => k < w.heap.size) w w2) := HK1.out.trans hK2
 clear r1 s2 hK2 HK1
 go_wp2_with fail
 refine r2.mono ?_
 rintro e w3 ⟨rfl, s3, hK3⟩
 obtain ⟨M, R, G, hK, hd⟩ := s3
 obtain ⟨rk, hI⟩ := hK.inv
 have hn : M.n <= 100000 := by have : M.n = 2 := hd.n; omega
 have hD := hK.d
 have HB : Hid (∀ X, Kept (fun k => k < w3.heap.size) w3 X ->
   Calls Tryz.prog 43 #[.pointer (some ⟨p, 0, none⟩), .int .i64 0, .string ⟨#[42]⟩] X (Lst X [1]) /\
   Calls Tryz.prog 38 #[.pointer (some ⟨p, 0, none⟩), .int .i64 0, .string ⟨#[97]⟩] X (fun e w' => e = .returned (.int .i64 1) /\ Kept (fun k => k < X.heap.size) X w') /\
   Calls Tryz.prog 38 #[.pointer (some ⟨p, 0, none⟩), .int .i64 0, .string ⟨#[98]⟩] X (fun e w' => e = .returned (.int .i64 (-1)) /\ Kept (fun k => k < X.heap.size) X w') /\
   Calls Tryz.prog 40 #[.pointer (some ⟨p, 0, none⟩), .int .i64 1, .string ⟨#[100, 105, 118]⟩] X (fun e w' => e = .returned (.int .i64 1) /\ Kept (fun k => k < X.heap.size) X w') /\
   Calls Tryz.prog 45 #[.pointer (some ⟨p, 0, none⟩), .int .i64 0, .string ⟨#[105, 100]⟩, .string ⟨#[97]⟩] X (Lst X [1])) := fun X hX => by
  have d := hD.kept hX
  have b1 := zd6 d hI.good hn ⟨#[42]⟩ 0
  have b2 := zgn d hI.good hn ⟨#[97]⟩ 0 [1] (by rw [zjk [97], zrj hd hI]; decide +kernel)
  have b3 := zgn d hI.good hn ⟨#[98]⟩ 0 [] (by rw [zjk [98], zrj hd hI]; decide +kernel)
  have b4 := ze6 d hI.good hn ⟨#[100, 105, 118]⟩ 1 1 (by
   rw [zjk [100, 105, 118]]
   exact Clo.here (k := 1) (by have : M.n = 2 := hd.n; omega) (by rw [hd.nd 1 (by simp)]; decide +kernel))
  have b5 := zfx d hI.good hn ⟨#[105, 100]⟩ ⟨#[97]⟩ 0
  rw [zjk [42], zrj hd hI] at b1
  rw [zjk [97]] at b2 b5
  rw [zjk [98]] at b3
  rw [zjk [105, 100], zrj hd hI] at b5
  exact ⟨b1, b2, b3, b4, b5⟩
 have HK3 : Hid (Kept (fun k => k < w.heap.size) w w3) := HK2.out.trans hK3
 clear r2 hK hd hI hD hK3 HK2 hn
 have rn := (HB.out w3 (Kept.refl _ _)).1
 go_wp2_with fail
 refine rn.mono ?_
 rintro e w4 ⟨ao, c, rfl, hO, hk4⟩
 obtain ⟨g, o, rfl, -, d⟩ := hO.intsAt (F := fun _ => True) (fun _ _ => trivial) 0 (Nat.succ_pos _)
 have d0 : w4.cell? ⟨g, o, none⟩ = some (.int .i64 1) := d
 have r1 := (HB.out w4 hk4).2.1
 have HK4 : Hid (Kept (fun k => k < w3.heap.size) w3 w4) := hk4
 rw [show ([1] : List Nat).length = 1 from rfl]
 clear rn hO d hk4
 go_wp2_with fail
 refine r1.mono ?_
 rintro e w5 ⟨rfl, hk5⟩
 have HK5 : Hid (Kept (fun k => k < w3.heap.size) w3 w5) := HK4.out.trans (hk5.mono fun k h => ltl h HK4.out.size)
 have r2 := (HB.out w5 HK5.out).2.2.1
 clear r1 hk5 d0
 go_wp2_with fail
 refine r2.mono ?_
 rintro e w6 ⟨rfl, hk6⟩
 have HK6 : Hid (Kept (fun k => k < w3.heap.size) w3 w6) := HK5.out.trans (hk6.mono fun k h => ltl h HK5.out.size)
 have r3 := (HB.out w6 HK6.out).2.2.2.1
 clear r2 hk6
 go_wp2_with fail
 refine r3.mono ?_
 rintro e w7 ⟨rfl, hk7⟩
 have HK7 : Hid (Kept (fun k => k < w3.heap.size) w3 w7) := HK6.out.trans (hk7.mono fun k h => ltl h HK6.out.size)
 have r4 := (HB.out w7 HK7.out).2.2.2.2
 clear r3 hk7
 go_wp2_with fail
 refine r4.mono ?_
 rintro e w8 ⟨ao, c, rfl, hO, hk8⟩
 have HK8 : Hid (Kept (fun k => k < w3.heap.size) w3 w8) := HK7.out.trans (hk8.mono fun k h => ltl h HK7.out.size)
 rw [show ([1] : List Nat).length = 1 from rfl]
 clear r4 hO hk8
 go_wp2
 go_ret
 exact ⟨rfl, HK3.out.trans (HK8.out.mono fun k h => ltl h HK3.out.size)⟩
end Go.Proofs.YtojbjiopilkbgaaGreat
