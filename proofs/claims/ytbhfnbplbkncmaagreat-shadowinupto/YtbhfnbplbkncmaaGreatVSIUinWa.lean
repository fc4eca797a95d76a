/-
  The walk of ShadowIn.
-/
import Derived.Test.YtbhfnbplbkncmaaGreatVSIUinVa
import Derived.Test.YtbhfnbplbkncmaaGreatVSIUinVd
import Derived.Test.YtbhfnbplbkncmaaGreatVSIUinSk
namespace Go.Proofs.YtbhfnbplbkncmaaGreat
open Go.RowKit Go.Sort
set_option linter.unusedVariables false
set_option maxRecDepth 20000 in
set_option maxHeartbeats 8000000 in
theorem sin_go (l : List Opx) (n : Nat) (hln : l.length = n) (hnn : n ≤ 60) (a : Option Addr) (c : Nat) (hok : ∀ o ∈ l, OpOk o) (hb : opsH l ≤ 6000) (w : World) (h : OpsAt (fun k => k < w.heap.size) w a l) (za zb : Nat) (hza : za < 65536) (hzb : zb < 65536) :
    Calls Tryz.prog 12 #[.slice a n c, .int .u16 (za : Int), .int .u16 (zb : Int)] w fun e w' => e = .returned (.bool true) ∧ Kept (fun k => k < w.heap.size) w w' := by
  have rh := heavy10_any l n hln hnn a c (by omega) w h
  rw [decide_eq_false (by omega : ¬ 6000 < opsH l)] at rh
  have RG : Hid (∀ X, Kept (fun k => k < w.heap.size) w X → Calls Tryz.prog 39 #[.slice a n c] X fun e w' => ∃ p r E M R G rk, e = .returned (.tuple #[.pointer (some ⟨p, 0, none⟩), .pointer (some ⟨r, 0, none⟩)]) ∧ Grown (fun k => k < X.heap.size) E w' p r M R G rk 300 ∧ Kept (fun k => k < X.heap.size) X w') := fun X hX => grown10 l n hln (by omega) a c hok (by omega) X (h.kept hX fun g hg => Nat.lt_of_lt_of_le hg hX.size)
  clear hln hok hb h
  go_enter Tryz.func12, Tryz.ntmps12
  go_wp2_with fail
  refine rh.mono ?_
  rintro e w1 ⟨rfl, k1⟩
  have rk0 := sknown_any w1
  clear rh
  go_wp2_with fail
  refine rk0.mono ?_
  rintro e w2 ⟨rfl, k2⟩
  have k12 : Kept (fun k => k < w.heap.size) w w2 := k1.trans (k2.mono fun k h => Nat.lt_of_lt_of_le h k1.size)
  have rg := RG.out w2 k12
  have HK12 : Hid (Kept (fun k => k < w.heap.size) w w2) := k12
  clear rk0 k1 k2 k12 RG
  go_wp2_with fail
  refine rg.mono ?_
  rintro e W ⟨p, r, E, M, R, G, rk, rfl, hG, hK⟩
  have HG : Hid (Grown (fun k => k < w2.heap.size) E W p r M R G rk 300) := hG
  have HKW : Hid (Kept (fun k => k < w.heap.size) w W) := HK12.out.trans (hK.mono fun k h => Nat.lt_of_lt_of_le h HK12.out.size)
  obtain ⟨m, hm⟩ : ∃ m, M.n = m := ⟨_, rfl⟩
  have HM : Hid (M.n = m) := hm
  have hm300 : m ≤ 300 := by have h1 := hG.le; rw [hG.lim, hm] at h1; exact h1
  have hm1 : 1 ≤ m := by rw [← hm]; exact hG.inv.core.pos
  have rl : Calls Tryz.prog 23 #[.pointer (some ⟨p, 0, none⟩)] W fun e w' => e = .returned (.int .i64 (m : Int)) ∧ w' = W := by rw [← hm]; exact hG.len (Kept.refl _ _)
  have NODE : Hid (∀ i, i < m → ∀ X, Kept (fun k => k < W.heap.size) W X → Calls Tryz.prog 24 #[.pointer (some ⟨p, 0, none⟩), .int .i64 (i : Int)] X fun e w' => Told X (M.nd i) (M.pl i).up (R i) e w') := fun i hi X hX => hG.node (by decide) (by rw [hm]; exact hi) hX
  obtain ⟨u, hu⟩ : ∃ u, za % m = u := ⟨_, rfl⟩
  obtain ⟨k, hk⟩ : ∃ k, zb % m = k := ⟨_, rfl⟩
  have hum : u < m := by rw [← hu]; exact Nat.mod_lt _ (by omega)
  have hkm : k < m := by rw [← hk]; exact Nat.mod_lt _ (by omega)
  have hu' : (za : Int).tmod (m : Int) = (u : Int) := by rw [← hu]; rfl
  have hk' : (zb : Int).tmod (m : Int) = (k : Int) := by rw [← hk]; rfl
  obtain ⟨z, t, hO, htn, hT, hzt⟩ := hG.inv.of (i := u) (by rw [hm]; exact hum)
  have htm : t < m := by rw [← hm]; exact htn
  have ro := hG.of (by decide) (by rw [hm]; exact hum) hO (Kept.refl _ W)
  have PR : Hid (∀ X, Kept (fun k => k < W.heap.size) W X → Calls Tryz.prog 29 #[.pointer (some ⟨r, 0, none⟩), .int .i64 (u : Int)] X fun e w' => e = .returned (.int .i64 (t : Int)) ∧ w' = X) := fun X hX => hG.pRoot (by decide) (by rw [hm]; exact hum) hT hX
  have HO : Hid (OfOf M u z) := hO
  clear rg hG hK hm hu hk hO hT htn
  go_upto_region 8 with (go_at_call 23; refine rl.mono ?_; rintro e1 w3 ⟨rfl, hw3⟩; replace hw3 := hw3.symm; subst hw3)
  clear rl
  go_wp2_with fail
  refine ro.mono ?_
  rintro e v0 ⟨rfl, hk0⟩
  have rp := PR.out v0 hk0
  have rn := NODE.out t htm v0 hk0
  have HK0 : Hid (Kept (fun k => k < W.heap.size) W v0) := hk0
  clear ro hk0
  go_wp2_with fail
  refine rp.mono ?_
  rintro e w3 ⟨rfl, hw3⟩
  replace hw3 := hw3.symm
  subst hw3
  clear rp
  go_wp2_with fail
  refine rn.mono ?_
  rintro e v1 ⟨ao1, ac1, ko1, kc1, rfl, -, hQ1, hKa⟩
  obtain ⟨N1, hN1⟩ : ∃ N, v1.heap.size = N := ⟨_, rfl⟩
  obtain ⟨V1, hV1⟩ : ∃ V, v1.alloc (.cells (outN (M.nd t) ao1 ac1 (M.pl t).up ko1 (R t).length kc1) 36) = V := ⟨_, rfl⟩
  have hB1 := Box.of hQ1 hKa V1 N1 hN1 hV1
  have HV1 : Hid (v1.alloc (.cells (outN (M.nd t) ao1 ac1 (M.pl t).up ko1 (R t).length kc1) 36) = V1) := hV1
  have HN1 : Hid (v1.heap.size = N1) := hN1
  have HKV1 : Hid (Kept (fun k => k < W.heap.size) W V1) := HK0.out.trans (hB1.kept.mono fun k h => Nat.lt_of_lt_of_le h HK0.out.size)
  have b0 := hB1.c0
  obtain ⟨kt, hkt⟩ : ∃ kt, (M.nd t).kind = kt := ⟨_, rfl⟩
  rw [hkt] at b0 hzt
  clear rn hQ1 hKa hN1 hV1 hB1 HK0 hkt
  go_upto_region 10 with fail
  rw [HV1.out, HN1.out]
  clear HV1 HN1
  go_cut [56] (fun v wx => v = .bool false ∧ wx = V1)
  case first =>
    rcases hzt with ⟨rfl, rfl⟩ | ⟨rfl, hk5⟩
    · have e0 : decide ((t : Int) ≥ 0) = true := decide_eq_true (by omega)
      go_wp2
      go_meet
      case rel => exact ⟨rfl, rfl⟩
    · have e0 : decide ((-1 : Int) ≥ 0) = false := by decide
      have e1 : ((kt : Int) == 5) = false := by simp; omega
      go_wp2
      go_meet
      case rel => exact ⟨rfl, rfl⟩
  case rest =>
  obtain ⟨rfl, rfl⟩ := hcut
  clear hzt b0
  have rn2 := NODE.out k hkm wc HKV1.out
  go_upto_region 12 with fail
  go_wp2_with fail
  refine rn2.mono ?_
  rintro e v2 ⟨ao2, ac2, ko2, kc2, rfl, -, hQ2, hKb⟩
  obtain ⟨N2, hN2⟩ : ∃ N, v2.heap.size = N := ⟨_, rfl⟩
  obtain ⟨V2, hV2⟩ : ∃ V, v2.alloc (.cells (outN (M.nd k) ao2 ac2 (M.pl k).up ko2 (R k).length kc2) 36) = V := ⟨_, rfl⟩
  have hB2 := Box.of hQ2 hKb V2 N2 hN2 hV2
  have HV2 : Hid (v2.alloc (.cells (outN (M.nd k) ao2 ac2 (M.pl k).up ko2 (R k).length kc2) 36) = V2) := hV2
  have HN2 : Hid (v2.heap.size = N2) := hN2
  have hkv2 : Kept (fun k => k < W.heap.size) W V2 := HKV1.out.trans (hB2.kept.mono fun k h => Nat.lt_of_lt_of_le h HKV1.out.size)
  have HKV2 : Hid (Kept (fun k => k < W.heap.size) W V2) := hkv2
  have b0 := hB2.c0
  have HB2 : Hid (W.heap.size ≤ N2 ∧ N2 < V2.heap.size) := ⟨Nat.le_trans HKV1.out.size hB2.lo, hB2.hi⟩
  obtain ⟨K', hK'⟩ : ∃ K' : Nat → Prop, K' = (fun j => TK (fun k => k < w2.heap.size) E j ∨ (W.heap.size ≤ j ∧ j < V2.heap.size)) := ⟨_, rfl⟩
  have hd2 : DX K' V2 p M := HG.out.two.d.more hkv2 (fun j h => by rw [hK'] at h; exact h.elim .inl (fun h => .inr h.1)) (fun j h => by
    rw [hK'] at h
    rcases h with h | h
    · exact Nat.lt_of_lt_of_le (HG.out.two.d.lt j h) hkv2.size
    · exact h.2)
  have HKN : Hid (K' N2) := by rw [hK']; exact .inr HB2.out
  have HKlow : Hid (∀ j, j < w.heap.size → K' j) := fun j hj => by rw [hK']; exact .inl (.inl (Nat.lt_of_lt_of_le hj HK12.out.size))
  have hmn : M.n ≤ 1000000 := by rw [HM.out]; omega
  have ri := insert_in K' p u k (-1) M R rk V2 hd2 HG.out.inv.good.wf HG.out.inv.good.acy (by rw [HM.out]; exact hum) (by rw [HM.out]; exact hkm) (.inl rfl) hmn
  obtain ⟨kk, hkk⟩ : ∃ kk, (M.nd k).kind = kk := ⟨_, rfl⟩
  have HKK : Hid ((M.nd k).kind = kk) := hkk
  rw [hkk] at b0
  have HKWV : Hid (Kept (fun j => j < w.heap.size) w V2) := HKW.out.trans (hkv2.mono fun k h => Nat.lt_of_lt_of_le h HKW.out.size)
  clear rn2 hQ2 hKb hN2 hV2 hB2 hkv2 hd2 hkk hK'
  go_upto_region 13 with fail
  rw [HV2.out, HN2.out]
  clear HV2 HN2
  by_cases hF : Fits M u k (-1)
  · have ri' : Calls Tryz.prog 36 #[.pointer (some ⟨p, 0, none⟩), .int .i64 (u : Int), .int .i64 (k : Int), .int .i64 (-1)] V2 fun e w' => e = .returned (.int .u16 0) ∧ Kept K' V2 w' ∧ DX K' w' p (M.setP (putD M R u k (-1))) := ri.mono fun e w' ⟨h1, h2⟩ => by
      rcases h2 with ⟨_, h2, _⟩ | ⟨h3, _, h4⟩
      · exact absurd hF h2
      · exact ⟨h3, h1, h4⟩
    have HF : Hid (Fits M u k (-1)) := hF
    clear ri hF
    go_wp2_with fail
    refine ri'.mono ?_
    rintro e w5 ⟨rfl, hk5, hd5⟩
    have c0 : w5.cell? ⟨N2, 0, none⟩ = some (.int .u8 (kk : Int)) := (hk5.cell (p := ⟨N2, 0, none⟩) HKN.out).trans b0
    have HK5 : Hid (Kept (fun j => j < w.heap.size) w w5) := HKWV.out.trans (hk5.mono HKlow.out)
    have HD5 : Hid (DX K' w5 p (M.setP (putD M R u k (-1)))) := hd5
    clear ri' hk5 hd5 b0
    by_cases q4 : kk = 4
    · subst q4
      go_wp2
      go_ret
      exact ⟨rfl, HK5.out⟩
    · have e4 : ((kk : Int) == 4) = false := by simp; omega
      obtain ⟨rk', hI'⟩ := HG.out.inv.ins (up := u) (i := k) (by rw [HM.out]; exact hum) (by rw [HM.out]; exact hkm) HF.out
      have hO' : OfOf (M.setP (putD M R u k (-1))) k z := of_ins (by rw [HKK.out]; exact q4) HF.out.2.2.1 HO.out
      have rf := (of_any K' p k (M.setP (putD M R u k (-1))) (putDR M R u k (-1)) rk' w5 HD5.out hI'.good (by show k < M.n; rw [HM.out]; exact hkm) hmn).mono (R' := fun e w' => e = .returned (.int .i64 z) ∧ Kept (fun k => k < w5.heap.size) w5 w') fun e w' ⟨t', h2, h3, h4⟩ => by rw [h2.one hO'] at h3; exact ⟨h3, h4⟩
      clear hI' hO'
      go_wp2_with (go_at_call 42; refine rf.mono ?_; rintro e w6 ⟨rfl, hk6⟩)
      go_ret
      exact ⟨by simp, HK5.out.trans (hk6.mono fun k h => Nat.lt_of_lt_of_le h HK5.out.size)⟩
  · have ri' : Calls Tryz.prog 36 #[.pointer (some ⟨p, 0, none⟩), .int .i64 (u : Int), .int .i64 (k : Int), .int .i64 (-1)] V2 fun e w' => e = .returned (.int .u16 81) ∧ Kept K' V2 w' := ri.mono fun e w' ⟨h1, h2⟩ => by
      rcases h2 with ⟨h3, _, _⟩ | ⟨_, h3, _⟩
      · exact ⟨h3, h1⟩
      · exact absurd h3 hF
    clear ri hF
    go_wp2_with (go_at_call 36; refine ri'.mono ?_; rintro e w5 ⟨rfl, hk5⟩)
    go_ret
    exact ⟨rfl, HKWV.out.trans (hk5.mono HKlow.out)⟩
set_option maxRecDepth 20000 in
theorem sin_no (a : Option Addr) (n c : Nat) (w : World) (za zb : Int) (rh : Calls Tryz.prog 37 #[.slice a n c] w fun e w' => e = .returned (.bool true) ∧ Kept (fun k => k < w.heap.size) w w') :
    Calls Tryz.prog 12 #[.slice a n c, .int .u16 za, .int .u16 zb] w fun e w' => e = .returned (.bool true) ∧ Kept (fun k => k < w.heap.size) w w' := by
  go_enter Tryz.func12, Tryz.ntmps12
  go_wp2_with fail
  refine rh.mono ?_
  rintro e w1 ⟨rfl, k1⟩
  have rk0 := sknown_any w1
  clear rh
  go_wp2_with (go_at_call 38; refine rk0.mono ?_; rintro e w2 ⟨rfl, k2⟩)
  go_ret
  exact ⟨rfl, k1.trans (k2.mono fun k h => Nat.lt_of_lt_of_le h k1.size)⟩
end Go.Proofs.YtbhfnbplbkncmaaGreat
