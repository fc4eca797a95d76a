/-
 The walk of FlatTree.
-/
import Derived.Test.YtljnjdckhkglfaaGreatC04
import Derived.Test.YtljnjdckhkglfaaGreatB30
import Derived.Test.YtljnjdckhkglfaaGreatB32
namespace Go.Proofs.YtljnjdckhkglfaaGreat
set_option linter.unusedVariables false
set_option maxRecDepth 100000
set_option maxHeartbeats 8000000
section
open Go.RowKit Go.Sort
section
variable {K E : Nat -> Prop} {w : World} {p r : Nat} {M : Dm} {R G : Nat -> List Nat} {rk : Nat -> Nat} {lim : Nat}
theorem Grown.rd (h : Grown K E w p r M R G rk lim) (hl : lim <= 100000) {X : World} (hk : Kept (fun k => k < w.heap.size) w X) : Rd (TK K E) X p M R G rk := ⟨h.two.d.kept hk, h.inv, h.nle hl⟩
end
theorem hv13_long (n : Nat) (hnn : 60 < n) (a : Option Addr) (c : Nat) (w : World) :
  Calls Tryz.prog 47 #[.slice a n c] w fun e w' => e = .returned (.bool true) /\ Kept (fun k => k < w.heap.size) w w' := by
 have hg60 : decide ((n : Int) > 60) = true := decide_eq_true (by omega)
 go_enter Tryz.func47, Tryz.ntmps47
 go_wp2
 go_ret
 exact ⟨rfl, Kept.refl _ _⟩
theorem Way.on {n : Nat} {rk : Nat -> Nat} {steps m : Nat} {l : List Nat} (h : Way n rk steps (m : Int) l) {z : Int} (hz : z = -1 \/ ∃ u : Nat, u < n /\ z = (u : Int) /\ rk u < rk m) : Way n rk (steps + 1) z (m :: l) := by
 have hm := h.le.1
 rcases h.at0 with e | ⟨m', hm', e, hr⟩
 ·omega
 ·have : m' = m := by omega
  subst this
  refine ⟨by rw [List.length_cons, h.len], List.nodup_cons.2 ⟨fun hm' => Nat.lt_irrefl _ (hr _ hm'), h.nd⟩, fun x hx => ?_, ?_⟩
  ·rcases List.mem_cons.1 hx with rfl | hx
   ·exact hm
   ·exact h.lt x hx
  ·rcases hz with e | ⟨u, hu, e, hr'⟩
   ·exact .inl e
   ·refine .inr ⟨u, hu, e, fun x hx => ?_⟩
    rcases List.mem_cons.1 hx with rfl | hx
    ·exact hr'
    ·exact Nat.lt_trans hr' (hr x hx)
theorem ftree_go (l : List Opx) (n : Nat) (hln : l.length = n) (hnn : n <= 60) (a : Option Addr) (c : Nat) (hok : ∀ o ∈ l, OpOk o) (hb : opsH l <= 6000) (w : World) (h : OpsAt (fun k => k < w.heap.size) w a l) :
  Calls Tryz.prog 12 #[.slice a n c] w fun e w' => e = .returned (.bool true) /\ Kept (fun k => k < w.heap.size) w w' := by
 have rh := heavy13_any l n hln hnn a c (by omega) w h
 rw [decide_eq_false (by omega : ¬ 6000 < opsH l)] at rh
 have RG : Hid (∀ X, Kept (fun k => k < w.heap.size) w X -> Calls Tryz.prog 49 #[.slice a n c] X fun e w' => ∃ p r E M R G rk, e = .returned (.tuple #[.pointer (some ⟨p, 0, none⟩), .pointer (some ⟨r, 0, none⟩)]) /\ Grown (fun k => k < X.heap.size) E w' p r M R G rk 300 /\ Kept (fun k => k < X.heap.size) X w') := fun X hX => grown13 l n hln (by omega) a c hok (by omega) X (h.kept hX fun g hg => Nat.lt_of_lt_of_le hg hX.size)
 clear hln hok hb h
 go_enter Tryz.func12, Tryz.ntmps12
 go_wp2_with fail
 refine rh.mono ?_
 rintro e w1 ⟨rfl, k1⟩
 have rk0 := fknown_any w1
 clear rh
 go_wp2_with fail
 refine rk0.mono ?_
 rintro e w2 ⟨rfl, k2⟩
 have k12 : Kept (fun k => k < w.heap.size) w w2 := k1.trans (k2.mono fun k h => Nat.lt_of_lt_of_le h k1.size)
 have rg := RG.out w2 k12
 have HK12 : Hid (Kept (fun k => k < w.heap.size) w w2) := k12
 clear rk0 k1 k2 k12 RG
 go_wp2_with fail
 refine rg.mono ?_
 rintro e W ⟨p, r, E, M, R, G, rk, rfl, hG, hK⟩
 have HKW : Hid (Kept (fun k => k < w.heap.size) w W) := HK12.out.trans (hK.mono fun k h => Nat.lt_of_lt_of_le h HK12.out.size)
 obtain ⟨m, hm⟩ : ∃ m, M.n = m := ⟨_, rfl⟩
 have HM : Hid (M.n = m) := hm
 have hm300 : m <= 300 := by have h1 := hG.le; rw [hG.lim, hm] at h1; exact h1
 have RL : Hid (∀ X, Kept (fun k => k < W.heap.size) W X -> Calls Tryz.prog 19 #[.pointer (some ⟨p, 0, none⟩)] X fun e w' => e = .returned (.int .i64 (m : Int)) /\ w' = X) := fun X hX => by rw [<- hm]; exact hG.len hX
 have RD : Hid (∀ X, Kept (fun k => k < W.heap.size) W X -> Rd (TK (fun k => k < w2.heap.size) E) X p M R G rk) := fun X hX => hG.rd (by decide) hX
 have HI : Hid (Inv M R G rk) := hG.inv
 clear rg hG hK hm
 go_upto_region 7 with fail
 go_loopg [5] m (fun gh v5 wr => ∃ k : Nat, gh = m - k /\ k <= m /\ v5 = .int .i64 (k : Int) /\ Kept (fun k => k < W.heap.size) W wr)
 case atStart => exact ⟨0, rfl, Nat.zero_le _, rfl, Kept.refl _ _⟩
 case round =>
  obtain ⟨k, hgk, hk, rfl, hKr⟩ := hrel
  have HKR : Hid (Kept (fun k => k < W.heap.size) W wr) := hKr
  have rl := RL.out wr hKr
  by_cases hlt : k < m
  ·have hkn : k < M.n := by rw [HM.out]; exact hlt
   have HKN : Hid (k < M.n) := hkn
   have ra := (RD.out wr hKr).kids (k : Int)
   rw [fKI_in hkn] at ra
   clear hKr hkn
   go_upto_region 9 with (go_at_call 19; refine rl.mono ?_; rintro e1 w3 ⟨rfl, hw3⟩; replace hw3 := hw3.symm; subst hw3)
   clear rl
   go_wp2_with fail
   refine ra.mono ?_
   rintro e u1 ⟨ka, kc, rfl, hKO, hk1⟩
   have HROW : Hid (IntsAt (fun g => g < u1.heap.size) u1 ka (fK M R G k)) := hKO.intsAt fun g hg => (hKO.out hg).2
   have HK1 : Hid (Kept (fun k => k < W.heap.size) W u1) := HKR.out.trans (hk1.mono fun k h => Nat.lt_of_lt_of_le h HKR.out.size)
   have rn := (RD.out u1 HK1.out).node HKN.out
   obtain ⟨fl, hfl⟩ : ∃ fl, (fK M R G k).length = fl := ⟨_, rfl⟩
   have HFL : Hid ((fK M R G k).length = fl) := hfl
   have hfl9 : fl <= 300 := by
    have h1 := nodup_le M.n _ (HI.out.fK_nd (G := G) HKN.out) (fun x hx => (HI.out.fK_mem HKN.out hx).1)
    rw [HM.out] at h1
    omega
   rw [hfl]
   clear ra hKO hk1 hfl
   go_wp2_with fail
   refine rn.mono ?_
   rintro e v2 ⟨ao2, ac2, ko2, kc2, rfl, hO2, hQ2, hK2⟩
   obtain ⟨V2, N2, hV2, hN2, hB2⟩ := BoxN.of (up := (M.pl k).up) hO2 hQ2 hK2
   have HV2 : Hid (v2.alloc (.cells (nV (M.nd k) ao2 ac2 ((M.pl k).up) ko2 (R k).length kc2) 41) = V2) := hV2
   have HN2 : Hid (v2.heap.size = N2) := hN2
   have HB2 : Hid (BoxN u1 V2 N2 (M.nd k) ((M.pl k).up) (R k) ao2 ac2 ko2 kc2) := hB2
   have c0 := hB2.c0
   have HROW2 : Hid (IntsAt (fun g => g < V2.heap.size) V2 ka (fK M R G k)) := HROW.out.to (fun g hg => Nat.lt_of_lt_of_le hg hB2.kept.size) (fun g hg => hB2.kept.block g hg)
   have HK2 : Hid (Kept (fun k => k < W.heap.size) W V2) := HK1.out.trans (hB2.kept.mono fun k h => Nat.lt_of_lt_of_le h HK1.out.size)
   have HC0 : Hid (V2.cell? ⟨N2, 0, none⟩ = some (.int .u8 ((M.nd k).kind : Int))) := c0
   have HN2L : Hid (N2 < V2.heap.size) := World.block_lt_of_cell? V2 _ c0
   clear rn hO2 hQ2 hK2 hV2 hN2 hB2 c0 HROW HB2
   go_upto_region 12 with fail
   rw [HV2.out, HN2.out]
   clear HV2 HN2
   go_loopg [9] fl (fun gh v9 wr => ∃ j : Nat, gh = fl - j /\ j <= fl /\ v9 = .int .i64 (j : Int) /\ Kept (fun k => k < V2.heap.size) V2 wr)
   case atStart => exact ⟨0, rfl, Nat.zero_le _, rfl, Kept.refl _ _⟩
   case round =>
    obtain ⟨j, hgj, hj, rfl, hKj⟩ := hrel
    have HKJ : Hid (Kept (fun k => k < V2.heap.size) V2 wr) := hKj
    have HKJW : Hid (Kept (fun k => k < W.heap.size) W wr) := HK2.out.trans (hKj.mono fun k h => Nat.lt_of_lt_of_le h HK2.out.size)
    by_cases hlt2 : j < fl
    ·have hjl : j < (fK M R G k).length := by rw [HFL.out]; exact hlt2
     obtain ⟨g, o, rfl, hg, dd⟩ := HROW2.out j hjl
     have d' : wr.cell? ⟨g, o + j, none⟩ = some (.int .i64 ((fK M R G k)[j] : Int)) := (hKj.cell (p := ⟨g, o + j, none⟩) hg).trans dd
     have hmem := List.getElem_mem hjl
     obtain ⟨x, hx⟩ : ∃ x, (fK M R G k)[j] = x := ⟨_, rfl⟩
     rw [hx] at d' hmem
     obtain ⟨hxn, _, _, hup, _⟩ := HI.out.fK_mem HKN.out hmem
     have ru := (RD.out wr HKJW.out).up (x : Int)
     rw [upI_in hxn] at ru
     have HUP : Hid ((M.nd k).kind ≠ 5 -> upZ M R G x = (k : Int)) := hup
     obtain ⟨z, hz⟩ : ∃ z, upZ M R G x = z := ⟨_, rfl⟩
     rw [hz] at ru HUP
     clear dd hx hmem hup hz hKj hxn
     go_wp2_with fail
     refine ru.mono ?_
     rintro e u3 ⟨rfl, hk3⟩
     have c0 : u3.cell? ⟨N2, 0, none⟩ = some (.int .u8 ((M.nd k).kind : Int)) := (hk3.cell (p := ⟨N2, 0, none⟩) (Nat.lt_of_lt_of_le HN2L.out HKJ.out.size)).trans ((HKJ.out.cell (p := ⟨N2, 0, none⟩) HN2L.out).trans HC0.out)
     have HK3 : Hid (Kept (fun k => k < V2.heap.size) V2 u3) := HKJ.out.trans (hk3.mono fun k h => Nat.lt_of_lt_of_le h HKJ.out.size)
     obtain ⟨kd, hkd⟩ : ∃ kd, (M.nd k).kind = kd := ⟨_, rfl⟩
     rw [hkd] at c0 HUP
     clear ru hk3 d' hkd
     by_cases ck : kd = 5
     ·subst ck
      by_cases cz : z = (k : Int)
      ·subst cz
       go_wp2
       go_roundg (fl - (j + 1))
       case rel => exact ⟨j + 1, rfl, by omega, by go_num, HK3.out⟩
       case measure => omega
      ·have e1 : (z == (k : Int)) = false := by simpa using cz
       have e2 : (z != (k : Int)) = true := by simp [cz]
       clear cz
       go_wp2
       go_roundg (fl - (j + 1))
       case rel => exact ⟨j + 1, rfl, by omega, by go_num, HK3.out⟩
       case measure => omega
     ·have hz := HUP.out ck
      subst hz
      clear ck
      go_wp2
      go_roundg (fl - (j + 1))
      case rel => exact ⟨j + 1, rfl, by omega, by go_num, HK3.out⟩
      case measure => omega
    ·have hjn : fl = j := by omega
     subst hjn
     have HW0 : Hid (Way M.n (rkA M R) 0 (k : Int) []) := Way.start _ _ HKN.out
     clear hKj
     go_upto_region 19 with fail
     obtain ⟨wj, hwj⟩ : ∃ wj, wr = wj := ⟨_, rfl⟩
     rw [hwj]
     rw [hwj] at HKJ HKJW
     clear hwj
     go_loopg [11, 12] (m + 1) (fun gh v11 v12 wr => ∃ (st : Nat) (z : Int) (L : List Nat), gh = m + 1 - st /\ v11 = .int .i64 z /\ v12 = .int .i64 (st : Int) /\ Way M.n (rkA M R) st z L /\ Kept (fun k => k < W.heap.size) W wr)
     case atStart => exact ⟨0, _, _, rfl, rfl, rfl, HW0.out, HKJW.out⟩
     case round =>
      obtain ⟨st, z, L, hgs, rfl, rfl, hw, hKs⟩ := hrel
      have HWY : Hid (Way M.n (rkA M R) st z L) := hw
      have HKS : Hid (Kept (fun k => k < W.heap.size) W wr) := hKs
      rcases hw.at0 with hz | ⟨x, hxn, hz, -⟩
      ·subst hz
       clear hw hKs
       go_wp2
       go_roundg (m - (k + 1))
       case rel => exact ⟨k + 1, rfl, by omega, by go_num, HKS.out⟩
       case measure => omega
      ·subst hz
       have hst := hw.le.2
       rw [HM.out] at hst
       have ru := (RD.out wr hKs).up (x : Int)
       rw [upI_in hxn] at ru
       obtain ⟨z', hz'⟩ : ∃ z', upZ M R G x = z' := ⟨_, rfl⟩
       have HW2 : Hid (Way M.n (rkA M R) (st + 1) z' (x :: L)) := hw.on (by rw [<- hz']; exact HI.out.upZ_low hxn)
       rw [hz'] at ru
       have e0 : decide ((x : Int) >= 0) = true := decide_eq_true (by omega)
       clear hw hKs hz' hxn
       go_wp2_with fail
       refine ru.mono ?_
       rintro e u4 ⟨rfl, hk4⟩
       have HK4 : Hid (Kept (fun k => k < W.heap.size) W u4) := HKS.out.trans (hk4.mono fun k h => Nat.lt_of_lt_of_le h HKS.out.size)
       have rl := RL.out u4 HK4.out
       have e1 : decide ((st : Int) > (m : Int)) = false := decide_eq_false (by omega)
       clear ru hk4
       go_wp2_with (go_at_call 19; refine rl.mono ?_; rintro e1 w3 ⟨rfl, hw3⟩; replace hw3 := hw3.symm; subst hw3)
       go_roundg (m + 1 - (st + 1))
       case rel => exact ⟨st + 1, _, _, rfl, rfl, by go_num, HW2.out, HK4.out⟩
       case measure => omega
  ·have hkn : k = m := by omega
   subst hkn
   clear hKr
   go_wp2_with (go_at_call 19; refine rl.mono ?_; rintro e1 w3 ⟨rfl, hw3⟩; replace hw3 := hw3.symm; subst hw3)
   go_ret
   exact ⟨rfl, HKW.out.trans (HKR.out.mono fun k h => Nat.lt_of_lt_of_le h HKW.out.size)⟩
theorem ftree_no (a : Option Addr) (n c : Nat) (w : World) (rh : Calls Tryz.prog 47 #[.slice a n c] w fun e w' => e = .returned (.bool true) /\ Kept (fun k => k < w.heap.size) w w') :
  Calls Tryz.prog 12 #[.slice a n c] w fun e w' => e = .returned (.bool true) /\ Kept (fun k => k < w.heap.size) w w' := by
 go_enter Tryz.func12, Tryz.ntmps12
 go_wp2_with fail
 refine rh.mono ?_
 rintro e w1 ⟨rfl, k1⟩
 have rk0 := fknown_any w1
 clear rh
 go_wp2_with (go_at_call 48; refine rk0.mono ?_; rintro e w2 ⟨rfl, k2⟩)
 go_ret
 exact ⟨rfl, k1.trans (k2.mono fun k h => Nat.lt_of_lt_of_le h k1.size)⟩
end
end Go.Proofs.YtljnjdckhkglfaaGreat
