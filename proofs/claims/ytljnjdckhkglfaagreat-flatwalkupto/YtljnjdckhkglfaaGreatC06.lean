/-
 The walk of FlatWalk.
-/
import Derived.Test.YtljnjdckhkglfaaGreatC05
namespace Go.Proofs.YtljnjdckhkglfaaGreat
set_option linter.unusedVariables false
set_option maxRecDepth 100000
set_option maxHeartbeats 8000000
section
open Go.RowKit Go.Sort
theorem Inv.walk_up {M : Dm} {R G : Nat -> List Nat} {rk : Nat -> Nat} (h : Inv M R G rk) {i k : Nat} (hi : i < M.n) (hk : k < (tr M.n (fK M R G) i).length) (h0 : k ≠ 0) :
  ((M.nd i).kind = 5 /\ upZ M R G (tr M.n (fK M R G) i)[k] = (M.nd i).host) \/ ∃ j, ∃ hj : j < (tr M.n (fK M R G) i).length, j < k /\ upZ M R G (tr M.n (fK M R G) i)[k] = ((tr M.n (fK M R G) i)[j] : Int) := by
 obtain ⟨j, hj, hjk, hm⟩ := tr_par h.fK_falls _ i hi (Nat.lt_succ_self _) k hk h0
 have hm := hm hk
 have hjn := tr_lt h.fK_falls _ i hi _ (List.getElem_mem hj)
 obtain ⟨_, _, _, h1, h2⟩ := h.fK_mem hjn hm
 by_cases c : (M.nd (tr M.n (fK M R G) i)[j]).kind = 5
 ·have : (tr M.n (fK M R G) i)[j] = i := by
   have hu := (mem_tr h.fK_falls hi).1 (List.getElem_mem hj)
   clear hm h1 h2 hjn
   generalize (tr M.n (fK M R G) i)[j] = y at hu c
   cases hu with
   | here => rfl
   | up hy hm' _ => exact absurd c (h.fK_mem hy hm').2.2.1
  rw [this] at c h2
  exact .inl ⟨c, (h2 c).1⟩
 ·exact .inr ⟨j, hj, hjk, h1 c⟩
theorem fwalk_go (l : List Opx) (n : Nat) (hln : l.length = n) (hnn : n <= 60) (a : Option Addr) (c : Nat) (hok : ∀ o ∈ l, OpOk o) (hb : opsH l <= 6000) (w : World) (h : OpsAt (fun k => k < w.heap.size) w a l) (za : Nat) (hza : za < 65536) :
  Calls Tryz.prog 14 #[.slice a n c, .int .u16 (za : Int)] w fun e w' => e = .returned (.bool true) /\ Kept (fun k => k < w.heap.size) w w' := by
 have rh := heavy13_any l n hln hnn a c (by omega) w h
 rw [decide_eq_false (by omega : ¬ 6000 < opsH l)] at rh
 have RG : Hid (∀ X, Kept (fun k => k < w.heap.size) w X -> Calls Tryz.prog 49 #[.slice a n c] X fun e w' => ∃ p r E M R G rk, e = .returned (.tuple #[.pointer (some ⟨p, 0, none⟩), .pointer (some ⟨r, 0, none⟩)]) /\ Grown (fun k => k < X.heap.size) E w' p r M R G rk 300 /\ Kept (fun k => k < X.heap.size) X w') := fun X hX => grown13 l n hln (by omega) a c hok (by omega) X (h.kept hX fun g hg => Nat.lt_of_lt_of_le hg hX.size)
 clear hln hok hb h
 go_enter Tryz.func14, Tryz.ntmps14
 go_wp2_with fail
 refine rh.mono ?_
 rintro e w1 ⟨rfl, k1⟩
 have rk0 := fknown_any w1
 clear rh
 go_wp2_with fail
 refine rk0.mono ?_
 rintro e w2 ⟨rfl, k2⟩
 have k12 : Kept (fun k => k < w.heap.size) w w2 := k1.trans (k2.mono fun k h => Nat.lt_of_lt_of_le h k1.size)
 have rg := RG.out w2 k12
 have HK12 : Hid (Kept (fun k => k < w.heap.size) w w2) := k12
 clear rk0 k1 k2 k12 RG
 go_wp2_with fail
 refine rg.mono ?_
 rintro e W ⟨p, r, E, M, R, G, rk, rfl, hG, hK⟩
 have HKW : Hid (Kept (fun k => k < w.heap.size) w W) := HK12.out.trans (hK.mono fun k h => Nat.lt_of_lt_of_le h HK12.out.size)
 obtain ⟨m, hm⟩ : ∃ m, M.n = m := ⟨_, rfl⟩
 have HM : Hid (M.n = m) := hm
 have hm300 : m <= 300 := by have h1 := hG.le; rw [hG.lim, hm] at h1; exact h1
 have hm1 : 1 <= m := by rw [<- hm]; exact hG.inv.core.pos
 have rl : Calls Tryz.prog 19 #[.pointer (some ⟨p, 0, none⟩)] W fun e w' => e = .returned (.int .i64 (m : Int)) /\ w' = W := by rw [<- hm]; exact hG.len (Kept.refl _ _)
 have RD : Hid (∀ X, Kept (fun k => k < W.heap.size) W X -> Rd (TK (fun k => k < w2.heap.size) E) X p M R G rk) := fun X hX => hG.rd (by decide) hX
 have HI : Hid (Inv M R G rk) := hG.inv
 obtain ⟨i, hi⟩ : ∃ i, za % m = i := ⟨_, rfl⟩
 have him : i < m := by rw [<- hi]; exact Nat.mod_lt _ (by omega)
 have hi' : (za : Int).tmod (m : Int) = (i : Int) := by rw [<- hi]; rfl
 have hin : i < M.n := by rw [hm]; exact him
 have HIN : Hid (i < M.n) := hin
 have rw1 := (RD.out W (Kept.refl _ _)).walk (i : Int)
 rw [trI_in hin] at rw1
 have hL9 := hG.inv.walk_len (G := G) hin
 have HND : Hid ((tr M.n (fK M R G) i).Nodup) := tr_nodup' _ i (hG.inv.fK_at hin) hin (Nat.lt_succ_self _)
 have hE : tr M.n (fK M R G) i = i :: (fK M R G i).flatMap (tr M.n (fK M R G)) := tr_eq hG.inv.fK_falls hin
 have HWU : Hid (∀ k (hk : k < (tr M.n (fK M R G) i).length), k ≠ 0 -> ((M.nd i).kind = 5 /\ upZ M R G (tr M.n (fK M R G) i)[k] = (M.nd i).host) \/ ∃ j, ∃ hj : j < (tr M.n (fK M R G) i).length, j < k /\ upZ M R G (tr M.n (fK M R G) i)[k] = ((tr M.n (fK M R G) i)[j] : Int)) := fun k hk h0 => hG.inv.walk_up hin hk h0
 have HLT : Hid (∀ x ∈ tr M.n (fK M R G) i, x < M.n) := fun x hx => tr_lt hG.inv.fK_falls _ i hin x hx
 obtain ⟨L, hL⟩ : ∃ L, tr M.n (fK M R G) i = L := ⟨_, rfl⟩
 rw [hL] at rw1 hL9 HND HWU HLT hE
 have HE : Hid (∃ r, L = i :: r) := ⟨_, hE⟩
 obtain ⟨ll, hll⟩ : ∃ ll, L.length = ll := ⟨_, rfl⟩
 have HLL : Hid (L.length = ll) := hll
 have hl3 : ll <= 300 := by rw [hll, hm] at hL9; omega
 have hl1 : 1 <= ll := by rw [<- hll, hE]; simp
 clear rg hG hK hm hi hin hL hE hL9
 go_upto_region 7 with (go_at_call 19; refine rl.mono ?_; rintro e1 w3 ⟨rfl, hw3⟩; replace hw3 := hw3.symm; subst hw3)
 clear rl
 go_wp2_with fail
 refine rw1.mono ?_
 rintro e u1 ⟨wa, wc, rfl, hWO, hk1⟩
 have HROW : Hid (IntsAt (fun g => g < u1.heap.size) u1 wa L) := hWO.intsAt fun g hg => (hWO.out hg).2
 obtain ⟨L', hL'⟩ := HE.out
 have hwo' := hWO
 rw [hL'] at hwo'
 obtain ⟨g0, rfl, hg0, cw0⟩ := one_cell hwo'
 have rn := (RD.out u1 hk1).node HIN.out
 have HK1 : Hid (Kept (fun k => k < W.heap.size) W u1) := hk1
 have hne : ((ll : Int) == 0) = false := by simp; omega
 have hne' : ¬ (ll : Int) = 0 := by omega
 rw [hll]
 clear rw1 hWO hk1 hL' hwo' hll
 go_wp2_with fail
 refine rn.mono ?_
 rintro e v2 ⟨ao2, ac2, ko2, kc2, rfl, hO2, hQ2, hK2⟩
 obtain ⟨V2, N2, hV2, hN2, hB2⟩ := BoxN.of (up := (M.pl i).up) hO2 hQ2 hK2
 have HV2 : Hid (v2.alloc (.cells (nV (M.nd i) ao2 ac2 ((M.pl i).up) ko2 (R i).length kc2) 41) = V2) := hV2
 have HN2 : Hid (v2.heap.size = N2) := hN2
 have HB2 : Hid (BoxN u1 V2 N2 (M.nd i) ((M.pl i).up) (R i) ao2 ac2 ko2 kc2) := hB2
 have HROW2 : Hid (IntsAt (fun g => g < V2.heap.size) V2 (some ⟨g0, 0, none⟩) L) := HROW.out.to (fun g hg => Nat.lt_of_lt_of_le hg hB2.kept.size) (fun g hg => hB2.kept.block g hg)
 have HK2 : Hid (Kept (fun k => k < W.heap.size) W V2) := HK1.out.trans (hB2.kept.mono fun k h => Nat.lt_of_lt_of_le h HK1.out.size)
 obtain ⟨kd, hkd⟩ : ∃ kd, (M.nd i).kind = kd := ⟨_, rfl⟩
 obtain ⟨ho, hho⟩ : ∃ ho, (M.nd i).host = ho := ⟨_, rfl⟩
 have HCC : Hid (∀ X, Kept (fun k => k < V2.heap.size) V2 X -> X.cell? ⟨N2, 0, none⟩ = some (.int .u8 (kd : Int)) /\ X.cell? ⟨N2, 7, none⟩ = some (.int .i64 ho)) := fun X hX => by rw [<- hkd, <- hho]; exact ⟨(hB2.later hX).c0, (hB2.later hX).c7⟩
 have HCL : Hid (∀ X, Kept (fun k => k < V2.heap.size) V2 X -> ∀ j (hj : j < L.length), X.cell? ⟨g0, j, none⟩ = some (.int .i64 (L[j] : Int))) := fun X hX j hj => by
  obtain ⟨g, o, e, hg, dd⟩ := HROW2.out j hj
  injection e with e
  injection e with e1 e2
  subst e1 e2
  rw [Nat.zero_add] at dd
  exact (hX.cell (p := ⟨g0, j, none⟩) hg).trans dd
 rw [hkd, hho] at HWU
 clear rn hO2 hQ2 hK2 hV2 hN2 hB2 cw0 HROW HB2 hkd hho HROW2 hg0
 go_upto_region 12 with fail
 rw [HV2.out, HN2.out]
 clear HV2 HN2
 go_loopg [11] ll (fun gh v11 wr => ∃ k : Nat, gh = ll + 1 - k /\ 1 <= k /\ k <= ll /\ v11 = .int .i64 (k : Int) /\ Kept (fun k => k < V2.heap.size) V2 wr)
 case atStart => exact ⟨1, by omega, Nat.le_refl _, hl1, rfl, Kept.refl _ _⟩
 case round =>
  obtain ⟨k, hgk, hk1, hk, rfl, hKr⟩ := hrel
  have HKR : Hid (Kept (fun k => k < V2.heap.size) V2 wr) := hKr
  by_cases hlt : k < ll
  ·have hkL : k < L.length := by rw [HLL.out]; exact hlt
   have ck := HCL.out wr hKr k hkL
   have hxn := HLT.out L[k] (List.getElem_mem hkL)
   have hwu := HWU.out k hkL (by omega)
   obtain ⟨x, hx⟩ : ∃ x, L[k] = x := ⟨_, rfl⟩
   have HX : Hid (L[k] = x) := hx
   have HKRW : Hid (Kept (fun k => k < W.heap.size) W wr) := HK2.out.trans (hKr.mono fun k h => Nat.lt_of_lt_of_le h HK2.out.size)
   have ru := (RD.out wr HKRW.out).up (L[k] : Int)
   rw [upI_in hxn] at ru
   obtain ⟨z, hz⟩ : ∃ z, upZ M R G L[k] = z := ⟨_, rfl⟩
   rw [hz] at ru hwu
   rw [hx] at ck ru
   have HWK : Hid ((kd = 5 /\ z = ho) \/ ∃ j, ∃ hj : j < L.length, j < k /\ z = (L[j] : Int)) := hwu
   clear hKr hxn hwu hx hz
   go_wp2_with fail
   refine ru.mono ?_
   rintro e u3 ⟨rfl, hk3⟩
   have HK3 : Hid (Kept (fun k => k < V2.heap.size) V2 u3) := HKR.out.trans (hk3.mono fun k h => Nat.lt_of_lt_of_le h HKR.out.size)
   have c0 := (HCC.out u3 HK3.out).1
   have c7 := (HCC.out u3 HK3.out).2
   clear ru hk3 ck
   go_upto_region 15 with fail
   go_cut [13] (fun v wx => wx = u3 /\ ∃ t : Bool, v = .bool t /\ (kd = 5 /\ z = ho -> t = true))
   case first =>
    by_cases ck : kd = 5
    ·subst ck
     by_cases cz : z = ho
     ·subst cz
      go_wp2
      go_meet
      case rel => exact ⟨rfl, true, rfl, fun _ => rfl⟩
     ·have e1 : (z == ho) = false := by simpa using cz
      have HCZ : Hid (¬ z = ho) := cz
      clear cz
      go_wp2
      go_meet
      case rel => exact ⟨rfl, false, rfl, fun h => absurd h.2 HCZ.out⟩
    ·have e1 : ((kd : Int) == 5) = false := by simp; omega
     have HCK : Hid (¬ kd = 5) := ck
     clear ck
     go_wp2
     go_meet
     case rel => exact ⟨rfl, false, rfl, fun h => absurd h.1 HCK.out⟩
   case rest =>
   obtain ⟨hwc, t0, rfl, ht0⟩ := hcut
   rw [hwc]
   have HT0 : Hid (kd = 5 /\ z = ho -> t0 = true) := ht0
   clear hwc ht0 c0 c7
   go_upto_region 17 with fail
   go_loopg [13, 14] k (fun gh v13 v14 wr => ∃ (j : Nat) (t : Bool), gh = k - j /\ j <= k /\ v14 = .int .i64 (j : Int) /\ v13 = .bool t /\ (t0 = true -> t = true) /\ (∀ j', j' < j -> ∀ hj : j' < L.length, (L[j'] : Int) = z -> t = true) /\ Kept (fun k => k < V2.heap.size) V2 wr)
   case atStart => exact ⟨0, t0, rfl, Nat.zero_le _, rfl, rfl, fun h => h, fun j' h => absurd h (Nat.not_lt_zero _), HK3.out⟩
   case round =>
    obtain ⟨j, t, hgj, hj, rfl, rfl, ht1, ht2, hKj⟩ := hrel
    have HT1 : Hid (t0 = true -> t = true) := ht1
    have HT2 : Hid (∀ j', j' < j -> ∀ hj : j' < L.length, (L[j'] : Int) = z -> t = true) := ht2
    have HKJ : Hid (Kept (fun k => k < V2.heap.size) V2 wr) := hKj
    have ck := HCL.out wr hKj k hkL
    rw [HX.out] at ck
    by_cases hlt2 : j < k
    ·have hjL : j < L.length := by omega
     have cj := HCL.out wr hKj j hjL
     have hjk : L[j] ≠ x := by
      rw [<- HX.out]
      exact List.pairwise_iff_getElem.1 HND.out j k hjL hkL hlt2
     obtain ⟨y, hy⟩ : ∃ y, L[j] = y := ⟨_, rfl⟩
     have HY : Hid (L[j] = y) := hy
     rw [hy] at cj hjk
     have hjx : ((y : Int) == (x : Int)) = false := by simp; omega
     have hjl : j < ll := by omega
     obtain ⟨t', ht'⟩ : ∃ t' : Bool, (t || decide ((y : Int) = z)) = t' := ⟨_, rfl⟩
     have HT' : Hid ((t || decide ((y : Int) = z)) = t') := ht'
     have HN1 : Hid (t0 = true -> t' = true) := fun h => by rw [<- ht', HT1.out h]; rfl
     have HN2 : Hid (∀ j', j' < j + 1 -> ∀ hj : j' < L.length, (L[j'] : Int) = z -> t' = true) := fun j' h' hj' e => by
      by_cases c : j' = j
      ·subst c
       rw [HY.out] at e
       rw [<- ht', decide_eq_true e, Bool.or_true]
      ·rw [<- ht', HT2.out j' (by omega) hj' e]; rfl
     clear ht1 ht2 hKj hy ht'
     cases t with
     | true =>
      have hte : t' = true := HT'.out.symm
      subst hte
      go_upto_region 20 with fail
      go_quiet (fail)
      go_wp2
      go_roundg (k - (j + 1))
      case rel => exact ⟨j + 1, true, rfl, by omega, by go_num, rfl, fun _ => rfl, fun _ _ _ _ => rfl, HKJ.out.drewN _⟩
      case measure => omega
     | false =>
      by_cases cy : (y : Int) = z
      ·have hte : t' = true := by rw [<- HT'.out, decide_eq_true cy]; rfl
       subst hte
       have e1 : ((y : Int) == z) = true := by simpa using cy
       clear cy
       go_upto_region 20 with fail
       go_quiet (fail)
       go_wp2
       go_roundg (k - (j + 1))
       case rel => exact ⟨j + 1, true, rfl, by omega, by go_num, rfl, fun _ => rfl, fun _ _ _ _ => rfl, HKJ.out.drewN _⟩
       case measure => omega
      ·have hte : t' = false := by rw [<- HT'.out, decide_eq_false cy]; rfl
       subst hte
       have e1 : ((y : Int) == z) = false := by simpa using cy
       clear cy
       go_upto_region 20 with fail
       go_quiet (fail)
       go_wp2
       go_roundg (k - (j + 1))
       case rel => exact ⟨j + 1, false, rfl, by omega, by go_num, rfl, HN1.out, HN2.out, HKJ.out.drewN _⟩
       case measure => omega
    ·have hjn : k = j := by omega
     subst hjn
     have ht : t = true := by
      rcases HWK.out with hh | ⟨j', hj', hjk', e⟩
      ·exact HT1.out (HT0.out hh)
      ·exact HT2.out j' hjk' hj' e.symm
     subst ht
     clear ht1 ht2 hKj ck
     go_wp2
     go_roundg (ll + 1 - (k + 1))
     case rel => exact ⟨k + 1, rfl, by omega, by omega, by go_num, HKJ.out⟩
     case measure => omega
  ·have hkn : ll = k := by omega
   subst hkn
   clear hKr
   go_wp2
   go_ret
   exact ⟨rfl, HKW.out.trans ((HK2.out.trans (HKR.out.mono fun k h => Nat.lt_of_lt_of_le h HK2.out.size)).mono fun k h => Nat.lt_of_lt_of_le h HKW.out.size)⟩
theorem fwalk_no (a : Option Addr) (n c : Nat) (w : World) (za : Int) (rh : Calls Tryz.prog 47 #[.slice a n c] w fun e w' => e = .returned (.bool true) /\ Kept (fun k => k < w.heap.size) w w') :
  Calls Tryz.prog 14 #[.slice a n c, .int .u16 za] w fun e w' => e = .returned (.bool true) /\ Kept (fun k => k < w.heap.size) w w' := by
 go_enter Tryz.func14, Tryz.ntmps14
 go_wp2_with fail
 refine rh.mono ?_
 rintro e w1 ⟨rfl, k1⟩
 have rk0 := fknown_any w1
 clear rh
 go_wp2_with (go_at_call 48; refine rk0.mono ?_; rintro e w2 ⟨rfl, k2⟩)
 go_ret
 exact ⟨rfl, k1.trans (k2.mono fun k h => Nat.lt_of_lt_of_le h k1.size)⟩
end
end Go.Proofs.YtljnjdckhkglfaaGreat
