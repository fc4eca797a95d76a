/-
  The walk of QueryRoots.
-/
import Derived.Test.YtojbjiopilkbgaaGreatVQk
import Derived.Test.YtojbjiopilkbgaaGreatVQg
namespace Go.Proofs.YtojbjiopilkbgaaGreat
set_option maxHeartbeats 8000000
set_option maxRecDepth 100000
open Go.RowKit Go.Sort
set_option linter.unusedVariables false
theorem Up.par {n : Nat} {F : Nat -> List Nat} {i x : Nat} (h : Up n F i x) (hx : x ≠ i) : ∃ y, y < n /\ x ∈ F y /\ Up n F i y := by
 cases h with
 | here => exact absurd rfl hx
 | @up _ y hy hm hu => exact ⟨y, hy, hm, hu⟩
theorem zna : nmP (⟨#[42]⟩ : ByteArray).toList = elB := by rw [zjk [42]]; rfl
theorem zqp {M : Dm} {R : Nat -> List Nat} {rk : Nat -> Nat} (h : Good M R rk) {P : Nd -> Bool} {i x : Nat} (hi : i < M.n) (hx : x ∈ qL M R P (i : Int)) : x < M.n /\ x ≠ i /\ P (M.nd x) = true /\ Up M.n R i x := by
 obtain ⟨h1, h2⟩ := List.mem_filter.1 hx
 rw [zdp hi] at h1
 unfold qF at h2
 rw [Bool.and_eq_true] at h2
 refine ⟨zkx h.falls _ i hi x h1, fun e => ?_, h2.2, (zjv h.falls hi).1 h1⟩
 subst e
 simp at h2
theorem zrf (l : List Opx) (n : Nat) (hln : l.length = n) (hnn : n <= 60) (a : Option Addr) (c : Nat) (hok : ∀ o ∈ l, Zkz o) (hb : zcd l <= 6000) (w : World) (h : Zfo (fun k => k < w.heap.size) w a l) (za : Nat) (hza : za < 65536) :
  Calls Tryz.prog 11 #[.slice a n c, .int .u16 (za : Int)] w fun e w' => e = .returned (.bool true) /\ Kept (fun k => k < w.heap.size) w w' := by
 have rh := zbw l n hln hnn a c (by omega) w h
 rw [decide_eq_false (by omega : ¬ 6000 < zcd l)] at rh
 have RG : Hid (∀ X, Kept (fun k => k < w.heap.size) w X -> Calls Tryz.prog 36 #[.slice a n c] X fun e w' => ∃ p r E M R G rk, e = .returned (.tuple #[.pointer (some ⟨p, 0, none⟩), .pointer (some ⟨r, 0, none⟩)]) /\ Grown (fun k => k < X.heap.size) E w' p r M R G rk 300 /\ Kept (fun k => k < X.heap.size) X w') := fun X hX => zfb l n hln (by omega) a c hok (by omega) X (h.kept hX fun k hk => ltl hk hX.size)
 clear hln hok hb h
 go_enter Tryz.func11, Tryz.ntmps11
 go_wp2_with fail
 refine rh.mono ?_
 rintro e w1 ⟨rfl, k1⟩
 have rk0 := zbf w1
 clear rh
 go_wp2_with fail
 refine rk0.mono ?_
 rintro e w2 ⟨rfl, k2⟩
 have k12 : Kept (fun k => k < w.heap.size) w w2 := k1.trans (k2.mono fun k h => ltl h k1.size)
 have rg := RG.out w2 k12
 have HK12 : Hid (Kept (fun k => k < w.heap.size) w w2) := k12
 clear rk0 k1 k2 k12 RG
 go_wp2_with fail
 refine rg.mono ?_
 rintro e W ⟨p, r, E, M, R, G, rk, rfl, hG, hK⟩
 have HKW : Hid (Kept (fun k => k < w.heap.size) w W) := HK12.out.trans (hK.mono fun k h => ltl h HK12.out.size)
 obtain ⟨m, hm⟩ : ∃ m, M.n = m := ⟨_, rfl⟩
 have HM : Hid (M.n = m) := hm
 have hm300 : m <= 300 := by have h1 := hG.le; rw [hG.lim, hm] at h1; exact h1
 have hm1 : 1 <= m := by rw [<- hm]; exact hG.inv.core.pos
 have hn5 : M.n <= 100000 := by omega
 have rl : ∀ X, Kept (fun k => k < W.heap.size) W X -> Calls Tryz.prog 15 #[.pointer (some ⟨p, 0, none⟩)] X fun e w' => e = .returned (.int .i64 (m : Int)) /\ w' = X := fun X hX => by rw [<- hm]; exact hG.len hX
 have NODE : Hid (∀ i, i < m -> ∀ X, Kept (fun k => k < W.heap.size) W X -> Calls Tryz.prog 23 #[.pointer (some ⟨p, 0, none⟩), .int .i64 (i : Int)] X fun e w' => Told X (M.nd i) (M.pl i).up (R i) e w') := fun i hi X hX => hG.node (by decide) (by rw [hm]; exact hi) hX
 obtain ⟨i, hi⟩ : ∃ i, za % m = i := ⟨_, rfl⟩
 have him : i < m := by rw [<- hi]; exact Nat.mod_lt _ (by omega)
 have hi' : (za : Int).tmod (m : Int) = (i : Int) := by rw [<- hi]; rfl
 have hin : i < M.n := by rw [hm]; exact him
 have rn := zd6 (hG.two.d) hG.inv.good hn5 ⟨#[42]⟩ (i : Int)
 rw [zna] at rn
 have hmem : ∀ x ∈ qL M R elB (i : Int), x < m /\ x ≠ i /\ (M.nd x).kind = 1 /\ ∃ y, y < m /\ (M.pl x).up = (y : Int) /\ Up M.n R i y := fun x hx => by
  obtain ⟨h1, h2, h3, h4⟩ := zqp hG.inv.good hin hx
  obtain ⟨y, hy, hxy, hu⟩ := h4.par h2
  exact ⟨by rw [<- hm]; exact h1, h2, of_decide_eq_true h3, y, by rw [<- hm]; exact hy, hG.inv.good.wf.up hy hxy, hu⟩
 have HMEM : Hid _ := hmem
 have hup : ∀ y, y < m -> y ≠ i -> Up M.n R i y -> ∃ z, z < m /\ (M.pl y).up = (z : Int) /\ Up M.n R i z /\ rk z < rk y := fun y hy hne hu => by
  obtain ⟨z, hz, hyz, hu'⟩ := hu.par hne
  exact ⟨z, by rw [<- hm]; exact hz, hG.inv.good.wf.up hz hyz, hu', (hG.inv.good.kid hz hyz).2.2⟩
 have HUP : Hid _ := hup
 have hll : (qL M R elB (i : Int)).length <= 300 := Nat.le_trans (zi1 hG.inv.good.only _ _) (by omega)
 obtain ⟨L, hL⟩ : ∃ L, qL M R elB (i : Int) = L := ⟨_, rfl⟩
 rw [hL] at rn HMEM hll
 have hi300 : i < 300 := by omega
 have rl0 := rl W (Kept.refl _ _)
 clear rg hG hK hm hi hin hmem hup hL rl hn5
 go_upto_region 7 with (go_at_call 15; refine rl0.mono ?_; rintro e1 w3 ⟨rfl, hw3⟩; replace hw3 := hw3.symm; subst hw3)
 clear rl0
 go_wp2_with fail
 refine rn.mono ?_
 rintro e U ⟨ta, tc, rfl, hO, hk1⟩
 have HROW : Hid (Zah (fun g => g < U.heap.size) U ta L) := hO.intsAt fun g hg => (hO.out hg).2
 have HKU : Hid (Kept (fun k => k < W.heap.size) W U) := hk1
 obtain ⟨ln, hln⟩ : ∃ ln, L.length = ln := ⟨_, rfl⟩
 have HLN : Hid (L.length = ln) := hln
 rw [hln] at hll ⊢
 clear rn hO hk1 hln
 go_upto_region 9 with fail
 go_loopg [9] ln (fun gh v wr => ∃ j : Nat, gh = ln - j /\ j <= ln /\ v = .int .i64 (j : Int) /\ Kept (fun k => k < U.heap.size) U wr)
 case atStart => exact ⟨0, rfl, Nat.zero_le _, rfl, Kept.refl _ _⟩
 case round =>
  obtain ⟨j, hgj, hj, rfl, hKr⟩ := hrel
  have HKr : Hid (Kept (fun k => k < U.heap.size) U wr) := hKr
  have HKW3 : Hid (Kept (fun k => k < W.heap.size) W wr) := HKU.out.trans (hKr.mono fun k h => ltl h HKU.out.size)
  by_cases hlt : j < ln
  ·have hjl : j < L.length := by rw [HLN.out]; exact hlt
   obtain ⟨g, o, rfl, hg, d⟩ := HROW.out j hjl
   have hme := HMEM.out _ (List.getElem_mem hjl)
   obtain ⟨x, hx⟩ : ∃ x, L[j] = x := ⟨_, rfl⟩
   rw [hx] at d hme
   have HD : Hid (∀ X, Kept (fun k => k < U.heap.size) U X -> X.cell? ⟨g, o + j, none⟩ = some (.int .i64 (x : Int))) := fun X hX => (hX.cell (p := ⟨g, o + j, none⟩) hg).trans d
   have d1 := HD.out wr hKr
   obtain ⟨hxm, hxi, hkd, y, hym, hyu, hyU⟩ := hme
   have rn := NODE.out x hxm wr HKW3.out
   have HXI : Hid (x ≠ i) := hxi
   have HKD : Hid ((M.nd x).kind = 1) := hkd
   have HYU : Hid ((M.pl x).up = (y : Int)) := hyu
   have HYY : Hid (y < m /\ Up M.n R i y) := ⟨hym, hyU⟩
   have hxm3 : x < 300 := by omega
   clear hKr d hx hxi hkd hyu hyU hym hxm hjl
   go_wp2_with fail
   refine rn.mono ?_
   rintro e v1 ⟨ao, ac, ko, kc, rfl, -, -, hKa⟩
   obtain ⟨V1, N1, hV1, rfl, hb1, kV1, sV1⟩ := za9 v1 (zch (M.nd x) ao ac (M.pl x).up ko (R x).length kc) 46
   have hkV : Kept (fun k => k < wr.heap.size) wr V1 := hKa.trans (kV1.mono fun k h => ltl h hKa.size)
   have HKV : Hid (Kept (fun k => k < U.heap.size) U V1) := HKr.out.trans (hkV.mono fun k h => ltl h HKr.out.size)
   have HKV3 : Hid (Kept (fun k => k < W.heap.size) W V1) := HKW3.out.trans (hkV.mono fun k h => ltl h HKW3.out.size)
   obtain ⟨N1, hN1⟩ : ∃ N, v1.heap.size = N := ⟨_, rfl⟩
   rw [hN1] at hb1
   have HB1 : Hid (∀ X, Kept (fun k => k < V1.heap.size) V1 X -> X.cell? ⟨N1, 0, none⟩ = some (.int .u8 1) /\ X.cell? ⟨N1, 4, none⟩ = some (.int .i64 (y : Int))) := fun X hX => by
    have h1 := (hX.block N1 (zae hb1)).trans hb1
    refine ⟨?_, ?_⟩
    ·rw [zaa h1]
     show some (Value.int .u8 ((M.nd x).kind : Int)) = _
     rw [HKD.out]; rfl
    ·rw [zaa h1]
     show some (Value.int .i64 (M.pl x).up) = _
     rw [HYU.out]
   have HV1 : Hid (v1.alloc (.cells (zch (M.nd x) ao ac (M.pl x).up ko (R x).length kc) 46) = V1) := hV1
   have HN1 : Hid (v1.heap.size = N1) := hN1
   clear rn hKa hV1 hN1 hb1 kV1 sV1 hkV d1
   go_upto_region 12 with fail
   rw [HV1.out, HN1.out]
   obtain ⟨z0, z4⟩ := HB1.out V1 (Kept.refl _ _)
   clear HV1 HN1
   go_upto_region 13 with fail
   clear z0 z4
   go_loopg [12] (rk y) (fun gh v wi => ∃ z : Nat, gh = rk z /\ z < m /\ Up M.n R i z /\ v = .int .i64 (z : Int) /\ Kept (fun k => k < V1.heap.size) V1 wi)
   case atStart => exact ⟨y, rfl, HYY.out.1, HYY.out.2, rfl, Kept.refl _ _⟩
   case round =>
    obtain ⟨z, hgz, hzm, hzU, rfl, hKi⟩ := hrel
    have i1 : decide ((z : Int) >= 0) = true := decide_eq_true (by omega)
    have HKI : Hid (Kept (fun k => k < V1.heap.size) V1 wr) := hKi
    by_cases hzi : z = i
    ·have i2 : ((z : Int) != (i : Int)) = false := by rw [hzi]; simp
     have i3 : ((x : Int) == (i : Int)) = false := by rw [beq_eq_false_iff_ne]; have := HXI.out; omega
     obtain ⟨z0, z4⟩ := HB1.out wr hKi
     have dd := HD.out wr (HKV.out.trans (hKi.mono fun k h => ltl h HKV.out.size))
     clear hgz hzU hKi hzi
     go_wp2
     go_roundg (ln - (j + 1))
     case rel => exact ⟨j + 1, rfl, by omega, by go_num, HKV.out.trans (HKI.out.mono fun k h => ltl h HKV.out.size)⟩
     case measure => omega
    ·have i2 : ((z : Int) != (i : Int)) = true := by simp; omega
     obtain ⟨q, hqm, hqu, hqU, hqr⟩ := HUP.out z hzm hzi hzU
     have rn := NODE.out z hzm wr (HKV3.out.trans (hKi.mono fun k h => ltl h HKV3.out.size))
     have HQ : Hid (q < m /\ Up M.n R i q /\ (M.pl z).up = (q : Int)) := ⟨hqm, hqU, hqu⟩
     have hzm3 : z < 300 := by omega
     have HGZ : Hid (gk = rk z) := hgz
     have HQR : Hid (rk q < rk z) := hqr
     clear hgz hzU hKi hzi hqm hqU hqu hqr
     go_wp2_with fail
     refine rn.mono ?_
     rintro e v2 ⟨ao2, ac2, ko2, kc2, rfl, -, -, hKa⟩
     obtain ⟨V2, N2, hV2, rfl, hb2, kV2, sV2⟩ := za9 v2 (zch (M.nd z) ao2 ac2 (M.pl z).up ko2 (R z).length kc2) 46
     have hkV : Kept (fun k => k < wr.heap.size) wr V2 := hKa.trans (kV2.mono fun k h => ltl h hKa.size)
     have HKV2 : Hid (Kept (fun k => k < V1.heap.size) V1 V2) := HKI.out.trans (hkV.mono fun k h => ltl h HKI.out.size)
     have z4 : V2.cell? ⟨v2.heap.size, 4, none⟩ = some (.int .i64 (q : Int)) := by
      rw [zaa hb2]
      show some (Value.int .i64 (M.pl z).up) = _
      rw [HQ.out.2.2]
     have HV2 : Hid (v2.alloc (.cells (zch (M.nd z) ao2 ac2 (M.pl z).up ko2 (R z).length kc2) 46) = V2) := hV2
     clear rn hKa hV2 hb2 kV2 sV2 hkV
     go_wp2_with (rw [HV2.out])
     go_roundg (rk q)
     case rel => exact ⟨q, rfl, HQ.out.1, HQ.out.2.1, rfl, HKV2.out⟩
     case measure => rw [HGZ.out]; exact HQR.out
  ·have hjn : ln = j := by omega
   subst hjn
   clear hKr
   go_wp2
   go_ret
   exact ⟨rfl, HKW.out.trans (HKW3.out.mono fun k h => ltl h HKW.out.size)⟩
theorem zri (a : Option Addr) (n c : Nat) (w : World) (za : Nat) (rh : Calls Tryz.prog 34 #[.slice a n c] w fun e w' => e = .returned (.bool true) /\ Kept (fun k => k < w.heap.size) w w') :
  Calls Tryz.prog 11 #[.slice a n c, .int .u16 (za : Int)] w fun e w' => e = .returned (.bool true) /\ Kept (fun k => k < w.heap.size) w w' := by
 go_enter Tryz.func11, Tryz.ntmps11
 go_wp2_with fail
 refine rh.mono ?_
 rintro e w1 ⟨rfl, k1⟩
 have rk := zbf w1
 have HK1 : Hid (Kept (fun k => k < w.heap.size) w w1) := k1
 clear rh k1
 go_wp2_with fail
 refine rk.mono ?_
 rintro e w2 ⟨rfl, hk2⟩
 have HK2 : Hid (Kept (fun k => k < w.heap.size) w w2) := HK1.out.trans (hk2.mono fun k h => ltl h HK1.out.size)
 clear rk hk2
 go_wp2
 go_ret
 exact ⟨rfl, HK2.out⟩
end Go.Proofs.YtojbjiopilkbgaaGreat
