/-
  The walk of ShadowStays.
-/
import Derived.Test.YtbhfnbplbkncmaaGreatVSSUysWb
namespace Go.Proofs.YtbhfnbplbkncmaaGreat
open Go.RowKit Go.Sort
set_option linter.unusedVariables false
theorem Grown.ext {K E : Nat → Prop} {w V : World} {p r : Nat} {M : Dm} {R G : Nat → List Nat} {rk : Nat → Nat} {lim : Nat} (h : Grown K E w p r M R G rk lim) (hk : Kept (fun k => k < w.heap.size) w V) : Grown (fun j => K j ∨ (w.heap.size ≤ j ∧ j < V.heap.size)) E V p r M R G rk lim :=
  ⟨h.two.more hk (fun k hl hh => by
    rcases hh with hh | hh
    · exact hh
    · omega) (fun k hh => by
    rcases hh with hh | hh
    · exact Nat.lt_of_lt_of_le (h.two.lt k hh) hk.size
    · exact hh.2), h.inv, h.lim, h.le⟩
theorem shadow_stuck {M : Dm} {R G : Nat → List Nat} {rk : Nat → Nat} (h : Inv M R G rk) {i s : Nat} (hi : i < M.n) (hs : (M.nd i).shadow = (s : Int)) (u : Nat) (b : Int) : ¬ Fits M u s b := fun hF => by
  obtain ⟨h1, _, h3, _⟩ := h.shadow hi hs
  have := ((h.core.move h1).1 hF.2.1).2
  omega
set_option maxRecDepth 20000 in
set_option maxHeartbeats 8000000 in
theorem sstays_go (l : List Opx) (n : Nat) (hln : l.length = n) (hnn : n ≤ 60) (a : Option Addr) (c : Nat) (hok : ∀ o ∈ l, OpOk o) (hb : opsH l ≤ 6000) (l2 : List Opx) (n2 : Nat) (hln2 : l2.length = n2) (hnn2 : n2 ≤ 60) (a2 : Option Addr) (c2 : Nat) (hok2 : ∀ o ∈ l2, OpOk o) (hb2 : opsH l2 ≤ 6000) (w : World) (h : OpsAt (fun k => k < w.heap.size) w a l) (h2 : OpsAt (fun k => k < w.heap.size) w a2 l2) (za : Nat) (hza : za < 65536) :
    Calls Tryz.prog 9 #[.slice a n c, .slice a2 n2 c2, .int .u16 (za : Int)] w fun e w' => e = .returned (.bool true) ∧ Kept (fun k => k < w.heap.size) w w' := by
  have RH2 : Hid (∀ X, Kept (fun k => k < w.heap.size) w X → Calls Tryz.prog 37 #[.slice a2 n2 c2] X fun e w' => e = .returned (.bool false) ∧ Kept (fun k => k < X.heap.size) X w') := fun X hX => by
    have := heavy10_any l2 n2 hln2 hnn2 a2 c2 (by omega) X (h2.kept hX fun g hg => Nat.lt_of_lt_of_le hg hX.size)
    rw [decide_eq_false (by omega : ¬ 6000 < opsH l2)] at this
    exact this
  have HLL : Hid (l2.length = n2) := hln2
  have HH : Hid (OpsAt (fun k => k < w.heap.size) w a2 l2) := h2
  have HOK : Hid (∀ o ∈ l2, OpOk o) := hok2
  have HB : Hid (opsH l2 ≤ 6000) := hb2
  clear hln2 hok2 hb2 h2
  have rh := heavy10_any l n hln hnn a c (by omega) w h
  rw [decide_eq_false (by omega : ¬ 6000 < opsH l)] at rh
  have RG : Hid (∀ X, Kept (fun k => k < w.heap.size) w X → Calls Tryz.prog 39 #[.slice a n c] X fun e w' => ∃ p r E M R G rk, e = .returned (.tuple #[.pointer (some ⟨p, 0, none⟩), .pointer (some ⟨r, 0, none⟩)]) ∧ Grown (fun k => k < X.heap.size) E w' p r M R G rk 300 ∧ Kept (fun k => k < X.heap.size) X w') := fun X hX => grown10 l n hln (by omega) a c hok (by omega) X (h.kept hX fun g hg => Nat.lt_of_lt_of_le hg hX.size)
  clear hln hok hb h
  go_enter Tryz.func9, Tryz.ntmps9
  go_wp2_with fail
  refine rh.mono ?_
  rintro e w1 ⟨rfl, k1⟩
  have rh2 := RH2.out w1 k1
  clear rh
  go_wp2_with fail
  refine rh2.mono ?_
  rintro e w1' ⟨rfl, k1'⟩
  have rk0 := sknown_any w1'
  replace k1 : Kept (fun k => k < w.heap.size) w w1' := k1.trans (k1'.mono fun k h => Nat.lt_of_lt_of_le h k1.size)
  clear rh2 RH2 k1'
  go_wp2_with fail
  refine rk0.mono ?_
  rintro e w2 ⟨rfl, k2⟩
  have k12 : Kept (fun k => k < w.heap.size) w w2 := k1.trans (k2.mono fun k h => Nat.lt_of_lt_of_le h k1.size)
  have rg := RG.out w2 k12
  have HK12 : Hid (Kept (fun k => k < w.heap.size) w w2) := k12
  clear rk0 k1 k2 k12 RG
  go_wp2_with fail
  refine rg.mono ?_
  rintro e W ⟨p, r, E, M, R, G, rk, rfl, hG, hK⟩
  have HG : Hid (Grown (fun k => k < w2.heap.size) E W p r M R G rk 300) := hG
  have HKW : Hid (Kept (fun k => k < w.heap.size) w W) := HK12.out.trans (hK.mono fun k h => Nat.lt_of_lt_of_le h HK12.out.size)
  obtain ⟨m, hm⟩ : ∃ m, M.n = m := ⟨_, rfl⟩
  have HM : Hid (M.n = m) := hm
  have hm300 : m ≤ 300 := by have h1 := hG.le; rw [hG.lim, hm] at h1; exact h1
  have hm1 : 1 ≤ m := by rw [← hm]; exact hG.inv.core.pos
  have rl : Calls Tryz.prog 23 #[.pointer (some ⟨p, 0, none⟩)] W fun e w' => e = .returned (.int .i64 (m : Int)) ∧ w' = W := by rw [← hm]; exact hG.len (Kept.refl _ _)
  have NODE : Hid (∀ i, i < m → ∀ X, Kept (fun k => k < W.heap.size) W X → Calls Tryz.prog 24 #[.pointer (some ⟨p, 0, none⟩), .int .i64 (i : Int)] X fun e w' => Told X (M.nd i) (M.pl i).up (R i) e w') := fun i hi X hX => hG.node (by decide) (by rw [hm]; exact hi) hX
  obtain ⟨i, hi⟩ : ∃ i, za % m = i := ⟨_, rfl⟩
  have him : i < m := by rw [← hi]; exact Nat.mod_lt _ (by omega)
  have hi' : (za : Int).tmod (m : Int) = (i : Int) := by rw [← hi]; rfl
  have rn := NODE.out i him W (Kept.refl _ _)
  clear rg hG hK hm hi NODE
  go_upto_region 7 with (go_at_call 23; refine rl.mono ?_; rintro e1 w3 ⟨rfl, hw3⟩; replace hw3 := hw3.symm; subst hw3)
  clear rl
  go_wp2_with fail
  refine rn.mono ?_
  rintro e v1 ⟨ao1, ac1, ko1, kc1, rfl, -, hQ1, hKa⟩
  obtain ⟨N1, hN1⟩ : ∃ N, v1.heap.size = N := ⟨_, rfl⟩
  obtain ⟨V1, hV1⟩ : ∃ V, v1.alloc (.cells (outN (M.nd i) ao1 ac1 (M.pl i).up ko1 (R i).length kc1) 36) = V := ⟨_, rfl⟩
  have hB1 := Box.of hQ1 hKa V1 N1 hN1 hV1
  have HV1 : Hid (v1.alloc (.cells (outN (M.nd i) ao1 ac1 (M.pl i).up ko1 (R i).length kc1) 36) = V1) := hV1
  have HN1 : Hid (v1.heap.size = N1) := hN1
  have hg1 := HG.out.ext hB1.kept
  obtain ⟨K1, hK1⟩ : ∃ K' : Nat → Prop, (fun j => (j < w2.heap.size) ∨ (W.heap.size ≤ j ∧ j < V1.heap.size)) = K' := ⟨_, rfl⟩
  rw [hK1] at hg1
  have KN1 : Hid (K1 N1) := by rw [← hK1]; exact .inr ⟨hB1.lo, hB1.hi⟩
  have KLOW : Hid (∀ g, g < w.heap.size → K1 g) := fun g hg => by rw [← hK1]; exact .inl (Nat.lt_of_lt_of_le hg HK12.out.size)
  have HG1 : Hid (Grown K1 E V1 p r M R G rk 300) := hg1
  have HKV : Hid (Kept (fun k => k < w.heap.size) w V1) := HKW.out.trans (hB1.kept.mono fun k h => Nat.lt_of_lt_of_le h HKW.out.size)
  have HC6 : Hid (V1.cell? ⟨N1, 6, none⟩ = some (.int .i64 (M.nd i).shadow)) := hB1.c6
  clear rn hQ1 hKa hN1 hV1 hB1 hg1 hK1
  replace HH : Hid (OpsAt (fun k => k < w.heap.size) V1 a2 l2) := HH.out.kept HKV.out (fun g hg => hg)
  go_upto_region 9 with fail
  rw [HV1.out, HN1.out]
  clear HV1 HN1
  go_loopg [12] n2 (fun gh v wr => ∃ (k : Nat) (E : Nat → Prop) (M' : Dm) (R' G' : Nat → List Nat) (rk' : Nat → Nat), gh = n2 - k ∧ k ≤ n2 ∧ v = .int .i64 (k : Int) ∧ Grown K1 E wr p r M' R' G' rk' 300 ∧ Grows M M' ∧ Kept K1 V1 wr)
  case atStart => exact ⟨0, E, M, R, G, rk, rfl, Nat.zero_le _, rfl, HG1.out, .refl M, Kept.refl _ _⟩
  case round =>
    clear HG1
    obtain ⟨k, E, M', R', G', rk', hgk, hk, rfl, hG, hGr, hK⟩ := hrel
    have HGR0 : Hid (Grows M M') := hGr
    clear hGr
    by_cases hlt : k < n2
    · have hll : k < l2.length := by rw [HLL.out]; exact hlt
      obtain ⟨g, o, A, rfl, hg, hA, hc⟩ := HH.out k hll
      have hmem := List.getElem_mem hll
      obtain ⟨x, hx⟩ : ∃ x, l2[k] = x := ⟨_, rfl⟩
      rw [hx] at hA hc hmem
      have hvx := opsH_mem hmem
      have hrange : wr.rangeAt g (o + k * 17) (opC x A) := fun f u hu => (hK.cell (p := ⟨g, o + k * 17 + f, none⟩) (KLOW.out g hg)).trans (hc f u hu)
      obtain ⟨N, hN⟩ : ∃ N, wr.heap.size = N := ⟨_, rfl⟩
      have hb1 : (wr.alloc (.cells zero17 54)).heap[N]? = some (.cells zero17 54 (0, 0)) := by rw [← hN]; exact heap_alloc_new wr _
      obtain ⟨W1, hW1⟩ : ∃ W1, (wr.alloc (.cells zero17 54)).setRow N (opC x A).toArray = W1 := ⟨_, rfl⟩
      have hB1 : W1.heap[N]? = some (.cells (opC x A).toArray 54 (0, 0)) := by rw [← hW1]; exact setRow_heap _ _ _ _ _ _ hb1
      have k1 : Kept (fun k => k < wr.heap.size) wr W1 := by rw [← hW1]; exact kept_setRow ((Kept.refl _ wr).alloc (fun _ h => h) _) (by rw [hN]; exact Nat.lt_irrefl _) _
      obtain ⟨W2, hW2⟩ : ∃ W2, W1.setCell ⟨N, 4, none⟩ (.bool true) = W2 := ⟨_, rfl⟩
      have hB2 : W2.heap[N]? = some (.cells (opC { x with inn := true } A).toArray 54 (0, 0)) := by rw [← hW2]; exact heap_setCell_list hB1 4 (.bool true)
      have k2 : Kept (fun k => k < wr.heap.size) wr W2 := by rw [← hW2]; exact k1.setCell (p := ⟨N, 4, none⟩) (by rw [hN]; exact Nat.lt_irrefl _) _
      have k2w : Kept K1 V1 W2 := hK.trans (k2.mono hG.two.lt)
      have b4 : W1.cell? ⟨N, 4, none⟩ = some (.bool x.inn) := by rw [cell_block hB1]; rfl
      have f4 : W1.frozen? ⟨N, 4, none⟩ = false := frozen_block hB1 4
      have e0 : W2.cell? ⟨N, 0, none⟩ = some (.int .u8 (x.k : Int)) := by rw [cell_block hB2]; rfl
      have hdoes := does_any K1 E p r M' R' G' rk' W2 { x with inn := true } A ⟨(hG.kept k2).two, hG.inv, hG.le, by rw [hG.lim]; decide, (HOK.out x hmem).inn, by have := HB.out; show opH x ≤ _; omega, (hA.kept (k2w.mono KLOW.out) (fun g hg => KLOW.out g hg))⟩
      obtain ⟨cs, hcs⟩ : ∃ cs, (opC x A).toArray = cs := ⟨_, rfl⟩
      have hsz : cs.size = 17 := by rw [← hcs]; rfl
      have hone : cs.all (·.oneCell') = true := by rw [← hcs]; exact opC_one x A
      have hlen : (opC x A).length = 17 := rfl
      obtain ⟨cl, hcl⟩ : ∃ cl, opC x A = cl := ⟨_, rfl⟩
      have hcc : cl.toArray = cs := by rw [← hcl]; exact hcs
      rw [hcl] at hrange hlen
      have hil : (Tryz.prog.info? 54).map (·.size) = some cl.length := by rw [hlen]; exact size37 cs hsz |>.trans (by rw [hsz])
      have HW1 : Hid ((wr.alloc (.cells zero17 54)).setRow N cs = W1) := by rw [← hcs]; exact hW1
      have HW2 : Hid (W1.setCell ⟨N, 4, none⟩ (.bool true) = W2) := hW2
      have HN : Hid (wr.heap.size = N) := hN
      obtain ⟨cs2, hcs2⟩ : ∃ cs2, (opC { x with inn := true } A).toArray = cs2 := ⟨_, rfl⟩
      have hsz2 : cs2.size = 17 := by rw [← hcs2]; rfl
      rw [hcs2] at hB2
      obtain ⟨q, hq⟩ : ∃ q, x.k % 16 = q := ⟨_, rfl⟩
      have hkm : (x.k : Int).tmod 16 = (q : Int) := by rw [← hq]; rfl
      have HD : Hid (Calls Tryz.prog 40 #[.pointer (some ⟨p, 0, none⟩), .pointer (some ⟨r, 0, none⟩), .agg cs2] W2 (DoesOk K1 p r M' W2)) := by rw [← hcs2]; exact hdoes
      have HG2 : Hid (Grown K1 E W2 p r M' R' G' rk' 300) := hG.kept k2
      have HK2 : Hid (Kept K1 V1 W2) := k2w
      clear hG hK hc hA hmem hx hvx hdoes hq hW1 hW2 hB1 k1 k2 k2w hcs hcs2 hN hlen hcl
      go_upto_region 11 with fail
      go_upto_region 12 with (first | (refine wpList_load_mid rfl 54 _ rfl g (o + k * 17) rfl cl _ hrange Tryz.underlying54 rfl hil ?_; rw [hcc]) | (rw [HN.out]; refine wpList_store_row rfl 54 _ _ rfl N cs rfl rfl 54 _ hb1 (size37 _ hsz) (by rw [hsz]; rfl) hone ?_))
      rw [HW1.out]
      clear hrange hb1 HW1
      go_upto_region 13 with fail
      rw [HW2.out]
      clear b4 f4 HW2
      by_cases q15 : q = 15
      · subst q15
        clear HD
        go_wp2
        go_roundg (n2 - (k + 1))
        case rel => exact ⟨k + 1, E, M', R', G', rk', rfl, by omega, by go_num, HG2.out, HGR0.out, HK2.out⟩
        case measure => omega
      · have n15 : ((q : Int) == 15) = false := by simp; omega
        have n15' : ((q : Int) != 15) = true := by simp; omega
        go_upto_region 14 with fail
        go_wp2_with (refine wpList_load_row rfl 54 _ rfl N rfl 54 cs2 (0, 0) _ hB2 Tryz.underlying54 rfl (size37 _ hsz2) ?_)
        refine HD.out.mono ?_
        rintro e w3 ⟨rfl, E', M2, R2, G2, rk2, h2, hI, hG', hK3⟩
        have HG3 : Hid (Grown K1 E' w3 p r M2 R2 G2 rk2 300) := ⟨h2, hI, hG'.limit.trans HG2.out.lim, hG'.le HG2.out.le⟩
        have HK3 : Hid (Kept K1 V1 w3) := HK2.out.trans hK3
        have HGR : Hid (Grows M' M2) := hG'
        clear HD h2 hI hG' hK3 HG2 HK2 e0 hB2
        go_wp2
        go_roundg (n2 - (k + 1))
        case rel => exact ⟨k + 1, E', M2, R2, G2, rk2, rfl, by omega, by go_num, HG3.out, HGR0.out.trans HGR.out, HK3.out⟩
        case measure => omega
    · have hkn : n2 = k := by omega
      subst hkn
      have c6 : wr.cell? ⟨N1, 6, none⟩ = some (.int .i64 (M.nd i).shadow) := (hK.cell (p := ⟨N1, 6, none⟩) KN1.out).trans HC6.out
      have hin : i < M'.n := by have := HGR0.out.n; rw [HM.out] at this; omega
      have HIN : Hid (i < M'.n) := hin
      have rm := hG.node (by decide) hin (Kept.refl _ wr)
      have HGW : Hid (Grown K1 E wr p r M' R' G' rk' 300) := hG
      have HKW1 : Hid (Kept K1 V1 wr) := hK
      obtain ⟨W5, rfl⟩ : ∃ W5, W5 = wr := ⟨_, rfl⟩
      clear hG hK hin
      go_upto_region 15 with fail
      go_wp2_with fail
      refine rm.mono ?_
      rintro e v2 ⟨ao2, ac2, ko2, kc2, rfl, -, hQ2, hKb⟩
      obtain ⟨N2, hN2⟩ : ∃ N, v2.heap.size = N := ⟨_, rfl⟩
      obtain ⟨V2, hV2⟩ : ∃ V, v2.alloc (.cells (outN (M'.nd i) ao2 ac2 (M'.pl i).up ko2 (R' i).length kc2) 36) = V := ⟨_, rfl⟩
      have hB2 := Box.of hQ2 hKb V2 N2 hN2 hV2
      have HV2 : Hid (v2.alloc (.cells (outN (M'.nd i) ao2 ac2 (M'.pl i).up ko2 (R' i).length kc2) 36) = V2) := hV2
      have HN2 : Hid (v2.heap.size = N2) := hN2
      have c6' : V2.cell? ⟨N1, 6, none⟩ = some (.int .i64 (M.nd i).shadow) := (hB2.kept.cell (p := ⟨N1, 6, none⟩) (HGW.out.two.lt _ KN1.out)).trans c6
      have d6 := hB2.c6
      have HK52 : Hid (Kept (fun k => k < W5.heap.size) W5 V2) := hB2.kept
      have HB2 : Hid (W5.heap.size ≤ N2 ∧ N2 < V2.heap.size) := ⟨hB2.lo, hB2.hi⟩
      have HG2 : Hid (Grown K1 E V2 p r M' R' G' rk' 300) := HGW.out.kept hB2.kept
      have HKV2 : Hid (Kept (fun k => k < w.heap.size) w V2) := HKV.out.trans ((HKW1.out.mono KLOW.out).trans (hB2.kept.mono fun k h => HGW.out.two.lt _ (KLOW.out k h)))
      obtain ⟨sz, hsz⟩ : ∃ sz, (M.nd i).shadow = sz := ⟨_, rfl⟩
      have HSZ : Hid ((M.nd i).shadow = sz) := hsz
      have hsh := HG.out.inv.sh (i := i) (by rw [HM.out]; exact him)
      rw [hsz] at c6' hsh
      clear rm hQ2 hKb hN2 hV2 hB2 c6 hsz
      go_upto_region 16 with fail
      rw [HV2.out, HN2.out]
      clear HV2 HN2
      rcases hsh with hs1 | ⟨s, hsn, hs1⟩
      · subst hs1
        obtain ⟨z, hO⟩ := OfOf.ex HGW.out.inv.good HIN.out
        have rp := HG2.out.pOf (by decide) HIN.out hO (Kept.refl _ V2)
        have ro := HG2.out.of (by decide) HIN.out hO (Kept.refl _ V2)
        have e1 : decide ((-1 : Int) < 0) = true := by decide
        clear hO d6
        go_wp2_with fail
        refine rp.mono ?_
        rintro e w3 ⟨rfl, hw3⟩
        replace hw3 := hw3.symm
        subst hw3
        clear rp
        go_wp2_with (go_at_call 42; refine ro.mono ?_; rintro e w6 ⟨rfl, hk6⟩)
        go_ret
        exact ⟨by simp, HKV2.out.trans (hk6.mono fun k h => Nat.lt_of_lt_of_le h HKV2.out.size)⟩
      · subst hs1
        have e1 : decide ((s : Int) < 0) = false := decide_eq_false (by omega)
        have hsp : (M'.nd i).shadow = (s : Int) := by rw [HGR0.out.shad i (by rw [HM.out]; exact him) (by rw [HSZ.out]; omega), HSZ.out]
        rw [hsp] at d6
        obtain ⟨s1, s2, s3, s4, -⟩ := HGW.out.inv.shadow HIN.out hsp
        have rs := HG2.out.node (by decide) s1 (Kept.refl _ V2)
        have HST : Hid (s < M'.n ∧ (M'.pl s).up = -1 ∧ ¬ Fits M' 0 s (-1)) := ⟨s1, s4, shadow_stuck HGW.out.inv HIN.out hsp 0 (-1)⟩
        obtain ⟨x, hx⟩ : ∃ x, M'.nd s = x := ⟨_, rfl⟩
        rw [hx] at rs s3
        rw [s4] at rs
        have HX7 : Hid (x.host = (i : Int)) := s3
        clear s1 s2 s3 s4 hx hsp
        go_upto_region 18 with fail
        go_wp2_with fail
        refine rs.mono ?_
        rintro e v3 ⟨ao3, ac3, ko3, kc3, rfl, -, hQ3, hKc⟩
        obtain ⟨N3, hN3⟩ : ∃ N, v3.heap.size = N := ⟨_, rfl⟩
        obtain ⟨V3, hV3⟩ : ∃ V, v3.alloc (.cells (outN x ao3 ac3 (-1) ko3 (R' s).length kc3) 36) = V := ⟨_, rfl⟩
        have hB3 := Box.of hQ3 hKc V3 N3 hN3 hV3
        have HV3 : Hid (v3.alloc (.cells (outN x ao3 ac3 (-1) ko3 (R' s).length kc3) 36) = V3) := hV3
        have HN3 : Hid (v3.heap.size = N3) := hN3
        have k53 : Kept (fun k => k < W5.heap.size) W5 V3 := HK52.out.trans (hB3.kept.mono fun k h => Nat.lt_of_lt_of_le h HK52.out.size)
        have hg3 := HGW.out.ext k53
        obtain ⟨K3, hK3⟩ : ∃ K' : Nat → Prop, (fun j => K1 j ∨ (W5.heap.size ≤ j ∧ j < V3.heap.size)) = K' := ⟨_, rfl⟩
        rw [hK3] at hg3
        have KN3 : Hid (K3 N1 ∧ K3 N2 ∧ K3 N3 ∧ ∀ j, j < w.heap.size → K3 j) := by
          rw [← hK3]
          exact ⟨.inl KN1.out, .inr ⟨HB2.out.1, Nat.lt_of_lt_of_le HB2.out.2 hB3.kept.size⟩, .inr ⟨Nat.le_trans HK52.out.size hB3.lo, hB3.hi⟩, fun j hj => .inl (KLOW.out j hj)⟩
        have HG3 : Hid (Grown K3 E V3 p r M' R' G' rk' 300) := hg3
        have HKV3 : Hid (Kept (fun k => k < w.heap.size) w V3) := HKV2.out.trans (hB3.kept.mono fun k h => Nat.lt_of_lt_of_le h HKV2.out.size)
        have a6 : V3.cell? ⟨N1, 6, none⟩ = some (.int .i64 (s : Int)) := (hB3.kept.cell (p := ⟨N1, 6, none⟩) (HG2.out.two.lt _ KN1.out)).trans c6'
        have HCC : Hid (∀ X, Kept K3 V3 X → X.cell? ⟨N1, 6, none⟩ = some (.int .i64 (s : Int)) ∧ X.cell? ⟨N2, 6, none⟩ = some (.int .i64 (s : Int)) ∧ X.cell? ⟨N3, 7, none⟩ = some (.int .i64 (i : Int)) ∧ X.cell? ⟨N3, 4, none⟩ = some (.int .i64 (-1))) := by
          have b2 : V3.cell? ⟨N2, 6, none⟩ = some (.int .i64 (s : Int)) := (hB3.kept.cell (p := ⟨N2, 6, none⟩) HB2.out.2).trans d6
          have b7 := hB3.c7
          rw [HX7.out] at b7
          have b4 := hB3.c4
          exact fun X hX => ⟨(hX.cell (p := ⟨N1, 6, none⟩) KN3.out.1).trans a6, (hX.cell (p := ⟨N2, 6, none⟩) KN3.out.2.1).trans b2, (hX.cell (p := ⟨N3, 7, none⟩) KN3.out.2.2.1).trans b7, (hX.cell (p := ⟨N3, 4, none⟩) KN3.out.2.2.1).trans b4⟩
        have hn5 : M'.n ≤ 100000 := HGW.out.nle (by decide)
        have ri := (insert_in (TK K3 E) p 0 s (-1) M' R' rk' V3 hg3.two.d hg3.inv.good.wf hg3.inv.good.acy hg3.inv.core.pos HST.out.1 (.inl rfl) (by omega)).mono (R' := fun e w' => e = .returned (.int .u16 81) ∧ Grown K3 E w' p r M' R' G' rk' 300 ∧ Kept K3 V3 w') fun e w' ⟨h1, h2⟩ => by
          rcases h2 with ⟨h3, _, h4⟩ | ⟨_, h3, _⟩
          · obtain ⟨t1, t2, t3⟩ := HG3.out.two.byD h1 h4
            exact ⟨h3, ⟨⟨t1, t2, HG3.out.two.nk⟩, HG3.out.inv, HG3.out.lim, HG3.out.le⟩, t3⟩
          · exact absurd h3 HST.out.2.2
        clear rs hQ3 hKc hN3 hV3 hB3 k53 hg3 hK3 c6' d6
        go_upto_region 19 with fail
        rw [HV3.out, HN3.out]
        clear HV3 HN3
        go_wp2_with fail
        refine ri.mono ?_
        rintro e w5 ⟨rfl, hg5, hk5⟩
        obtain ⟨a6', -⟩ := HCC.out w5 hk5
        have HK5 : Hid (Kept K3 V3 w5) := hk5
        have HG5 : Hid (Grown K3 E w5 p r M' R' G' rk' 300) := hg5
        have rr := (remove_in (TK K3 E) p s M' R' w5 hg5.two.d hg5.inv.good.wf HST.out.1 (by omega)).mono (R' := fun e w' => e = .returned (.int .u16 81) ∧ Grown K3 E w' p r M' R' G' rk' 300 ∧ Kept K3 V3 w') fun e w' ⟨h1, h2⟩ => by
          rcases h2 with ⟨_, h3, h4⟩ | ⟨h3, _, _⟩
          · obtain ⟨t1, t2, t3⟩ := HG5.out.two.byD h1 h4
            exact ⟨h3, ⟨⟨t1, t2, HG5.out.two.nk⟩, HG5.out.inv, HG5.out.lim, HG5.out.le⟩, HK5.out.trans t3⟩
          · exact absurd HST.out.2.1 h3
        clear ri hk5 hg5 a6
        go_upto_region 20 with fail
        go_wp2_with fail
        refine rr.mono ?_
        rintro e w6 ⟨rfl, hg6, hk6⟩
        obtain ⟨f1, f2, f3, f4⟩ := HCC.out w6 hk6
        have rsm := same_any K3 E w6 p r M' R' G' rk' hg6.two hg6.inv hn5
        have HK6 : Hid (Kept (fun k => k < w.heap.size) w w6) := HKV3.out.trans (hk6.mono KN3.out.2.2.2)
        clear rr hk6 hg6 a6'
        go_upto_region 21 with fail
        go_wp2_with fail
        refine rsm.mono ?_
        rintro e w7 ⟨rfl, hk7⟩
        have rnw := rnew_yes 1 w7 (by decide) (by decide)
        have HK7 : Hid (Kept (fun k => k < w.heap.size) w w7) := HK6.out.trans (hk7.mono fun k h => Nat.lt_of_lt_of_le h HK6.out.size)
        clear rsm hk7 f1 f2 f3 f4
        go_wp2_with fail
        refine rnw.mono ?_
        rintro e w8 ⟨p8, rfl, -, ⟨A8, hY8⟩, hk8⟩
        have c8 : w8.cell? ⟨p8, 1, none⟩ = some (.slice A8.na 1 A8.nc) := hY8.c1
        have HK8 : Hid (Kept (fun k => k < w.heap.size) w w8) := HK7.out.trans (hk8.mono fun k h => Nat.lt_of_lt_of_le h HK7.out.size)
        clear rnw hY8 hk8
        go_wp2
        go_ret
        exact ⟨rfl, HK8.out⟩
set_option maxRecDepth 20000 in
theorem sstays_no (a : Option Addr) (n c : Nat) (a2 : Option Addr) (n2 c2 : Nat) (w : World) (za : Int) (rh : Calls Tryz.prog 37 #[.slice a n c] w fun e w' => e = .returned (.bool true) ∧ Kept (fun k => k < w.heap.size) w w') :
    Calls Tryz.prog 9 #[.slice a n c, .slice a2 n2 c2, .int .u16 za] w fun e w' => e = .returned (.bool true) ∧ Kept (fun k => k < w.heap.size) w w' := by
  go_enter Tryz.func9, Tryz.ntmps9
  go_wp2_with fail
  refine rh.mono ?_
  rintro e w1 ⟨rfl, k1⟩
  have rk0 := sknown_any w1
  clear rh
  go_wp2_with (go_at_call 38; refine rk0.mono ?_; rintro e w2 ⟨rfl, k2⟩)
  go_ret
  exact ⟨rfl, k1.trans (k2.mono fun k h => Nat.lt_of_lt_of_le h k1.size)⟩
set_option maxRecDepth 20000 in
theorem sstays_no2 (a : Option Addr) (n c : Nat) (a2 : Option Addr) (n2 c2 : Nat) (w : World) (za : Int) (rh : Calls Tryz.prog 37 #[.slice a n c] w fun e w' => e = .returned (.bool false) ∧ Kept (fun k => k < w.heap.size) w w') (rh2 : ∀ X, Kept (fun k => k < w.heap.size) w X → Calls Tryz.prog 37 #[.slice a2 n2 c2] X fun e w' => e = .returned (.bool true) ∧ Kept (fun k => k < X.heap.size) X w') :
    Calls Tryz.prog 9 #[.slice a n c, .slice a2 n2 c2, .int .u16 za] w fun e w' => e = .returned (.bool true) ∧ Kept (fun k => k < w.heap.size) w w' := by
  go_enter Tryz.func9, Tryz.ntmps9
  go_wp2_with fail
  refine rh.mono ?_
  rintro e w1 ⟨rfl, k1⟩
  have rh2' := rh2 w1 k1
  clear rh rh2
  go_wp2_with fail
  refine rh2'.mono ?_
  rintro e w1' ⟨rfl, k1'⟩
  have rk0 := sknown_any w1'
  replace k1 : Kept (fun k => k < w.heap.size) w w1' := k1.trans (k1'.mono fun k h => Nat.lt_of_lt_of_le h k1.size)
  clear rh2' k1'
  go_wp2_with (go_at_call 38; refine rk0.mono ?_; rintro e w2 ⟨rfl, k2⟩)
  go_ret
  exact ⟨rfl, k1.trans (k2.mono fun k h => Nat.lt_of_lt_of_le h k1.size)⟩
end Go.Proofs.YtbhfnbplbkncmaaGreat
