/-
  The walk of DomInserts.
-/
import Derived.Test.YthhoicmfmfeehaaGreatVUk
namespace Go.Proofs.YthhoicmfmfeehaaGreat
open Go.RowKit Go.Sort
set_option linter.unusedVariables false
/-- What is in a node's box, in memory. -/
abbrev outM (x : Nd) (ao : Option Addr) (ac : Nat) (up : Int) (ko : Option Addr) (kn kc : Nat) : Array Value := outC x.kind ⟨x.name.toArray⟩ ⟨x.data.toArray⟩ ao x.attrs.length ac up ko kn kc x.shadow x.host x.content x.fl
set_option maxRecDepth 20000 in
set_option maxHeartbeats 8000000 in
theorem inserts_go (l : List Opx) (n : Nat) (hln : l.length = n) (hnn : n ≤ 40) (a : Option Addr) (c : Nat) (hok : ∀ o ∈ l, OpOk o) (hb : opsH l ≤ 5000) (w : World) (h : OpsAt (fun k => k < w.heap.size) w a l) (zu zi zb : Int) :
    Calls Tryz.prog 6 #[.slice a n c, .int .i64 zu, .int .i64 zi, .int .i64 zb] w fun e w' => e = .returned (.bool true) ∧ Kept (fun k => k < w.heap.size) w w' := by
  have rh := heavy_any l n hln (by omega) a c (by omega) w h
  have hg60 : decide ((n : Int) > 40) = false := decide_eq_false (by omega)
  obtain ⟨hv, hhv⟩ : ∃ hv, opsH l = hv := ⟨_, rfl⟩
  rw [hhv] at rh
  have hg6 : decide ((hv : Int) > 5000) = false := decide_eq_false (by omega)
  have RG : Hid (∀ X, Kept (fun k => k < w.heap.size) w X → Calls Tryz.prog 16 #[.slice a n c] X fun e w' => ∃ p r E M R G rk, e = .returned (.tuple #[.pointer (some ⟨p, 0, none⟩), .pointer (some ⟨r, 0, none⟩)]) ∧ Grown (fun k => k < X.heap.size) E w' p r M R G rk 300 ∧ Kept (fun k => k < X.heap.size) X w') := fun X hX => grown_any l n hln (by omega) a c hok (by omega) X (h.kept hX fun g hg => Nat.lt_of_lt_of_le hg hX.size)
  clear hln hok hb h hhv
  go_enter Tryz.func6, Tryz.ntmps6
  go_wp2_with fail
  refine rh.mono ?_
  rintro e w1 ⟨rfl, k1⟩
  have rk0 := known_any w1
  clear rh
  go_wp2_with fail
  refine rk0.mono ?_
  rintro e w2 ⟨rfl, k2⟩
  have k12 : Kept (fun k => k < w.heap.size) w w2 := k1.trans (k2.mono fun k h => Nat.lt_of_lt_of_le h k1.size)
  have rg := RG.out w2 k12
  have HK12 : Hid (Kept (fun k => k < w.heap.size) w w2) := k12
  clear rk0 k1 k2 k12 RG
  go_wp2_with fail
  refine rg.mono ?_
  rintro e W ⟨p, r, E, M, R, G, rk, rfl, hG, hK⟩
  have HG : Hid (Grown (fun k => k < w2.heap.size) E W p r M R G rk 300) := hG
  have HKW : Hid (Kept (fun k => k < w.heap.size) w W) := HK12.out.trans (hK.mono fun k h => Nat.lt_of_lt_of_le h HK12.out.size)
  obtain ⟨m, hm⟩ : ∃ m, M.n = m := ⟨_, rfl⟩
  have HM : Hid (M.n = m) := hm
  have hm300 : m ≤ 300 := by have h1 := hG.le; rw [hG.lim, hm] at h1; exact h1
  have hm1 : 1 ≤ m := by rw [← hm]; exact hG.inv.core.pos
  have HDX : Hid (DX (TK (fun k => k < w2.heap.size) E) W p M) := hG.two.d
  have rl : Calls Tryz.prog 17 #[.pointer (some ⟨p, 0, none⟩)] W fun e w' => e = .returned (.int .i64 (m : Int)) ∧ w' = W := by rw [← hm]; exact hG.len (Kept.refl _ _)
  have NODE : Hid (∀ i, i < m → ∀ X, Kept (fun k => k < W.heap.size) W X → Calls Tryz.prog 18 #[.pointer (some ⟨p, 0, none⟩), .int .i64 (i : Int)] X fun e w' => Told X (M.nd i) (M.pl i).up (R i) e w') := fun i hi X hX => hG.node (by decide) (by rw [hm]; exact hi) hX
  have ru := inside_any zu m hm1 (by omega) W
  have rk := inside_any zi m hm1 (by omega) W
  obtain ⟨u, hu⟩ : ∃ u, zu.toNat % m = u := ⟨_, rfl⟩
  obtain ⟨k, hk⟩ : ∃ k, zi.toNat % m = k := ⟨_, rfl⟩
  have hum : u < m := by rw [← hu]; exact Nat.mod_lt _ (by omega)
  have hkm : k < m := by rw [← hk]; exact Nat.mod_lt _ (by omega)
  rw [hu] at ru
  rw [hk] at rk
  have rn := NODE.out u hum W (Kept.refl _ _)
  clear rg hG hK hm hu hk
  go_upto_region 8 with (first | (go_at_call 17; with_reducible refine rl.mono ?_; rintro e1 w3 ⟨rfl, hw3⟩; replace hw3 := hw3.symm; subst hw3) | (go_at_call 29; with_reducible refine ru.mono ?_; rintro e1 w3 ⟨rfl, hw3⟩; replace hw3 := hw3.symm; subst hw3) | (go_at_call 29; with_reducible refine rk.mono ?_; rintro e1 w3 ⟨rfl, hw3⟩; replace hw3 := hw3.symm; subst hw3))
  clear rl ru rk
  go_wp2_with fail
  refine rn.mono ?_
  rintro e v1 ⟨ao1, ac1, ko1, kc1, rfl, -, hQ1, hKa⟩
  obtain ⟨N1, hN1⟩ : ∃ N, v1.heap.size = N := ⟨_, rfl⟩
  obtain ⟨V1, hV1⟩ : ∃ V, v1.alloc (.cells (outM (M.nd u) ao1 ac1 (M.pl u).up ko1 (R u).length kc1) 45) = V := ⟨_, rfl⟩
  obtain ⟨hB1, hKV1⟩ := BoxF.of hQ1 hKa V1 N1 hN1 hV1
  have rn2 := NODE.out k hkm V1 hKV1
  have HB1 : Hid (BoxF (fun k => W.heap.size ≤ k ∧ k < V1.heap.size) V1 N1 (M.nd u).kind (M.pl u).up (R u) ko1 kc1) := hB1
  have HV1 : Hid (v1.alloc (.cells (outM (M.nd u) ao1 ac1 (M.pl u).up ko1 (R u).length kc1) 45) = V1) := hV1
  have HN1 : Hid (v1.heap.size = N1) := hN1
  have HKV1 : Hid (Kept (fun k => k < W.heap.size) W V1) := hKV1
  clear rn hQ1 hKa hN1 hV1 hB1 hKV1
  go_upto_region 9 with fail
  rw [HV1.out, HN1.out]
  clear HV1 HN1
  go_wp2_with fail
  refine rn2.mono ?_
  rintro e v2 ⟨ao2, ac2, ko2, kc2, rfl, -, hQ2, hKb⟩
  obtain ⟨N2, hN2⟩ : ∃ N, v2.heap.size = N := ⟨_, rfl⟩
  obtain ⟨V2, hV2⟩ : ∃ V, v2.alloc (.cells (outM (M.nd k) ao2 ac2 (M.pl k).up ko2 (R k).length kc2) 45) = V := ⟨_, rfl⟩
  obtain ⟨hB2, hKV2⟩ := BoxF.of hQ2 hKb V2 N2 hN2 hV2
  have HV2 : Hid (v2.alloc (.cells (outM (M.nd k) ao2 ac2 (M.pl k).up ko2 (R k).length kc2) 45) = V2) := hV2
  have HN2 : Hid (v2.heap.size = N2) := hN2
  have HKW2 : Hid (Kept (fun k => k < W.heap.size) W V2) := HKV1.out.trans (hKV2.mono fun k h => Nat.lt_of_lt_of_le h HKV1.out.size)
  have HB : Hid (BoxF (fun k => W.heap.size ≤ k ∧ k < V2.heap.size) V2 N1 (M.nd u).kind (M.pl u).up (R u) ko1 kc1) := HB1.out.to (fun k h => ⟨h.1, Nat.lt_of_lt_of_le h.2 hKV2.size⟩) (fun k h => hKV2.block k h.2)
  have HX0 : Hid (∀ X, Kept (fun k => k < V2.heap.size) V2 X → X.cell? ⟨N2, 0, none⟩ = some (.int .u8 ((M.nd k).kind : Int))) := fun X hX => (hX.cell (p := ⟨N2, 0, none⟩) hB2.f.2).trans hB2.c0
  have HRN : Hid ((R u).length ≤ 300) := by
    have := HG.out.inv.hn (u := u) (by rw [HM.out]; exact hum)
    rw [HM.out] at this
    exact (show Hid _ from Nat.le_trans this hm300)
  clear rn2 hQ2 hKb hN2 hV2 hB2 hKV2
  go_upto_region 10 with fail
  rw [HV2.out, HN2.out]
  clear HV2 HN2 HB1 HKV1
  obtain ⟨Q, hQ⟩ : ∃ Q, R u = Q := ⟨_, rfl⟩
  obtain ⟨ql, hql⟩ : ∃ ql, Q.length = ql := ⟨_, rfl⟩
  have HQ : Hid (R u = Q) := hQ
  have HQLN : Hid (Q.length = ql) := hql
  have hql3 : ql ≤ 300 := by rw [← hql, ← hQ]; exact HRN.out
  have b5 := HB.out.c5
  rw [hQ, hql] at b5
  clear hQ hql HRN
  go_upto_region 11 with fail
  go_cut [74] (fun v wx => wx = V2 ∧ ((v = .bool true ∧ 0 < ql ∧ 0 ≤ zb) ∨ v = .bool false))
  case first =>
    by_cases c0 : ql = 0
    · subst c0
      go_wp2
      go_meet
      case rel => exact ⟨rfl, .inr rfl⟩
    · have d0 : decide ((ql : Int) > 0) = true := decide_eq_true (by omega)
      by_cases c1 : zb ≥ 0
      · have d1 : decide (zb ≥ 0) = true := decide_eq_true c1
        go_wp2
        go_meet
        case rel => exact ⟨rfl, .inl ⟨rfl, by omega, by omega⟩⟩
      · have d1 : decide (zb ≥ 0) = false := decide_eq_false c1
        go_wp2
        go_meet
        case rel => exact ⟨rfl, .inr rfl⟩
  case rest =>
  obtain ⟨hw74, h74⟩ := hcut
  rw [hw74]
  clear hw74
  go_upto_if 74 with fail
  go_cut [17] (fun v wx => Kept (fun k => k < V2.heap.size) V2 wx ∧ ∃ b : Int, v = .int .i64 b ∧ (b = -1 ∨ ∃ y : Nat, y ∈ Q ∧ b = (y : Int)))
  case first =>
    rcases h74 with ⟨rfl, c0, c1⟩ | rfl
    · obtain ⟨zn, rfl⟩ : ∃ zn : Nat, zb = (zn : Int) := ⟨zb.toNat, by omega⟩
      have hjl : zn % ql < ql := Nat.mod_lt _ (by omega)
      have hjQ : zn % ql < Q.length := by rw [HQLN.out]; exact hjl
      obtain ⟨g, rfl, hg, d⟩ := HB.out.kid (zn % ql) (by rw [HQ.out]; exact hjQ)
      have e1 : (R u)[zn % ql]'(by rw [HQ.out]; exact hjQ) = Q[zn % ql] := by simp only [HQ.out]
      rw [e1] at d
      have hmem : Q[zn % ql] ∈ Q := List.getElem_mem hjQ
      obtain ⟨y, hy⟩ : ∃ y, Q[zn % ql] = y := ⟨_, rfl⟩
      rw [hy] at d hmem
      have HMEM : Hid (y ∈ Q) := hmem
      clear e1 hy hmem
      go_upto_region 12 with fail
      go_quiet (fail)
      go_wp2
      go_meet
      case rel => exact ⟨(Kept.refl _ _).drewN _, (y : Int), rfl, .inr ⟨y, HMEM.out, rfl⟩⟩
    · go_wp2
      go_meet
      case rel => exact ⟨Kept.refl _ _, -1, rfl, .inl rfl⟩
  case rest =>
  obtain ⟨hKc, b, rfl, hbq⟩ := hcut
  obtain ⟨Wc, hWc⟩ : ∃ Wc, wc = Wc := ⟨_, rfl⟩
  rw [hWc] at hKc ⊢
  clear hWc b5 h74
  have hun : u < M.n := by rw [HM.out]; exact hum
  have hkn : k < M.n := by rw [HM.out]; exact hkm
  have hKWc : Kept (fun k => k < W.heap.size) W Wc := HKW2.out.trans (hKc.mono fun k h => Nat.lt_of_lt_of_le h HKW2.out.size)
  have hBc : BoxF (fun k => W.heap.size ≤ k ∧ k < Wc.heap.size) Wc N1 (M.nd u).kind (M.pl u).up (R u) ko1 kc1 := HB.out.to (fun k h => ⟨h.1, Nat.lt_of_lt_of_le h.2 hKc.size⟩) (fun k h => hKc.block k h.2)
  obtain ⟨K1, hK1⟩ : ∃ K1, (fun k => TK (fun k => k < w2.heap.size) E k ∨ (W.heap.size ≤ k ∧ k < Wc.heap.size)) = K1 := ⟨_, rfl⟩
  have K1F : ∀ k, W.heap.size ≤ k ∧ k < Wc.heap.size → K1 k := fun k h => by rw [← hK1]; exact .inr h
  have K1w : ∀ k, k < w.heap.size → K1 k := fun k h => by rw [← hK1]; exact .inl (.inl (Nat.lt_of_lt_of_le h HK12.out.size))
  have hDc : DX K1 Wc p M := by
    rw [← hK1]
    refine HDX.out.move (fun g hg _ => hKWc.block g hg) (fun k hl hh => ?_) (fun k hh => ?_)
    · rcases hh with hh | hh
      · exact hh
      · omega
    · rcases hh with hh | hh
      · exact Nat.lt_of_lt_of_le (HDX.out.lt k hh) hKWc.size
      · exact hh.2
  have hbn : b = -1 ∨ ∃ m : Nat, m < M.n ∧ b = (m : Int) := by
    rcases hbq with e | ⟨y, hy, e⟩
    · exact .inl e
    · exact .inr ⟨y, HG.out.inv.good.wf.lt u hun y (by rw [HQ.out]; exact hy), e⟩
  have ri := insert_in K1 p u k b M R rk Wc hDc HG.out.inv.good.wf HG.out.inv.good.acy hun hkn hbn (by rw [HM.out]; omega)
  have x0 := HX0.out Wc hKc
  have HWW : Hid (Kept (fun k => k < w.heap.size) w Wc) := HKW.out.trans (hKWc.mono fun k h => Nat.lt_of_lt_of_le h HKW.out.size)
  have HBC : Hid (BoxF (fun k => W.heap.size ≤ k ∧ k < Wc.heap.size) Wc N1 (M.nd u).kind (M.pl u).up (R u) ko1 kc1) := hBc
  have HKF : Hid (∀ k, W.heap.size ≤ k ∧ k < Wc.heap.size → K1 k) := K1F
  have HKw : Hid (∀ k, k < w.heap.size → K1 k) := K1w
  obtain ⟨kd, hkd⟩ : ∃ kd, (M.nd k).kind = kd := ⟨_, rfl⟩
  have HKD : Hid ((M.nd k).kind = kd) := hkd
  rw [hkd] at x0
  have HBN : Hid (b = -1 ∨ ∃ m : Nat, m < M.n ∧ b = (m : Int)) := hbn
  clear hKc hbq hKWc hBc hK1 K1F K1w hDc hbn hkd HX0 HB HKW2 HDX NODE
  by_cases c4 : kd = 4
  · subst c4
    clear ri
    go_wp2
    go_ret
    exact ⟨rfl, HWW.out⟩
  have e4 : ((kd : Int) == 4) = false := by
    have : ¬ (kd : Int) = 4 := by omega
    simpa using this
  by_cases cb : b = (k : Int)
  · subst cb
    have ek : ((k : Int) == (k : Int)) = true := by simp
    clear ri
    go_wp2
    go_ret
    exact ⟨rfl, HWW.out⟩
  have ek : (b == (k : Int)) = false := by simpa using cb
  have HCB : Hid (b ≠ (k : Int)) := cb
  clear cb
  go_wp2_with fail
  refine ri.mono ?_
  rintro e W3 ⟨hK3, ⟨rfl, -, hX3⟩ | ⟨rfl, hF, hX3⟩⟩
  · have HF : Hid (Kept (fun k => k < w.heap.size) w W3) := HWW.out.trans (hK3.mono HKw.out)
    clear ri hK3 hX3
    go_wp2
    go_ret
    exact ⟨rfl, HF.out⟩
  obtain ⟨rk1, hI1⟩ := HG.out.inv.ins hun hkn hF
  have hwant := ins_want HG.out.inv.good.wf hun hkn (by rw [HKD.out]; exact c4) HCB.out hF
  have hup1 : ((M.setP (putD M R u k b)).pl k).up = (u : Int) := ins_up (by rw [HKD.out]; exact c4) HCB.out
  obtain ⟨M1, hM1⟩ : ∃ M1, M.setP (putD M R u k b) = M1 := ⟨_, rfl⟩
  obtain ⟨R1, hR1⟩ : ∃ R1, putDR M R u k b = R1 := ⟨_, rfl⟩
  have hn1 : M1.n = m := by rw [← hM1]; exact HM.out
  rw [hM1] at hX3 hI1 hup1
  rw [hR1] at hI1 hwant
  rw [HQ.out] at hwant
  have HW3 : Hid (Kept (fun k => k < w.heap.size) w W3) := HWW.out.trans (hK3.mono HKw.out)
  have HI1 : Hid (Inv M1 R1 G rk1) := hI1
  have HX3 : Hid (DX K1 W3 p M1) := hX3
  have HN1 : Hid (M1.n = m) := hn1
  have HUP1 : Hid ((M1.pl k).up = (u : Int)) := hup1
  have HWANT : Hid (R1 u = if b < 0 then wantF Q k b ++ [k] else wantF Q k b) := hwant
  have hB3 : BoxF (fun k => W.heap.size ≤ k ∧ k < W3.heap.size) W3 N1 (M.nd u).kind (M.pl u).up (R u) ko1 kc1 := HBC.out.to (fun k h => ⟨h.1, Nat.lt_of_lt_of_le h.2 hK3.size⟩) (fun k h => hK3.block k (HKF.out k h))
  have HB3 : Hid (BoxF (fun k => W.heap.size ≤ k ∧ k < W3.heap.size) W3 N1 (M.nd u).kind (M.pl u).up (R u) ko1 kc1) := hB3
  clear ri hK3 hX3 hF hI1 hwant hup1 hn1 hM1 hR1 hB3 HBC HKF HWW x0 c4 e4 ek hun hkn
  go_upto_region 17 with fail
  go_loopg [18, 19] ql (fun gh v18 v19 wz => ∃ (j : Nat) (ao : Option Addr) (c : Nat) (q : List Nat), gh = ql - j ∧ j ≤ ql ∧ v19 = .int .i64 (j : Int) ∧ q = wantF (Q.take j) k b ∧ v18 = .slice ao q.length c ∧ OwnZ (fun k => k < W3.heap.size) wz 3 1 ao q.length c (ivs q) ∧ Kept (fun k => k < W3.heap.size) W3 wz)
  case atStart => exact ⟨0, none, 0, [], rfl, Nat.zero_le _, rfl, rfl, rfl, OwnZ.nil _ _ _ _, Kept.refl _ _⟩
  case round =>
    obtain ⟨j, ao, c, q, hgj, hj, rfl, hq, rfl, hO, hK⟩ := hrel
    have hB : BoxF (fun k => k < W3.heap.size) wr N1 (M.nd u).kind (M.pl u).up (R u) ko1 kc1 := HB3.out.to (fun k h => h.2) (fun k h => hK.block k h.2)
    have b5 := hB.c5
    rw [HQ.out, HQLN.out] at b5
    have hqlen : q.length ≤ 600 := by
      have h1 := wantF_len (Q.take j) k b
      rw [← hq, List.length_take] at h1
      omega
    by_cases hjl : j < ql
    · have hjQ : j < Q.length := by rw [HQLN.out]; exact hjl
      obtain ⟨g, rfl, hg, d⟩ := hB.kid j (by rw [HQ.out]; exact hjQ)
      have e1 : (R u)[j]'(by rw [HQ.out]; exact hjQ) = Q[j] := by simp only [HQ.out]
      rw [e1] at d
      obtain ⟨y, hy⟩ : ∃ y, Q[j] = y := ⟨_, rfl⟩
      have htk : Q.take (j + 1) = Q.take j ++ [y] := by rw [List.take_succ_eq_append_getElem hjQ, hy]
      rw [hy] at d
      have hnx : wantF (Q.take (j + 1)) k b = q ++ ((if (y : Int) = b then [k] else []) ++ (if y = k then [] else [y])) := by rw [htk, wantF_snoc, ← hq]
      have hN1 : N1 < W3.heap.size := hB.f
      have hlt : ∀ k, k < W3.heap.size → k < wr.heap.size := fun k h => Nat.lt_of_lt_of_le h hK.size
      by_cases cy : (y : Int) = b
      · have cyk : y ≠ k := fun e => HCB.out (by rw [← cy, e])
        have ey : ((y : Int) == b) = true := by rw [cy]; simp
        have eyk : ((y : Int) != (k : Int)) = true := by
          have : ¬ (y : Int) = (k : Int) := by omega
          simpa using this
        rw [if_pos cy, if_neg cyk] at hnx
        obtain ⟨ao1', c1', w1', hr1, hO1, hKx1⟩ := appI hO hlt (by omega) (k : Int)
        obtain ⟨ao2', c2', w2', hr2, hO2, hKx2⟩ := appI hO1 (fun k hk => Nat.lt_of_lt_of_le (hlt k hk) hKx1.size) (by omega) (y : Int)
        have b5' : w1'.cell? ⟨N1, 5, none⟩ = some (.slice (some ⟨g, 0, none⟩) ql kc1) := (hKx1.cell (p := ⟨N1, 5, none⟩) hN1).trans b5
        have d' : w1'.cell? ⟨g, j, none⟩ = some (.int .i64 (y : Int)) := (hKx1.cell (p := ⟨g, j, none⟩) hg).trans d
        have HO2 : Hid (OwnZ (fun k => k < W3.heap.size) w2' 3 1 ao2' (q ++ [k, y]).length c2' (ivs (q ++ [k, y]))) := by
          have e2 : q ++ [k, y] = (q ++ [k]) ++ [y] := by simp
          have : OwnZ (fun k => k < W3.heap.size) w2' 3 1 ao2' (q ++ [k, y]).length c2' (ivs (q ++ [k, y])) := by
            rw [e2, ivs, List.map_append, List.map_append, List.length_append, List.length_append]; exact hO2
          exact (show Hid _ from this)
        have HK2 : Hid (Kept (fun k => k < W3.heap.size) W3 w2') := (hK.trans hKx1).trans hKx2
        have HNX : Hid (q ++ [k, y] = wantF (Q.take (j + 1)) k b) := hnx.symm
        obtain ⟨ml, hml⟩ : ∃ ml, q.length = ml := ⟨_, rfl⟩
        have HML : Hid (q.length = ml) := hml
        rw [hml] at hr1 hr2 hqlen ⊢
        clear hB hO hK hq hy htk hnx e1 hO1 hO2 hKx1 hKx2 hml hlt cy cyk
        go_wp2_with (first | (at_builtin; refine wpList_appR (w' := w1') rfl (.tmp 114) (.tmp 116) 33 33 rfl _ _ (.slice ao1' (ml + 1) c1') rfl rfl hr1 ?_) | (at_builtin; refine wpList_appR (w' := w2') rfl (.tmp 125) (.tmp 131) 33 33 rfl _ _ (.slice ao2' (ml + 1 + 1) c2') rfl rfl hr2 ?_))
        go_roundg (ql - (j + 1))
        case rel => exact ⟨j + 1, ao2', c2', q ++ [k, y], rfl, by omega, by go_num, HNX.out, by rw [List.length_append, HML.out]; rfl, HO2.out, HK2.out⟩
        case measure => omega
      · have ey : ((y : Int) == b) = false := by simpa using cy
        by_cases cyk : y = k
        · subst cyk
          have eyk : ((y : Int) != (y : Int)) = false := by simp
          rw [if_neg cy, if_pos rfl, List.append_nil, List.append_nil] at hnx
          have HO2 : Hid (OwnZ (fun k => k < W3.heap.size) wr 3 1 ao q.length c (ivs q)) := hO
          have HK2 : Hid (Kept (fun k => k < W3.heap.size) W3 wr) := hK
          have HNX : Hid (q = wantF (Q.take (j + 1)) y b) := hnx.symm
          clear hB hO hK hq hy htk hnx e1 hlt cy
          go_wp2
          go_roundg (ql - (j + 1))
          case rel => exact ⟨j + 1, ao, c, q, rfl, by omega, by go_num, HNX.out, rfl, HO2.out, HK2.out⟩
          case measure => omega
        · have eyk : ((y : Int) != (k : Int)) = true := by
            have : ¬ (y : Int) = (k : Int) := by omega
            simpa using this
          rw [if_neg cy, if_neg cyk, List.nil_append] at hnx
          obtain ⟨ao2', c2', w2', hr2, hO2, hKx2⟩ := appI hO hlt (by omega) (y : Int)
          have HO2 : Hid (OwnZ (fun k => k < W3.heap.size) w2' 3 1 ao2' (q ++ [y]).length c2' (ivs (q ++ [y]))) := by
            have : OwnZ (fun k => k < W3.heap.size) w2' 3 1 ao2' (q ++ [y]).length c2' (ivs (q ++ [y])) := by
              rw [ivs, List.map_append, List.length_append]; exact hO2
            exact (show Hid _ from this)
          have HK2 : Hid (Kept (fun k => k < W3.heap.size) W3 w2') := hK.trans hKx2
          have HNX : Hid (q ++ [y] = wantF (Q.take (j + 1)) k b) := hnx.symm
          obtain ⟨ml, hml⟩ : ∃ ml, q.length = ml := ⟨_, rfl⟩
          have HML : Hid (q.length = ml) := hml
          rw [hml] at hr2 hqlen ⊢
          clear hB hO hK hq hy htk hnx e1 hO2 hKx2 hml hlt cy cyk
          go_wp2_with (at_builtin; refine wpList_appR (w' := w2') rfl (.tmp 125) (.tmp 131) 33 33 rfl _ _ (.slice ao2' (ml + 1) c2') rfl rfl hr2 ?_)
          go_roundg (ql - (j + 1))
          case rel => exact ⟨j + 1, ao2', c2', q ++ [y], rfl, by omega, by go_num, HNX.out, by rw [List.length_append, HML.out]; rfl, HO2.out, HK2.out⟩
          case measure => omega
    · have hjn : ql = j := by omega
      subst hjn
      rw [List.take_of_length_le (by rw [HQLN.out]; exact Nat.le_refl _)] at hq
      have HO2 : Hid (OwnZ (fun k => k < W3.heap.size) wr 3 1 ao q.length c (ivs q)) := hO
      have HK2 : Hid (Kept (fun k => k < W3.heap.size) W3 wr) := hK
      have HQQ : Hid (q = wantF Q k b) := hq
      clear hB hO hK hq
      go_upto_if 134 with fail
      go_cut [18] (fun v wx => ∃ (ao : Option Addr) (c : Nat), v = .slice ao (R1 u).length c ∧ OwnZ (fun k => k < W3.heap.size) wx 3 1 ao (R1 u).length c (ivs (R1 u)) ∧ Kept (fun k => k < W3.heap.size) W3 wx)
      case first =>
        by_cases hneg : b < 0
        · have e1 : decide (b < 0) = true := decide_eq_true hneg
          obtain ⟨ao2', c2', w2', hr2, hO2, hKx2⟩ := appI HO2.out (fun k h => Nat.lt_of_lt_of_le h HK2.out.size) (by omega) (k : Int)
          have hw : q ++ [k] = R1 u := by rw [HWANT.out, if_pos hneg, HQQ.out]
          have hO3 : OwnZ (fun k => k < W3.heap.size) w2' 3 1 ao2' (q ++ [k]).length c2' (ivs (q ++ [k])) := by
            rw [ivs, List.map_append, List.length_append]; exact hO2
          have hl : q.length + 1 = (R1 u).length := by rw [← hw, List.length_append]; rfl
          rw [hw] at hO3
          have HO3 : Hid (OwnZ (fun k => k < W3.heap.size) w2' 3 1 ao2' (R1 u).length c2' (ivs (R1 u))) := hO3
          have HK3 : Hid (Kept (fun k => k < W3.heap.size) W3 w2') := HK2.out.trans hKx2
          obtain ⟨ml, hml⟩ : ∃ ml, q.length = ml := ⟨_, rfl⟩
          rw [hml] at hr2 hqlen hl ⊢
          have HL : Hid (ml + 1 = (R1 u).length) := hl
          clear hO2 hKx2 hw hO3 hl hml b5
          go_wp2_with (at_builtin; refine wpList_appR (w' := w2') rfl (.tmp 135) (.tmp 137) 33 33 rfl _ _ (.slice ao2' (ml + 1) c2') rfl rfl hr2 ?_)
          go_meet
          case rel => exact ⟨ao2', c2', by rw [← HL.out], HO3.out, HK3.out⟩
        · have e1 : decide (b < 0) = false := decide_eq_false hneg
          have hw : q = R1 u := by rw [HWANT.out, if_neg hneg, HQQ.out]
          have HW : Hid (q = R1 u) := hw
          clear hw b5
          go_wp2
          go_meet
          case rel => exact ⟨ao, c, by rw [HW.out], by rw [← HW.out]; exact HO2.out, HK2.out⟩
      case rest =>
      obtain ⟨wa, wcp, rfl, hOw, hKw⟩ := hcut
      obtain ⟨W4, hW4⟩ : ∃ W4, wc = W4 := ⟨_, rfl⟩
      rw [hW4] at hOw hKw ⊢
      have hun : u < M1.n := by rw [HN1.out]; exact hum
      have hkn : k < M1.n := by rw [HN1.out]; exact hkm
      have NODE : Hid (∀ i, i < M1.n → ∀ X, Kept (fun k => k < W3.heap.size) W3 X → Calls Tryz.prog 18 #[.pointer (some ⟨p, 0, none⟩), .int .i64 (i : Int)] X fun e w' => Told X (M1.nd i) (M1.pl i).up (R1 i) e w') := fun i hi X hX => node_any K1 p i M1 R1 X (HX3.out.kept hX) HI1.out.good.wf hi (by rw [HN1.out]; omega) HI1.out.good.few
      have HOW : Hid (OwnZ (fun k => k < W3.heap.size) W4 3 1 wa (R1 u).length wcp (ivs (R1 u))) := hOw
      have HKw4 : Hid (Kept (fun k => k < W3.heap.size) W3 W4) := hKw
      have HRL : Hid ((R1 u).length ≤ 300) := by
        have := HI1.out.hn hun
        rw [HN1.out] at this
        exact (show Hid _ from Nat.le_trans this hm300)
      have rn := NODE.out u hun W4 hKw
      obtain ⟨rl, hrl⟩ : ∃ rl, (R1 u).length = rl := ⟨_, rfl⟩
      have HLR : Hid ((R1 u).length = rl) := hrl
      rw [hrl]
      clear hOw hKw hW4 HO2 HK2 HQQ b5 hrl
      go_upto_region 25 with fail
      go_wp2_with fail
      refine rn.mono ?_
      rintro e v5 ⟨ao5, ac5, ko5, kc5, rfl, -, hQ5, hKe⟩
      obtain ⟨N5, hN5⟩ : ∃ N, v5.heap.size = N := ⟨_, rfl⟩
      obtain ⟨V5, hV5⟩ : ∃ V, v5.alloc (.cells (outM (M1.nd u) ao5 ac5 (M1.pl u).up ko5 (R1 u).length kc5) 45) = V := ⟨_, rfl⟩
      obtain ⟨hB5, hKV5⟩ := BoxF.of hQ5 hKe V5 N5 hN5 hV5
      have HB5 : Hid (BoxF (fun k => W4.heap.size ≤ k ∧ k < V5.heap.size) V5 N5 (M1.nd u).kind (M1.pl u).up (R1 u) ko5 kc5) := hB5
      have HKV5 : Hid (Kept (fun k => k < W4.heap.size) W4 V5) := hKV5
      have HV5 : Hid (v5.alloc (.cells (outM (M1.nd u) ao5 ac5 (M1.pl u).up ko5 (R1 u).length kc5) 45) = V5) := hV5
      have HN5 : Hid (v5.heap.size = N5) := hN5
      have HK35 : Hid (Kept (fun k => k < W3.heap.size) W3 V5) := HKw4.out.trans (hKV5.mono fun k h => Nat.lt_of_lt_of_le h HKw4.out.size)
      have rn6 := NODE.out k hkn V5 HK35.out
      clear rn hQ5 hKe hN5 hV5 hB5 hKV5
      go_upto_region 26 with fail
      rw [HV5.out, HN5.out]
      clear HV5 HN5
      go_wp2_with fail
      refine rn6.mono ?_
      rintro e v6 ⟨ao6, ac6, ko6, kc6, rfl, -, hQ6, hKf⟩
      obtain ⟨N6, hN6⟩ : ∃ N, v6.heap.size = N := ⟨_, rfl⟩
      obtain ⟨V6, hV6⟩ : ∃ V, v6.alloc (.cells (outM (M1.nd k) ao6 ac6 (M1.pl k).up ko6 (R1 k).length kc6) 45) = V := ⟨_, rfl⟩
      obtain ⟨hB6, hKV6⟩ := BoxF.of hQ6 hKf V6 N6 hN6 hV6
      have HB6 : Hid (BoxF (fun k => V5.heap.size ≤ k ∧ k < V6.heap.size) V6 N6 (M1.nd k).kind (M1.pl k).up (R1 k) ko6 kc6) := hB6
      have HKV6 : Hid (Kept (fun k => k < V5.heap.size) V5 V6) := hKV6
      have HV6 : Hid (v6.alloc (.cells (outM (M1.nd k) ao6 ac6 (M1.pl k).up ko6 (R1 k).length kc6) 45) = V6) := hV6
      have HN6 : Hid (v6.heap.size = N6) := hN6
      have hK36 : Kept (fun k => k < W3.heap.size) W3 V6 := HK35.out.trans (hKV6.mono fun k h => Nat.lt_of_lt_of_le h HK35.out.size)
      have HK36 : Hid (Kept (fun k => k < W3.heap.size) W3 V6) := hK36
      obtain ⟨K2, hK2⟩ : ∃ K2, (fun x => K1 x ∨ (W3.heap.size ≤ x ∧ x < V6.heap.size)) = K2 := ⟨_, rfl⟩
      have hD6 : DX K2 V6 p M1 := by
        rw [← hK2]
        refine HX3.out.move (fun g hg _ => hK36.block g hg) (fun k hl hh => ?_) (fun k hh => ?_)
        · rcases hh with hh | hh
          · exact hh
          · omega
        · rcases hh with hh | hh
          · exact Nat.lt_of_lt_of_le (HX3.out.lt k hh) hK36.size
          · exact hh.2
      have HK2F : Hid (∀ x, W3.heap.size ≤ x ∧ x < V6.heap.size → K2 x) := fun x h => by rw [← hK2]; exact .inr h
      have HK2w : Hid (∀ x, x < w.heap.size → K2 x) := fun x h => by rw [← hK2]; exact .inl (HKw.out x h)
      have rr := remove_in K2 p k M1 R1 V6 hD6 HI1.out.good.wf hkn (by rw [HN1.out]; omega)
      clear rn6 hQ6 hKf hN6 hV6 hB6 hKV6 hK36 hD6 hK2
      go_upto_region 27 with fail
      rw [HV6.out, HN6.out]
      clear HV6 HN6
      go_wp2_with fail
      refine rr.mono ?_
      rintro e W7 ⟨hK7, ⟨hno, -, -⟩ | ⟨-, rfl, hX7⟩⟩
      · rw [HUP1.out] at hno
        omega
      have hI2 := HI1.out.out hkn
      have rn8 := node_any K2 p k _ _ W7 hX7 hI2.good.wf hkn (by show M1.n ≤ _; rw [HN1.out]; omega) hI2.good.few
      have HU2 : Hid (((M1.setP (outL M1.pl k)).pl k).up = -1) := out_up_self
      obtain ⟨M2, hM2⟩ : ∃ M2, M1.setP (outL M1.pl k) = M2 := ⟨_, rfl⟩
      obtain ⟨R2, hR2⟩ : ∃ R2, outR M1.pl R1 k = R2 := ⟨_, rfl⟩
      rw [hM2, hR2] at rn8
      rw [hM2] at HU2
      have HK7 : Hid (Kept K2 V6 W7) := hK7
      clear rr hK7 hX7 hI2 hM2 hR2
      go_upto_region 28 with fail
      go_wp2_with fail
      refine rn8.mono ?_
      rintro e v8 ⟨ao8, ac8, ko8, kc8, rfl, -, hQ8, hKg⟩
      obtain ⟨N8, hN8⟩ : ∃ N, v8.heap.size = N := ⟨_, rfl⟩
      obtain ⟨V8, hV8⟩ : ∃ V, v8.alloc (.cells (outM (M2.nd k) ao8 ac8 (M2.pl k).up ko8 (R2 k).length kc8) 45) = V := ⟨_, rfl⟩
      obtain ⟨hB8, hKV8⟩ := BoxF.of hQ8 hKg V8 N8 hN8 hV8
      have HV8 : Hid (v8.alloc (.cells (outM (M2.nd k) ao8 ac8 (M2.pl k).up ko8 (R2 k).length kc8) 45) = V8) := hV8
      have HN8 : Hid (v8.heap.size = N8) := hN8
      -- what was made since the putting in is as it was
      have s34 := HKw4.out.size
      have s45 := HKV5.out.size
      have s56 := HKV6.out.size
      have s67 := HK7.out.size
      have s78 := hKV8.size
      have st : ∀ x, W3.heap.size ≤ x → x < V6.heap.size → V8.heap[x]? = V6.heap[x]? := fun x h1 h2 => (hKV8.block x (Nat.lt_of_lt_of_le h2 s67)).trans (HK7.out.block x (HK2F.out x ⟨h1, h2⟩))
      have hB5' : BoxF (fun x => x < V8.heap.size) V8 N5 (M1.nd u).kind (M1.pl u).up (R1 u) ko5 kc5 := HB5.out.to (fun x h => by have := h.2; omega) (fun x h => (st x (by have := h.1; omega) (by have := h.2; omega)).trans (HKV6.out.block x h.2))
      have hB6' : BoxF (fun x => x < V8.heap.size) V8 N6 (M1.nd k).kind (M1.pl k).up (R1 k) ko6 kc6 := HB6.out.to (fun x h => by have := h.2; omega) (fun x h => st x (by have := h.1; omega) h.2)
      have hI : IntsAt (fun x => x < V8.heap.size) V8 wa (R1 u) := by
        have h1 : IntsAt (fun x => W3.heap.size ≤ x ∧ x < W4.heap.size) W4 wa (R1 u) := HOW.out.intsAt fun x hx => ⟨Nat.le_of_not_lt (OwnZ.out HOW.out hx).1, (OwnZ.out HOW.out hx).2⟩
        exact h1.to (fun x h => by have := h.2; omega) (fun x h => ((st x h.1 (by have := h.2; omega)).trans (HKV6.out.block x (by have := h.2; omega))).trans (HKV5.out.block x h.2))
      have rs := rsameInts_any (R1 u) (R1 u) ko5 wa rl rl kc5 wcp HLR.out HLR.out (by have := HRL.out; rw [HLR.out] at this; omega) (by have := HRL.out; rw [HLR.out] at this; omega) V8 hB5'.ints hI
      rw [decide_eq_true (show R1 u = R1 u from rfl)] at rs
      have b5 := hB5'.c5
      rw [HLR.out] at b5
      have y4 : ∀ X, Kept (fun k => k < V8.heap.size) V8 X → X.cell? ⟨N6, 4, none⟩ = some (.int .i64 (u : Int)) := fun X hX => (hX.cell (p := ⟨N6, 4, none⟩) hB6'.f).trans (by rw [← HUP1.out]; exact hB6'.c4)
      have z4 : ∀ X, Kept (fun k => k < V8.heap.size) V8 X → X.cell? ⟨N8, 4, none⟩ = some (.int .i64 (-1)) := fun X hX => (hX.cell (p := ⟨N8, 4, none⟩) hB8.f.2).trans (by rw [← HU2.out]; exact hB8.c4)
      have HY4 : Hid (∀ X, Kept (fun k => k < V8.heap.size) V8 X → X.cell? ⟨N6, 4, none⟩ = some (.int .i64 (u : Int))) := y4
      have HZ4 : Hid (∀ X, Kept (fun k => k < V8.heap.size) V8 X → X.cell? ⟨N8, 4, none⟩ = some (.int .i64 (-1))) := z4
      have hw6 : Kept (fun k => k < w.heap.size) w V6 := HW3.out.trans (HK36.out.mono fun k h => Nat.lt_of_lt_of_le h HW3.out.size)
      have hw7 : Kept (fun k => k < w.heap.size) w W7 := hw6.trans (HK7.out.mono HK2w.out)
      have HW8 : Hid (Kept (fun k => k < w.heap.size) w V8) := hw7.trans (hKV8.mono fun k h => Nat.lt_of_lt_of_le h hw7.size)
      clear rn8 hQ8 hKg hN8 hV8 hB8 hKV8 s34 s45 s56 s67 s78 st hB5' hB6' hI y4 z4 hw6 hw7
      go_upto_region 29 with fail
      rw [HV8.out, HN8.out]
      clear HV8 HN8
      go_wp2_with fail
      refine rs.mono ?_
      rintro e V9 ⟨rfl, hK9⟩
      have y4 := HY4.out V9 hK9
      have z4 := HZ4.out V9 hK9
      have HW9 : Hid (Kept (fun k => k < w.heap.size) w V9) := HW8.out.trans (hK9.mono fun k h => Nat.lt_of_lt_of_le h HW8.out.size)
      have eu : ((u : Int) == (u : Int)) = true := by simp
      clear rs hK9 b5
      go_wp2
      go_ret
      exact ⟨rfl, HW9.out⟩
set_option maxRecDepth 20000 in
theorem inserts_long (n : Nat) (hnn : 40 < n) (a : Option Addr) (c : Nat) (w : World) (zu zi zb : Int) :
    Calls Tryz.prog 6 #[.slice a n c, .int .i64 zu, .int .i64 zi, .int .i64 zb] w fun e w' => e = .returned (.bool true) ∧ Kept (fun k => k < w.heap.size) w w' := by
  have hg60 : decide ((n : Int) > 40) = true := decide_eq_true (by omega)
  have rk0 := known_any w
  go_enter Tryz.func6, Tryz.ntmps6
  go_wp2_with (go_at_call 10; refine rk0.mono ?_; rintro e w2 ⟨rfl, k2⟩)
  go_ret
  exact ⟨rfl, k2⟩
set_option maxRecDepth 20000 in
theorem inserts_heavy (l : List Opx) (n : Nat) (hln : l.length = n) (hnn : n ≤ 40) (a : Option Addr) (c : Nat) (hb : 5000 < opsH l) (hb2 : opsH l ≤ 2000000) (w : World) (zu zi zb : Int) (h : OpsAt (fun k => k < w.heap.size) w a l) :
    Calls Tryz.prog 6 #[.slice a n c, .int .i64 zu, .int .i64 zi, .int .i64 zb] w fun e w' => e = .returned (.bool true) ∧ Kept (fun k => k < w.heap.size) w w' := by
  have rh := heavy_any l n hln (by omega) a c hb2 w h
  have hg60 : decide ((n : Int) > 40) = false := decide_eq_false (by omega)
  obtain ⟨hv, hhv⟩ : ∃ hv, opsH l = hv := ⟨_, rfl⟩
  rw [hhv] at rh hb
  have hg6 : decide ((hv : Int) > 5000) = true := decide_eq_true (by omega)
  clear hhv h hln hb2
  go_enter Tryz.func6, Tryz.ntmps6
  go_wp2_with fail
  refine rh.mono ?_
  rintro e w1 ⟨rfl, k1⟩
  have rk0 := known_any w1
  clear rh
  go_wp2_with (go_at_call 10; refine rk0.mono ?_; rintro e w2 ⟨rfl, k2⟩)
  go_ret
  exact ⟨rfl, k1.trans (k2.mono fun k h => Nat.lt_of_lt_of_le h k1.size)⟩
end Go.Proofs.YthhoicmfmfeehaaGreat
