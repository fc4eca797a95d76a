/-
  The walk of OrderCounts.
-/
import Derived.Test.YtbhfnbplbkncmaaGreatVOCUtsXa
namespace Go.Proofs.YtbhfnbplbkncmaaGreat
open Go.RowKit Go.Sort
set_option linter.unusedVariables false
section
variable {K E : Nat → Prop} {w : World} {p r : Nat} {M : Dm} {R G : Nat → List Nat} {rk : Nat → Nat} {lim : Nat}
theorem Grown.tree (h : Grown K E w p r M R G rk lim) (hl : lim ≤ 100000) (i : Int) {X : World} (hk : Kept (fun k => k < w.heap.size) w X) : Calls Tryz.prog 27 #[.pointer (some ⟨p, 0, none⟩), .int .i64 i] X (Lst X (trI M.n R i)) :=
  tree_any _ p M R rk X (h.two.d.kept hk) h.inv.good (h.nle hl) i
theorem Grown.all (h : Grown K E w p r M R G rk lim) (hl : lim ≤ 100000) (i : Int) {X : World} (hk : Kept (fun k => k < w.heap.size) w X) : Calls Tryz.prog 28 #[.pointer (some ⟨p, 0, none⟩), .int .i64 i] X (Lst X (trI M.n (fwd M R) i)) :=
  all_any _ p M R G rk X (h.two.d.kept hk) h.inv (h.nle hl) i
end
set_option maxRecDepth 20000 in
set_option maxHeartbeats 8000000 in
theorem ocnt_go (l : List Opx) (n : Nat) (hln : l.length = n) (hnn : n ≤ 60) (a : Option Addr) (c : Nat) (hok : ∀ o ∈ l, OpOk o) (hb : opsH l ≤ 6000) (w : World) (h : OpsAt (fun k => k < w.heap.size) w a l) (za : Nat) (hza : za < 65536) :
    Calls Tryz.prog 4 #[.slice a n c, .int .u16 (za : Int)] w fun e w' => e = .returned (.bool true) ∧ Kept (fun k => k < w.heap.size) w w' := by
  have rh := heavy9_any l n hln hnn a c (by omega) w h
  rw [decide_eq_false (by omega : ¬ 6000 < opsH l)] at rh
  have RG : Hid (∀ X, Kept (fun k => k < w.heap.size) w X → Calls Tryz.prog 22 #[.slice a n c] X fun e w' => ∃ p r E M R G rk, e = .returned (.tuple #[.pointer (some ⟨p, 0, none⟩), .pointer (some ⟨r, 0, none⟩)]) ∧ Grown (fun k => k < X.heap.size) E w' p r M R G rk 300 ∧ Kept (fun k => k < X.heap.size) X w') := fun X hX => grown9 l n hln (by omega) a c hok (by omega) X (h.kept hX fun g hg => Nat.lt_of_lt_of_le hg hX.size)
  clear hln hok hb h
  go_enter Tryz.func4, Tryz.ntmps4
  go_wp2_with fail
  refine rh.mono ?_
  rintro e w1 ⟨rfl, k1⟩
  have rk0 := oknown_any w1
  clear rh
  go_wp2_with fail
  refine rk0.mono ?_
  rintro e w2 ⟨rfl, k2⟩
  have k12 : Kept (fun k => k < w.heap.size) w w2 := k1.trans (k2.mono fun k h => Nat.lt_of_lt_of_le h k1.size)
  have rg := RG.out w2 k12
  have HK12 : Hid (Kept (fun k => k < w.heap.size) w w2) := k12
  clear rk0 k1 k2 k12 RG
  go_wp2_with fail
  refine rg.mono ?_
  rintro e W ⟨p, r, E, M, R, G, rk, rfl, hG, hK⟩
  have HG : Hid (Grown (fun k => k < w2.heap.size) E W p r M R G rk 300) := hG
  have HKW : Hid (Kept (fun k => k < w.heap.size) w W) := HK12.out.trans (hK.mono fun k h => Nat.lt_of_lt_of_le h HK12.out.size)
  obtain ⟨m, hm⟩ : ∃ m, M.n = m := ⟨_, rfl⟩
  have HM : Hid (M.n = m) := hm
  have hm300 : m ≤ 300 := by have h1 := hG.le; rw [hG.lim, hm] at h1; exact h1
  have hm1 : 1 ≤ m := by rw [← hm]; exact hG.inv.core.pos
  have rl : Calls Tryz.prog 23 #[.pointer (some ⟨p, 0, none⟩)] W fun e w' => e = .returned (.int .i64 (m : Int)) ∧ w' = W := by rw [← hm]; exact hG.len (Kept.refl _ _)
  have NODE : Hid (∀ i, i < m → ∀ X, Kept (fun k => k < W.heap.size) W X → Calls Tryz.prog 24 #[.pointer (some ⟨p, 0, none⟩), .int .i64 (i : Int)] X fun e w' => Told X (M.nd i) (M.pl i).up (R i) e w') := fun i hi X hX => hG.node (by decide) (by rw [hm]; exact hi) hX
  obtain ⟨i, hi⟩ : ∃ i, za % m = i := ⟨_, rfl⟩
  have him : i < m := by rw [← hi]; exact Nat.mod_lt _ (by omega)
  have hi' : (za : Int).tmod (m : Int) = (i : Int) := by rw [← hi]; rfl
  have hin : i < M.n := by rw [hm]; exact him
  have rn := NODE.out i him W (Kept.refl _ _)
  have TREE : Hid (∀ (j : Nat), j < M.n → ∀ X, Kept (fun k => k < W.heap.size) W X → Calls Tryz.prog 27 #[.pointer (some ⟨p, 0, none⟩), .int .i64 (j : Int)] X fun e w' => ∃ ao c, e = .returned (.slice ao (tr M.n R j).length c) ∧ Kept (fun k => k < X.heap.size) X w') := fun j hj X hX => (hG.tree (by decide) (j : Int) hX).mono fun e w' ⟨ao, c, h1, _, h3⟩ => by rw [trI_in hj] at h1; exact ⟨ao, c, h1, h3⟩
  have ALL : Hid (∀ (j : Nat), j < M.n → ∀ X, Kept (fun k => k < W.heap.size) W X → Calls Tryz.prog 28 #[.pointer (some ⟨p, 0, none⟩), .int .i64 (j : Int)] X fun e w' => ∃ ao c, e = .returned (.slice ao (tr M.n (fwd M R) j).length c) ∧ Kept (fun k => k < X.heap.size) X w') := fun j hj X hX => (hG.all (by decide) (j : Int) hX).mono fun e w' ⟨ao, c, h1, _, h3⟩ => by rw [trI_in hj] at h1; exact ⟨ao, c, h1, h3⟩
  have HT : Hid ((tr M.n R i).length = 1 + ((R i).flatMap (tr M.n R)).length ∧ (tr M.n R i).length ≤ 300) := ⟨by rw [tr_eq hG.inv.good.falls hin, List.length_cons]; omega, by have := tr_len hG.inv.good.only hin; omega⟩
  have HA : Hid ((tr M.n (fwd M R) i).length = 1 + ((fwd M R i).flatMap (tr M.n (fwd M R))).length ∧ (tr M.n (fwd M R) i).length ≤ 300) := ⟨by rw [tr_eq hG.inv.falls hin, List.length_cons]; omega, by have := tr_len hG.inv.only hin; omega⟩
  have HKID : Hid (∀ k ∈ R i, k < M.n) := fun k hk => (hG.inv.good.kid hin hk).1
  have HSH : Hid ((M.nd i).shadow = -1 ∨ ∃ s : Nat, s < M.n ∧ (M.nd i).shadow = (s : Int)) := hG.inv.sh hin
  have HIN : Hid (i < M.n) := hin
  have HQL : Hid ((R i).length ≤ 300) := by have := hG.inv.hn hin; rw [hm] at this; exact (show Hid _ from Nat.le_trans this hm300)
  clear rg hG hK hm hi NODE hin
  go_upto_region 7 with (go_at_call 23; refine rl.mono ?_; rintro e1 w3 ⟨rfl, hw3⟩; replace hw3 := hw3.symm; subst hw3)
  clear rl
  go_wp2_with fail
  refine rn.mono ?_
  rintro e v1 ⟨ao1, ac1, ko1, kc1, rfl, -, hQ1, hKa⟩
  obtain ⟨N1, hN1⟩ : ∃ N, v1.heap.size = N := ⟨_, rfl⟩
  obtain ⟨V1, hV1⟩ : ∃ V, v1.alloc (.cells (outN (M.nd i) ao1 ac1 (M.pl i).up ko1 (R i).length kc1) 36) = V := ⟨_, rfl⟩
  have hB1 := Box.of hQ1 hKa V1 N1 hN1 hV1
  have HV1 : Hid (v1.alloc (.cells (outN (M.nd i) ao1 ac1 (M.pl i).up ko1 (R i).length kc1) 36) = V1) := hV1
  have HN1 : Hid (v1.heap.size = N1) := hN1
  have HB1 : Hid (Box W V1 N1 (M.nd i) (M.pl i).up (R i) ko1 kc1) := hB1
  have HKw : Hid (Kept (fun k => k < w.heap.size) w V1) := HKW.out.trans (hB1.kept.mono fun k h => Nat.lt_of_lt_of_le h HKW.out.size)
  clear rn hQ1 hKa hN1 hV1 hB1
  obtain ⟨Q, hQ⟩ : ∃ Q, R i = Q := ⟨_, rfl⟩
  have HQ : Hid (R i = Q) := hQ
  obtain ⟨ql, hql⟩ : ∃ ql, Q.length = ql := ⟨_, rfl⟩
  have HQLN : Hid (Q.length = ql) := hql
  have hq3 : ql ≤ 300 := by rw [← hql, ← hQ]; exact HQL.out
  clear hQ hql
  go_upto_region 11 with fail
  rw [HV1.out, HN1.out]
  clear HV1 HN1
  go_loopg [10, 11, 12] ql (fun gh v10 v11 v12 wr => ∃ k : Nat, gh = ql - k ∧ k ≤ ql ∧ v12 = .int .i64 (k : Int) ∧ v10 = .int .i64 ((1 + ((Q.take k).flatMap (tr M.n R)).length : Nat) : Int) ∧ v11 = .int .i64 ((1 + ((Q.take k).flatMap (tr M.n (fwd M R))).length : Nat) : Int) ∧ Kept (fun k => k < V1.heap.size) V1 wr)
  case atStart => exact ⟨0, rfl, Nat.zero_le _, rfl, rfl, rfl, Kept.refl _ _⟩
  case round =>
    obtain ⟨k, hgk, hk, rfl, rfl, rfl, hK2⟩ := hrel
    have hBw := HB1.out.later hK2
    have b5 := hBw.c5
    rw [HQ.out, HQLN.out] at b5
    have HK2 : Hid (Kept (fun k => k < V1.heap.size) V1 wr) := hK2
    by_cases hlt : k < ql
    · have hkQ : k < Q.length := by rw [HQLN.out]; exact hlt
      obtain ⟨g, rfl, hg, d⟩ := hBw.kid k (by rw [HQ.out]; exact hkQ)
      have e1 : (R i)[k]'(by rw [HQ.out]; exact hkQ) = Q[k] := by simp only [HQ.out]
      rw [e1] at d
      have s1 := fm_succ (tr M.n R) Q k hkQ
      have s2 := fm_succ (tr M.n (fwd M R)) Q k hkQ
      have p1 := fm_split (tr M.n R) Q k hkQ
      have p2 := fm_split (tr M.n (fwd M R)) Q k hkQ
      have hmem : Q[k] ∈ R i := by rw [HQ.out]; exact List.getElem_mem hkQ
      obtain ⟨y, hy⟩ : ∃ y, Q[k] = y := ⟨_, rfl⟩
      rw [hy] at d s1 s2 p1 p2 hmem
      have hyn := HKID.out y hmem
      have kW : Kept (fun k => k < W.heap.size) W wr := HB1.out.kept.trans (hK2.mono fun k h => Nat.lt_of_lt_of_le h HB1.out.kept.size)
      have rt := TREE.out y hyn wr kW
      have HALLY : Hid (∀ X, Kept (fun k => k < wr.heap.size) wr X → Calls Tryz.prog 28 #[.pointer (some ⟨p, 0, none⟩), .int .i64 (y : Int)] X fun e w' => ∃ ao c, e = .returned (.slice ao (tr M.n (fwd M R) y).length c) ∧ Kept (fun k => k < X.heap.size) X w') := fun X hX => ALL.out y hyn X (kW.trans (hX.mono fun k h => Nat.lt_of_lt_of_le h kW.size))
      have n1 : 1 + ((Q.take k).flatMap (tr M.n R)).length + (tr M.n R y).length ≤ 300 := by
        have h1 := HT.out.1
        have h2 := HT.out.2
        rw [HQ.out, p1] at h1
        simp only [List.length_append] at h1
        omega
      have n2 : 1 + ((Q.take k).flatMap (tr M.n (fwd M R))).length + (tr M.n (fwd M R) y).length ≤ 300 := by
        have h1 := HA.out.1
        have h2 := HA.out.2
        have h3 : (Q.flatMap (tr M.n (fwd M R))).length ≤ ((fwd M R i).flatMap (tr M.n (fwd M R))).length := by
          unfold fwd
          rw [HQ.out]
          split
          · exact Nat.le_refl _
          · rw [List.flatMap_cons, List.length_append]; omega
        rw [p2] at h3
        simp only [List.length_append] at h3
        omega
      have S1 : Hid (((Q.take (k + 1)).flatMap (tr M.n R)).length = ((Q.take k).flatMap (tr M.n R)).length + (tr M.n R y).length) := (by rw [s1, List.length_append] : _ = _)
      have S2 : Hid (((Q.take (k + 1)).flatMap (tr M.n (fwd M R))).length = ((Q.take k).flatMap (tr M.n (fwd M R))).length + (tr M.n (fwd M R) y).length) := (by rw [s2, List.length_append] : _ = _)
      obtain ⟨x1, hx1⟩ : ∃ x, ((Q.take k).flatMap (tr M.n R)).length = x := ⟨_, rfl⟩
      obtain ⟨x2, hx2⟩ : ∃ x, ((Q.take k).flatMap (tr M.n (fwd M R))).length = x := ⟨_, rfl⟩
      obtain ⟨y1, hy1⟩ : ∃ x, (tr M.n R y).length = x := ⟨_, rfl⟩
      obtain ⟨y2, hy2⟩ : ∃ x, (tr M.n (fwd M R) y).length = x := ⟨_, rfl⟩
      rw [hx1, hy1] at n1 S1
      rw [hx2, hy2] at n2 S2
      rw [hy1] at rt
      rw [hy2] at HALLY
      rw [hx1, hx2]
      have HBw : Hid (Box W wr N1 (M.nd i) (M.pl i).up (R i) (some ⟨g, 0, none⟩) kc1) := hBw
      have HGL : Hid (g < wr.heap.size) := hg
      clear hx1 hx2 hy1 hy2 s1 s2 p1 p2 e1 hmem hy hK2 kW hBw
      go_wp2_with fail
      refine rt.mono ?_
      rintro e u1 ⟨ao2, c2, rfl, hk3⟩
      have b5' : u1.cell? ⟨N1, 5, none⟩ = some (.slice (some ⟨g, 0, none⟩) ql kc1) := by
        have := (HBw.out.later hk3).c5
        rw [HQ.out, HQLN.out] at this
        exact this
      have d' : u1.cell? ⟨g, k, none⟩ = some (.int .i64 (y : Int)) := (hk3.cell (p := ⟨g, k, none⟩) HGL.out).trans d
      have ra := HALLY.out u1 hk3
      have HK3 : Hid (Kept (fun k => k < V1.heap.size) V1 u1) := HK2.out.trans (hk3.mono fun k h => Nat.lt_of_lt_of_le h HK2.out.size)
      clear rt hk3 b5 d
      go_wp2_with fail
      refine ra.mono ?_
      rintro e u2 ⟨ao3, c3, rfl, hk4⟩
      have HK4 : Hid (Kept (fun k => k < V1.heap.size) V1 u2) := HK3.out.trans (hk4.mono fun k h => Nat.lt_of_lt_of_le h HK3.out.size)
      clear ra hk4 b5' d'
      go_wp2
      go_roundg (ql - (k + 1))
      case rel => exact ⟨k + 1, rfl, by omega, by go_num, by rw [S1.out]; go_num, by rw [S2.out]; go_num, HK4.out⟩
      case measure => omega
    · have hkn : ql = k := by omega
      subst hkn
      have hall : Q.take ql = Q := List.take_of_length_le (by rw [HQLN.out]; exact Nat.le_refl _)
      rw [hall]
      have b6 := hBw.c6
      have kW : Kept (fun k => k < W.heap.size) W wr := HB1.out.kept.trans (hK2.mono fun k h => Nat.lt_of_lt_of_le h HB1.out.kept.size)
      have HKWR : Hid (Kept (fun k => k < W.heap.size) W wr) := kW
      have HKwr : Hid (Kept (fun k => k < w.heap.size) w wr) := HKw.out.trans (hK2.mono fun k h => Nat.lt_of_lt_of_le h HKw.out.size)
      have h1 := HT.out.1
      have h2 := HT.out.2
      have h3 := HA.out.1
      have h4 := HA.out.2
      rw [HQ.out] at h1
      obtain ⟨x1, hx1⟩ : ∃ x, (Q.flatMap (tr M.n R)).length = x := ⟨_, rfl⟩
      obtain ⟨x2, hx2⟩ : ∃ x, (Q.flatMap (tr M.n (fwd M R))).length = x := ⟨_, rfl⟩
      obtain ⟨t1, ht1⟩ : ∃ x, (tr M.n R i).length = x := ⟨_, rfl⟩
      obtain ⟨t2, ht2⟩ : ∃ x, (tr M.n (fwd M R) i).length = x := ⟨_, rfl⟩
      rw [hx1, ht1] at h1
      rw [ht1] at h2
      rw [ht2] at h3 h4
      rw [hx1, hx2]
      have TI : Hid (∀ X, Kept (fun k => k < wr.heap.size) wr X → Calls Tryz.prog 27 #[.pointer (some ⟨p, 0, none⟩), .int .i64 (i : Int)] X fun e w' => ∃ ao c, e = .returned (.slice ao t1 c) ∧ Kept (fun k => k < X.heap.size) X w') := fun X hX => by rw [← ht1]; exact TREE.out i HIN.out X (kW.trans (hX.mono fun k h => Nat.lt_of_lt_of_le h kW.size))
      have AI : Hid (∀ X, Kept (fun k => k < wr.heap.size) wr X → Calls Tryz.prog 28 #[.pointer (some ⟨p, 0, none⟩), .int .i64 (i : Int)] X fun e w' => ∃ ao c, e = .returned (.slice ao t2 c) ∧ Kept (fun k => k < X.heap.size) X w') := fun X hX => by rw [← ht2]; exact ALL.out i HIN.out X (kW.trans (hX.mono fun k h => Nat.lt_of_lt_of_le h kW.size))
      unfold fwd at h3
      rw [HQ.out] at h3
      rcases HSH.out with hs | ⟨s, hsn, hs⟩
      · rw [if_pos hs] at h3
        have h3' : t2 = 1 + x2 := by rw [← hx2]; exact h3
        rw [hs] at b6
        subst h3'
        subst h1
        have e6 : decide ((-1 : Int) ≥ 0) = false := by decide
        have r1 := TI.out wr (Kept.refl _ _)
        clear h3 hx1 hx2 ht1 ht2 hs hBw hK2 hall kW
        go_wp2_with fail
        refine r1.mono ?_
        rintro e u1 ⟨ao2, c2, rfl, hk3⟩
        have r2 := AI.out u1 hk3
        have HK3 : Hid (Kept (fun k => k < w.heap.size) w u1) := HKwr.out.trans (hk3.mono fun k h => Nat.lt_of_lt_of_le h HKwr.out.size)
        clear r1 hk3
        go_wp2_with (go_at_call 28; refine r2.mono ?_; rintro e u2 ⟨ao3, c3, rfl, hk4⟩)
        go_ret
        exact ⟨by simp, HK3.out.trans (hk4.mono fun k h => Nat.lt_of_lt_of_le h HK3.out.size)⟩
      · rw [hs, if_neg (by omega), Int.toNat_natCast, List.flatMap_cons, List.length_append] at h3
        have rs := ALL.out s hsn wr kW
        obtain ⟨sl, hsl⟩ : ∃ x, (tr M.n (fwd M R) s).length = x := ⟨_, rfl⟩
        rw [hsl] at rs
        have h3' : t2 = 1 + (sl + x2) := by rw [← hx2, ← hsl]; exact h3
        rw [hs] at b6
        subst h3'
        subst h1
        have e6 : decide ((s : Int) ≥ 0) = true := decide_eq_true (by omega)
        clear h3 hx1 hx2 ht1 ht2 hs hBw hK2 hall kW hsl
        go_wp2_with fail
        refine rs.mono ?_
        rintro e u0 ⟨ao1', c1', rfl, hk2⟩
        have r1 := TI.out u0 hk2
        have HK0' : Hid (Kept (fun k => k < wr.heap.size) wr u0) := hk2
        clear rs hk2
        go_wp2_with fail
        refine r1.mono ?_
        rintro e u1 ⟨ao2, c2, rfl, hk3⟩
        have k13 : Kept (fun k => k < wr.heap.size) wr u1 := HK0'.out.trans (hk3.mono fun k h => Nat.lt_of_lt_of_le h HK0'.out.size)
        have r2 := AI.out u1 k13
        have HK3 : Hid (Kept (fun k => k < w.heap.size) w u1) := HKwr.out.trans (k13.mono fun k h => Nat.lt_of_lt_of_le h HKwr.out.size)
        clear r1 hk3 k13
        have e9 : (((1 + (sl + x2) : Nat) : Int) == ((1 + x2 : Nat) : Int) + (sl : Int)) = true := by simp; omega
        go_wp2_with (go_at_call 28; refine r2.mono ?_; rintro e u2 ⟨ao3, c3, rfl, hk4⟩)
        go_ret
        exact ⟨by simp; omega, HK3.out.trans (hk4.mono fun k h => Nat.lt_of_lt_of_le h HK3.out.size)⟩
set_option maxRecDepth 20000 in
theorem ocnt_no (a : Option Addr) (n c : Nat) (w : World) (za : Int) (rh : Calls Tryz.prog 20 #[.slice a n c] w fun e w' => e = .returned (.bool true) ∧ Kept (fun k => k < w.heap.size) w w') :
    Calls Tryz.prog 4 #[.slice a n c, .int .u16 za] w fun e w' => e = .returned (.bool true) ∧ Kept (fun k => k < w.heap.size) w w' := by
  go_enter Tryz.func4, Tryz.ntmps4
  go_wp2_with fail
  refine rh.mono ?_
  rintro e w1 ⟨rfl, k1⟩
  have rk0 := oknown_any w1
  clear rh
  go_wp2_with (go_at_call 21; refine rk0.mono ?_; rintro e w2 ⟨rfl, k2⟩)
  go_ret
  exact ⟨rfl, k1.trans (k2.mono fun k h => Nat.lt_of_lt_of_le h k1.size)⟩
end Go.Proofs.YtbhfnbplbkncmaaGreat
