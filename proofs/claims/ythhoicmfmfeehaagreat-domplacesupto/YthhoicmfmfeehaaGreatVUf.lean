/-
  The walk of DomPlaces.
-/
import Derived.Test.YthhoicmfmfeehaaGreatZ44
import Derived.Test.YthhoicmfmfeehaaGreatZ36
namespace Go.Proofs.YthhoicmfmfeehaaGreat
open Go.RowKit Go.Sort
set_option linter.unusedVariables false
/-- What is in a node's box, in memory. -/
abbrev outN (x : Nd) (ao : Option Addr) (ac : Nat) (up : Int) (ko : Option Addr) (kn kc : Nat) : Array Value := outC x.kind ⟨x.name.toArray⟩ ⟨x.data.toArray⟩ ao x.attrs.length ac up ko kn kc x.shadow x.host x.content x.fl
theorem count_take_succ (l : List Nat) (i j : Nat) (hj : j < l.length) : (l.take (j + 1)).count i = (l.take j).count i + if l[j] = i then 1 else 0 := by
  rw [List.take_succ_eq_append_getElem hj, List.count_append, List.count_singleton]
  simp [beq_iff_eq]
set_option maxRecDepth 20000 in
set_option maxHeartbeats 8000000 in
theorem places_go (l : List Opx) (n : Nat) (hln : l.length = n) (hnn : n ≤ 60) (a : Option Addr) (c : Nat) (hok : ∀ o ∈ l, OpOk o) (hb : opsH l ≤ 6000) (w : World) (h : OpsAt (fun k => k < w.heap.size) w a l) :
    Calls Tryz.prog 4 #[.slice a n c] w fun e w' => e = .returned (.bool true) ∧ Kept (fun k => k < w.heap.size) w w' := by
  have rh := heavy_any l n hln (by omega) a c (by omega) w h
  have hg60 : decide ((n : Int) > 60) = false := decide_eq_false (by omega)
  obtain ⟨hv, hhv⟩ : ∃ hv, opsH l = hv := ⟨_, rfl⟩
  rw [hhv] at rh
  have hg6 : decide ((hv : Int) > 6000) = false := decide_eq_false (by omega)
  have RG : Hid (∀ X, Kept (fun k => k < w.heap.size) w X → Calls Tryz.prog 16 #[.slice a n c] X fun e w' => ∃ p r E M R G rk, e = .returned (.tuple #[.pointer (some ⟨p, 0, none⟩), .pointer (some ⟨r, 0, none⟩)]) ∧ Grown (fun k => k < X.heap.size) E w' p r M R G rk 300 ∧ Kept (fun k => k < X.heap.size) X w') := fun X hX => grown_any l n hln (by omega) a c hok (by omega) X (h.kept hX fun g hg => Nat.lt_of_lt_of_le hg hX.size)
  clear hln hok hb h hhv
  go_enter Tryz.func4, Tryz.ntmps4
  go_wp2_with fail
  refine rh.mono ?_
  rintro e w1 ⟨rfl, k1⟩
  have rk0 := known_any w1
  clear rh
  go_wp2_with fail
  refine rk0.mono ?_
  rintro e w2 ⟨rfl, k2⟩
  have k12 : Kept (fun k => k < w.heap.size) w w2 := k1.trans (k2.mono fun k h => Nat.lt_of_lt_of_le h k1.size)
  have rg := RG.out w2 k12
  have HK12 : Hid (Kept (fun k => k < w.heap.size) w w2) := k12
  clear rk0 k1 k2 k12 RG
  go_wp2_with fail
  refine rg.mono ?_
  rintro e W ⟨p, r, E, M, R, G, rk, rfl, hG, hK⟩
  have HG : Hid (Grown (fun k => k < w2.heap.size) E W p r M R G rk 300) := hG
  have HKW : Hid (Kept (fun k => k < w.heap.size) w W) := HK12.out.trans (hK.mono fun k h => Nat.lt_of_lt_of_le h HK12.out.size)
  obtain ⟨m, hm⟩ : ∃ m, M.n = m := ⟨_, rfl⟩
  have HM : Hid (M.n = m) := hm
  have hm300 : m ≤ 300 := by have h1 := hG.le; rw [hG.lim, hm] at h1; exact h1
  have LEN : Hid (∀ X, Kept (fun k => k < W.heap.size) W X → Calls Tryz.prog 17 #[.pointer (some ⟨p, 0, none⟩)] X fun e w' => e = .returned (.int .i64 (m : Int)) ∧ w' = X) := fun X hX => by rw [← hm]; exact hG.len hX
  have NODE : Hid (∀ i, i < m → ∀ X, Kept (fun k => k < W.heap.size) W X → Calls Tryz.prog 18 #[.pointer (some ⟨p, 0, none⟩), .int .i64 (i : Int)] X fun e w' => Told X (M.nd i) (M.pl i).up (R i) e w') := fun i hi X hX => hG.node (by decide) (by rw [hm]; exact hi) hX
  clear rg hG hK hm HK12
  go_upto_region 7 with fail
  go_loopg [5] m (fun gh v wr => ∃ i : Nat, gh = m - i ∧ i ≤ m ∧ v = .int .i64 (i : Int) ∧ Kept (fun k => k < W.heap.size) W wr)
  case atStart => exact ⟨0, rfl, Nat.zero_le _, rfl, Kept.refl _ _⟩
  case round =>
    obtain ⟨i, hgi, hi, rfl, hK1⟩ := hrel
    have HK1 : Hid (Kept (fun k => k < W.heap.size) W wr) := hK1
    have rl := LEN.out wr hK1
    by_cases hlt : i < m
    · have rn := NODE.out i hlt wr hK1
      clear hK1
      obtain ⟨W5, rfl⟩ : ∃ W5, W5 = wr := ⟨_, rfl⟩
      go_wp2_with (go_at_call 17; refine rl.mono ?_; rintro e1 w3 ⟨rfl, hw3⟩; replace hw3 := hw3.symm; subst hw3)
      refine rn.mono ?_
      rintro e v1 ⟨ao1, ac1, ko1, kc1, rfl, -, hQ1, hKa⟩
      obtain ⟨N1, hN1⟩ : ∃ N, v1.heap.size = N := ⟨_, rfl⟩
      obtain ⟨V1, hV1⟩ : ∃ V, v1.alloc (.cells (outN (M.nd i) ao1 ac1 (M.pl i).up ko1 (R i).length kc1) 45) = V := ⟨_, rfl⟩
      have hB1 := Box.of hQ1 hKa V1 N1 hN1 hV1
      have HB1 : Hid (Box W5 V1 N1 (M.nd i) (M.pl i).up (R i) ko1 kc1) := hB1
      have HV1 : Hid (v1.alloc (.cells (outN (M.nd i) ao1 ac1 (M.pl i).up ko1 (R i).length kc1) 45) = V1) := hV1
      have HN1 : Hid (v1.heap.size = N1) := hN1
      have HKV1 : Hid (Kept (fun k => k < W.heap.size) W V1) := HK1.out.trans (hB1.kept.mono fun k h => Nat.lt_of_lt_of_le h HK1.out.size)
      clear rn hQ1 hKa hN1 hV1 hB1 rl
      go_upto_region 12 with fail
      rw [HV1.out, HN1.out]
      clear HV1 HN1
      go_loopg [8, 9] m (fun gh v8 v9 wy => ∃ k : Nat, gh = m - k ∧ k ≤ m ∧ v9 = .int .i64 (k : Int) ∧ v8 = .int .i64 (cntR R i k : Int) ∧ Kept (fun k => k < V1.heap.size) V1 wy)
      case atStart => exact ⟨0, rfl, Nat.zero_le _, rfl, rfl, Kept.refl _ _⟩
      case round =>
        obtain ⟨k, hgk, hk, rfl, rfl, hK2⟩ := hrel
        have HK2 : Hid (Kept (fun k => k < V1.heap.size) V1 wr) := hK2
        have hWr : Kept (fun k => k < W.heap.size) W wr := HKV1.out.trans (hK2.mono fun k h => Nat.lt_of_lt_of_le h HKV1.out.size)
        have rl := LEN.out wr hWr
        by_cases hlk : k < m
        · have rn := NODE.out k hlk wr hWr
          have hcb : cntR R i k ≤ 1 := by
            rw [cntR_le HG.out.inv.good.wf (by rw [HM.out]; exact hlt) k (by rw [HM.out]; omega)]
            split <;> omega
          have hcs : cntR R i (k + 1) = cntR R i k + (R k).count i := rfl
          have hcb1 : cntR R i (k + 1) ≤ 1 := by
            rw [cntR_le HG.out.inv.good.wf (by rw [HM.out]; exact hlt) (k + 1) (by rw [HM.out]; omega)]
            split <;> omega
          obtain ⟨cc, hcc⟩ : ∃ cc, cntR R i k = cc := ⟨_, rfl⟩
          rw [hcc] at hcb hcs ⊢
          have HCC : Hid (cntR R i (k + 1) = cc + (R k).count i) := hcs
          have hcq : cc + (R k).count i ≤ 1 := by rw [← hcs]; exact hcb1
          have HCQ : Hid (cc + (R k).count i ≤ 1) := hcq
          clear hK2 hcc hcs hcb1 hcq
          obtain ⟨W6, rfl⟩ : ∃ W6, W6 = wr := ⟨_, rfl⟩
          go_wp2_with (go_at_call 17; refine rl.mono ?_; rintro e1 w3 ⟨rfl, hw3⟩; replace hw3 := hw3.symm; subst hw3)
          refine rn.mono ?_
          rintro e v2 ⟨ao2, ac2, ko2, kc2, rfl, -, hQ2, hKb⟩
          obtain ⟨N2, hN2⟩ : ∃ N, v2.heap.size = N := ⟨_, rfl⟩
          obtain ⟨V2, hV2⟩ : ∃ V, v2.alloc (.cells (outN (M.nd k) ao2 ac2 (M.pl k).up ko2 (R k).length kc2) 45) = V := ⟨_, rfl⟩
          have hB2 := Box.of hQ2 hKb V2 N2 hN2 hV2
          have HB2 : Hid (Box W6 V2 N2 (M.nd k) (M.pl k).up (R k) ko2 kc2) := hB2
          have HV2 : Hid (v2.alloc (.cells (outN (M.nd k) ao2 ac2 (M.pl k).up ko2 (R k).length kc2) 45) = V2) := hV2
          have HN2 : Hid (v2.heap.size = N2) := hN2
          have hV12 : Kept (fun k => k < V1.heap.size) V1 V2 := HK2.out.trans (hB2.kept.mono fun k h => Nat.lt_of_lt_of_le h HK2.out.size)
          have HV12 : Hid (Kept (fun k => k < V1.heap.size) V1 V2) := hV12
          have HQL : Hid ((R k).length ≤ 300) := by
            have := HG.out.inv.hn (u := k) (by rw [HM.out]; exact hlk)
            rw [HM.out] at this
            exact (show Hid _ from Nat.le_trans this hm300)
          clear rn hQ2 hKb hN2 hV2 hB2 rl hV12 hWr
          go_upto_region 16 with fail
          rw [HV2.out, HN2.out]
          clear HV2 HN2
          obtain ⟨Q, hQ⟩ : ∃ Q, R k = Q := ⟨_, rfl⟩
          obtain ⟨ql, hql⟩ : ∃ ql, Q.length = ql := ⟨_, rfl⟩
          have HQ : Hid (R k = Q) := hQ
          have HQLN : Hid (Q.length = ql) := hql
          have hql3 : ql ≤ 300 := by rw [← hql, ← hQ]; exact HQL.out
          clear hQ hql HQL
          go_loopg [8, 12] ql (fun gh v8 v12 wz => ∃ j : Nat, gh = ql - j ∧ j ≤ ql ∧ v12 = .int .i64 (j : Int) ∧ v8 = .int .i64 ((cc + (Q.take j).count i : Nat) : Int) ∧ Kept (fun k => k < V2.heap.size) V2 wz)
          case atStart => exact ⟨0, rfl, Nat.zero_le _, rfl, rfl, Kept.refl _ _⟩
          case round =>
            obtain ⟨j, hgj, hj, rfl, rfl, hK3⟩ := hrel
            have hB := HB2.out.later hK3
            have b5 := hB.c5
            rw [HQ.out, HQLN.out] at b5
            have hBn := (HB1.out.later HV12.out).later hK3
            have n4 := hBn.c4
            have HK3 : Hid (Kept (fun k => k < V2.heap.size) V2 wr) := hK3
            by_cases hjl : j < ql
            · have hjQ : j < Q.length := by rw [HQLN.out]; exact hjl
              obtain ⟨g, rfl, hg, d⟩ := hB.kid j (by rw [HQ.out]; exact hjQ)
              have e1 : (R k)[j]'(by rw [HQ.out]; exact hjQ) = Q[j] := by simp only [HQ.out]
              rw [e1] at d
              have hct := count_take_succ Q i j hjQ
              obtain ⟨y, hy⟩ : ∃ y, Q[j] = y := ⟨_, rfl⟩
              rw [hy] at d hct
              have hle : (Q.take (j + 1)).count i ≤ Q.count i := (List.take_sublist _ _).count_le i
              have hcq : cc + Q.count i ≤ 1 := by have := HCQ.out; rw [HQ.out] at this; exact this
              obtain ⟨t, ht⟩ : ∃ t, (Q.take j).count i = t := ⟨_, rfl⟩
              rw [ht] at hct ⊢
              by_cases c : y = i
              · subst c
                rw [if_pos rfl] at hct
                have hup : (M.pl y).up = (k : Int) := by
                  have hmem : y ∈ R k := by rw [HQ.out, ← hy]; exact List.getElem_mem hjQ
                  exact HG.out.inv.good.wf.up (by rw [HM.out]; exact hlk) hmem
                rw [hup] at n4
                have eb : ((y : Int) == (y : Int)) = true := by simp
                have HCT : Hid ((Q.take (j + 1)).count y = t + 1) := hct
                have hbd : cc + t + 1 ≤ 2 := by omega
                clear hB hBn hK3 hct hle hcq ht hy e1 hup
                go_wp2
                go_roundg (ql - (j + 1))
                case rel => exact ⟨j + 1, rfl, by omega, by go_num, by rw [HCT.out]; congr 1, HK3.out⟩
                case measure => omega
              · rw [if_neg c, Nat.add_zero] at hct
                have eb : ((y : Int) == (i : Int)) = false := by
                  have : ¬ (y : Int) = (i : Int) := by omega
                  simpa using this
                have HCT : Hid ((Q.take (j + 1)).count i = t) := hct
                clear hB hBn hK3 hct hle hcq ht hy e1
                go_wp2
                go_roundg (ql - (j + 1))
                case rel => exact ⟨j + 1, rfl, by omega, by go_num, by rw [HCT.out], HK3.out⟩
                case measure => omega
            · have hjn : ql = j := by omega
              subst hjn
              have hall : Q.take ql = Q := List.take_of_length_le (by rw [HQLN.out]; exact Nat.le_refl _)
              rw [hall]
              have hcc := HCC.out
              rw [HQ.out] at hcc
              have HC2 : Hid (cntR R i (k + 1) = cc + Q.count i) := hcc
              have HK9 : Hid (Kept (fun k => k < V1.heap.size) V1 wr) := HV12.out.trans (hK3.mono fun k h => Nat.lt_of_lt_of_le h HV12.out.size)
              clear hB hBn hK3 hall hcc
              go_wp2
              go_roundg (m - (k + 1))
              case rel => exact ⟨k + 1, rfl, by omega, by go_num, by rw [HC2.out], HK9.out⟩
              case measure => omega
        · have hkn : m = k := by omega
          subst hkn
          have hcnt := cntR_le HG.out.inv.good.wf (i := i) (by rw [HM.out]; exact hlt) m (by rw [HM.out]; exact Nat.le_refl _)
          have hups := HG.out.inv.ups (i := i) (by rw [HM.out]; exact hlt)
          rw [HM.out] at hups
          have hBn := HB1.out.later hK2
          have n4 := hBn.c4
          have n7 := hBn.c7
          have HBN : Hid (Box W5 wr N1 (M.nd i) (M.pl i).up (R i) ko1 kc1) := hBn
          have HWR : Hid (Kept (fun k => k < W.heap.size) W wr) := hWr
          obtain ⟨cc, hcc⟩ : ∃ cc, cntR R i m = cc := ⟨_, rfl⟩
          rw [hcc] at hcnt ⊢
          obtain ⟨uz, huz⟩ : ∃ uz, (M.pl i).up = uz := ⟨_, rfl⟩
          rw [huz] at hcnt hups n4
          obtain ⟨hz, hhz⟩ : ∃ hz, (M.nd i).host = hz := ⟨_, rfl⟩
          have hhost := HG.out.inv.core.host i (by rw [HM.out]; exact hlt)
          rw [hhz] at hhost n7
          have HHZ : Hid ((M.nd i).host = hz) := hhz
          have HHOST : Hid ((hz = -1 ∧ (M.nd i).kind ≠ 5) ∨ ∃ h : Nat, h < M.n ∧ hz = (h : Int) ∧ (M.pl i).up = -1 ∧ i ≠ 0 ∧ (((M.nd i).kind = 5 ∧ (M.nd h).shadow = (i : Int)) ∨ ((M.nd i).kind = 4 ∧ (M.nd h).content = (i : Int)))) := hhost
          clear hBn hcc huz hhz hK2 hhost hWr
          obtain ⟨W7, rfl⟩ : ∃ W7, W7 = wr := ⟨_, rfl⟩
          have hmain : (cc = 0 ∧ uz = -1) ∨ (cc = 1 ∧ ∃ u : Nat, u < m ∧ uz = (u : Int)) := by
            rcases hups with e | ⟨u, hu, e⟩
            · left
              exact ⟨by rw [hcnt, if_neg (fun ⟨u, _, e'⟩ => by omega)], e⟩
            · right
              exact ⟨by rw [hcnt, if_pos ⟨u, hu, e⟩], u, hu, e⟩
          clear hcnt hups
          go_upto_region 22 with (go_at_call 17; refine rl.mono ?_; rintro e1 w3 ⟨rfl, hw3⟩; replace hw3 := hw3.symm; subst hw3)
          clear rl
          go_cut [102] (fun v wx => v = .bool false ∧ wx = W7)
          case first =>
            rcases hmain with ⟨rfl, rfl⟩ | ⟨rfl, u, hu, rfl⟩
            · have m1 : min (0 : Int) 1 = 0 := by decide
              go_wp2
              go_meet
              case rel => exact ⟨rfl, rfl⟩
            · have m1 : ((u : Int) + 1 ≤ 1) ↔ u = 0 := by omega
              have m2 : decide ((u : Int) < 0) = false := decide_eq_false (by omega)
              have m3 : decide ((u : Int) ≥ 0) = true := decide_eq_true (by omega)
              go_wp2
              all_goals
                go_meet
                case rel => exact ⟨rfl, rfl⟩
          case rest =>
            obtain ⟨rfl, rfl⟩ := hcut
            clear hmain
            go_upto_if 105 with fail
            go_cut [] (fun wx => Kept (fun k => k < wc.heap.size) wc wx)
            case first =>
              rcases HHOST.out with ⟨hz1, -⟩ | ⟨hh, hhm, hz1, -, -, hsc⟩
              · subst hz1
                have z1 : decide ((-1 : Int) ≥ 0) = false := by decide
                go_wp2
                go_meet
                case rel => exact Kept.refl _ _
              · subst hz1
                have z1 : decide ((hh : Int) ≥ 0) = true := decide_eq_true (by omega)
                have z2 : decide (0 ≤ (hh : Int)) = true := decide_eq_true (by omega)
                have rn := NODE.out hh (by rw [← HM.out]; exact hhm) wc HWR.out
                go_wp2_with fail
                refine rn.mono ?_
                rintro e v3 ⟨ao3, ac3, ko3, kc3, rfl, -, hQ3, hKc⟩
                obtain ⟨N3, hN3⟩ : ∃ N, v3.heap.size = N := ⟨_, rfl⟩
                obtain ⟨V3, hV3⟩ : ∃ V, v3.alloc (.cells (outN (M.nd hh) ao3 ac3 (M.pl hh).up ko3 (R hh).length kc3) 45) = V := ⟨_, rfl⟩
                have hB3 := Box.of hQ3 hKc V3 N3 hN3 hV3
                have HB3 : Hid (Box wc V3 N3 (M.nd hh) (M.pl hh).up (R hh) ko3 kc3) := hB3
                have HV3 : Hid (v3.alloc (.cells (outN (M.nd hh) ao3 ac3 (M.pl hh).up ko3 (R hh).length kc3) 45) = V3) := hV3
                have HN3 : Hid (v3.heap.size = N3) := hN3
                have e6 := hB3.c6
                have e8 := hB3.c8
                clear rn hQ3 hKc hN3 hV3 hB3
                go_upto_region 26 with fail
                rw [HV3.out, HN3.out]
                clear HV3 HN3
                rcases hsc with ⟨-, hsh⟩ | ⟨-, hct⟩
                · rw [hsh] at e6
                  have eb : ((i : Int) != (i : Int)) = false := by simp
                  go_wp2
                  go_meet
                  case rel => exact HB3.out.kept
                · rw [hct] at e8
                  obtain ⟨sz, hsz⟩ : ∃ sz, (M.nd hh).shadow = sz := ⟨_, rfl⟩
                  rw [hsz] at e6
                  have eb : ((i : Int) != (i : Int)) = false := by simp
                  cases hes : (sz != (i : Int)) with
                  | false =>
                    go_wp2
                    go_meet
                    case rel => exact HB3.out.kept
                  | true =>
                    go_wp2
                    go_meet
                    case rel => exact HB3.out.kept
            case rest =>
              have HWR2 : Hid (Kept (fun k => k < W.heap.size) W wc) := HWR.out.trans (hcut.mono fun k h => Nat.lt_of_lt_of_le h HWR.out.size)
              clear hcut n4 n7
              obtain ⟨B, hB⟩ : ∃ B, wc = B := ⟨_, rfl⟩
              rw [hB] at HWR2 ⊢
              clear hB
              go_upto_region 30 with fail
              go_loopg [15, 16] (m + 1) (fun gh v15 v16 wz => ∃ (s : Nat) (z : Int) (lst : List Nat), gh = m + 1 - s ∧ Way m rk s z lst ∧ v15 = .int .i64 z ∧ v16 = .int .i64 (s : Int) ∧ Kept (fun k => k < B.heap.size) B wz)
              case atStart => exact ⟨0, (i : Int), [], rfl, Way.start m rk hlt, rfl, rfl, Kept.refl _ _⟩
              case round =>
                obtain ⟨s, z, lst, hgs, hway, rfl, rfl, hK4⟩ := hrel
                have HK4 : Hid (Kept (fun k => k < B.heap.size) B wr) := hK4
                have HW4 : Hid (Kept (fun k => k < W.heap.size) W wr) := HWR2.out.trans (hK4.mono fun k h => Nat.lt_of_lt_of_le h HWR2.out.size)
                have HWAY : Hid (Way m rk s z lst) := hway
                clear hK4
                rcases hway.at0 with hz1 | ⟨x, hx, hz1, -⟩
                · subst hz1
                  have z1 : decide ((-1 : Int) ≥ 0) = false := by decide
                  clear hway
                  go_wp2
                  go_roundg (m - (i + 1))
                  case rel => exact ⟨i + 1, rfl, by omega, by go_num, HW4.out⟩
                  case measure => omega
                · subst hz1
                  have z1 : decide ((x : Int) ≥ 0) = true := decide_eq_true (by omega)
                  have z2 : decide (0 ≤ (x : Int)) = true := decide_eq_true (by omega)
                  have hle := hway.le.2
                  have hway2 := Way.up (M := M) HG.out.inv.good.acy (by rw [HM.out]; exact hway)
                  rw [HM.out] at hway2
                  have HWAY2 : Hid (Way m rk (s + 1) (parI M x) (x :: lst)) := hway2
                  have rn := NODE.out x hx wr HW4.out
                  have hups := HG.out.inv.ups (i := x) (by rw [HM.out]; exact hx)
                  have hhost := HG.out.inv.core.host x (by rw [HM.out]; exact hx)
                  have sg : decide ((s : Int) > (m : Int)) = false := decide_eq_false (by omega)
                  clear hway hway2 HWAY
                  go_wp2_with fail
                  refine rn.mono ?_
                  rintro e v4 ⟨ao4, ac4, ko4, kc4, rfl, -, hQ4, hKd⟩
                  obtain ⟨N4, hN4⟩ : ∃ N, v4.heap.size = N := ⟨_, rfl⟩
                  obtain ⟨V4, hV4⟩ : ∃ V, v4.alloc (.cells (outN (M.nd x) ao4 ac4 (M.pl x).up ko4 (R x).length kc4) 45) = V := ⟨_, rfl⟩
                  have hB4 := Box.of hQ4 hKd V4 N4 hN4 hV4
                  have HV4 : Hid (v4.alloc (.cells (outN (M.nd x) ao4 ac4 (M.pl x).up ko4 (R x).length kc4) 45) = V4) := hV4
                  have HN4 : Hid (v4.heap.size = N4) := hN4
                  have e4 := hB4.c4
                  have e7 := hB4.c7
                  have HKB : Hid (Kept (fun k => k < B.heap.size) B V4) := HK4.out.trans (hB4.kept.mono fun k h => Nat.lt_of_lt_of_le h HK4.out.size)
                  have rl4 := LEN.out V4 (HW4.out.trans (hB4.kept.mono fun k h => Nat.lt_of_lt_of_le h HW4.out.size))
                  clear rn hQ4 hKd hN4 hV4 hB4
                  go_upto_region 33 with fail
                  rw [HV4.out, HN4.out]
                  clear HV4 HN4
                  rcases hups with hu1 | ⟨u, hu, hu1⟩
                  · have hpar : parI M x = (M.nd x).host := by unfold parI; rw [if_pos hu1]
                    rw [hu1] at e4
                    have HP : Hid (Way m rk (s + 1) (M.nd x).host (x :: lst)) := by rw [← hpar]; exact HWAY2
                    obtain ⟨hz4, hhz4⟩ : ∃ hz4, (M.nd x).host = hz4 := ⟨_, rfl⟩
                    rw [hhz4] at e7 HP
                    have u1 : decide ((-1 : Int) < 0) = true := by decide
                    clear hpar hhost hhz4 HWAY2 hu1
                    go_wp2_with (go_at_call 17; refine rl4.mono ?_; rintro e1 w3 ⟨rfl, hw3⟩; replace hw3 := hw3.symm; subst hw3)
                    go_roundg (m + 1 - (s + 1))
                    case rel => exact ⟨s + 1, hz4, x :: lst, rfl, HP.out, rfl, by go_num, HKB.out⟩
                    case measure => omega
                  · have hpar : parI M x = (u : Int) := by unfold parI; rw [if_neg (by omega)]; exact hu1
                    rw [hu1] at e4
                    have HP : Hid (Way m rk (s + 1) (u : Int) (x :: lst)) := by rw [← hpar]; exact HWAY2
                    have u1 : decide ((u : Int) < 0) = false := decide_eq_false (by omega)
                    clear hpar hhost HWAY2 hu1 e7
                    go_wp2_with (go_at_call 17; refine rl4.mono ?_; rintro e1 w3 ⟨rfl, hw3⟩; replace hw3 := hw3.symm; subst hw3)
                    go_roundg (m + 1 - (s + 1))
                    case rel => exact ⟨s + 1, (u : Int), x :: lst, rfl, HP.out, rfl, by go_num, HKB.out⟩
                    case measure => omega
    · have hin : m = i := by omega
      subst hin
      have HKE : Hid (Kept (fun k => k < w.heap.size) w wr) := HKW.out.trans (hK1.mono fun k h => Nat.lt_of_lt_of_le h HKW.out.size)
      clear hK1
      go_wp2_with (go_at_call 17; refine rl.mono ?_; rintro e1 w3 ⟨rfl, hw3⟩; replace hw3 := hw3.symm; subst hw3)
      go_ret
      exact ⟨rfl, HKE.out⟩
set_option maxRecDepth 20000 in
theorem places_long (n : Nat) (hnn : 60 < n) (a : Option Addr) (c : Nat) (w : World) :
    Calls Tryz.prog 4 #[.slice a n c] w fun e w' => e = .returned (.bool true) ∧ Kept (fun k => k < w.heap.size) w w' := by
  have hg60 : decide ((n : Int) > 60) = true := decide_eq_true (by omega)
  have rk0 := known_any w
  go_enter Tryz.func4, Tryz.ntmps4
  go_wp2_with (go_at_call 10; refine rk0.mono ?_; rintro e w2 ⟨rfl, k2⟩)
  go_ret
  exact ⟨rfl, k2⟩
set_option maxRecDepth 20000 in
theorem places_heavy (l : List Opx) (n : Nat) (hln : l.length = n) (hnn : n ≤ 60) (a : Option Addr) (c : Nat) (hb : 6000 < opsH l) (hb2 : opsH l ≤ 2000000) (w : World) (h : OpsAt (fun k => k < w.heap.size) w a l) :
    Calls Tryz.prog 4 #[.slice a n c] w fun e w' => e = .returned (.bool true) ∧ Kept (fun k => k < w.heap.size) w w' := by
  have rh := heavy_any l n hln (by omega) a c hb2 w h
  have hg60 : decide ((n : Int) > 60) = false := decide_eq_false (by omega)
  obtain ⟨hv, hhv⟩ : ∃ hv, opsH l = hv := ⟨_, rfl⟩
  rw [hhv] at rh hb
  have hg6 : decide ((hv : Int) > 6000) = true := decide_eq_true (by omega)
  clear hhv h hln hb2
  go_enter Tryz.func4, Tryz.ntmps4
  go_wp2_with fail
  refine rh.mono ?_
  rintro e w1 ⟨rfl, k1⟩
  have rk0 := known_any w1
  clear rh
  go_wp2_with (go_at_call 10; refine rk0.mono ?_; rintro e w2 ⟨rfl, k2⟩)
  go_ret
  exact ⟨rfl, k1.trans (k2.mono fun k h => Nat.lt_of_lt_of_le h k1.size)⟩
end Go.Proofs.YthhoicmfmfeehaaGreat
