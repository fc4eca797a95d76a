/-
  The walk of SlotsSum.
-/
import Derived.Test.YtljnjdckhkglfaaYo
import Derived.Test.YtljnjdckhkglfaaP26
import Derived.Deep.QuietTactic
namespace Go.Proofs.Ytljnjdckhkglfaa
open Go.RowKit
set_option linter.unusedVariables false
set_option maxRecDepth 20000 in
set_option maxHeartbeats 4000000 in
theorem sum_long (a0 a1 : Option Addr) (cap0 cap1 len0 len1 : Nat) (hl : 30 < len0 ∨ 60 < len1) (w : World) :
    Calls Try.prog 5 #[.slice a0 len0 cap0, .slice a1 len1 cap1] w fun e w' => e = .returned (.bool true) ∧ Kept (fun k => k < w.heap.size) w w' := by
  have rk := sknown_any w
  by_cases c0 : 30 < len0
  · have e0 : decide ((len0 : Int) > 30) = true := decide_eq_true (by omega)
    go_enter Try.func5, Try.ntmps5
    go_wp2_with fail
    refine rk.mono ?_
    rintro e w1 ⟨rfl, hk⟩
    clear rk
    go_wp2
    go_ret
    exact ⟨rfl, hk⟩
  · have e0 : decide ((len0 : Int) > 30) = false := decide_eq_false (by omega)
    have e1 : decide ((len1 : Int) > 60) = true := decide_eq_true (by omega)
    go_enter Try.func5, Try.ntmps5
    go_wp2_with fail
    refine rk.mono ?_
    rintro e w1 ⟨rfl, hk⟩
    clear rk
    go_wp2
    go_ret
    exact ⟨rfl, hk⟩
set_option maxRecDepth 20000 in
set_option maxHeartbeats 4000000 in
theorem sum_go (a0 a1 : Option Addr) (cap0 cap1 len0 len1 : Nat) (S T : List UInt8) (hS : S.length = len0) (hT : T.length = len1) (h30 : len0 ≤ 30) (h60 : len1 ≤ 60) (w : World) (r0 : RowB w a0 S) (r1 : RowB w a1 T) :
    Calls Try.prog 5 #[.slice a0 len0 cap0, .slice a1 len1 cap1] w fun e w' => e = .returned (.bool true) ∧ Kept (fun k => k < w.heap.size) w w' := by
  have rk := sknown_any w
  have HR0 : Hid (RowB w a0 S) := r0
  have HR1 : Hid (RowB w a1 T) := r1
  have HLS : Hid (S.length = len0) := hS
  have HLT : Hid (T.length = len1) := hT
  have e0 : decide ((len0 : Int) > 30) = false := decide_eq_false (by omega)
  have e1 : decide ((len1 : Int) > 60) = false := decide_eq_false (by omega)
  clear r0 r1 hS hT
  go_enter Try.func5, Try.ntmps5
  go_wp2_with fail
  refine rk.mono ?_
  rintro e w1 ⟨rfl, hk1⟩
  have rh := host_any a0 a1 cap0 cap1 len0 len1 S T HLS.out HLT.out h30 h60 w1 (HR0.out.kept hk1) (HR1.out.kept hk1)
  have HK1 : Hid (Kept (fun k => k < w.heap.size) w w1) := hk1
  clear rk hk1
  go_wp2_with fail
  refine rh.mono ?_
  rintro e w2 ⟨p, rfl, s2, k2⟩
  have HS2 : Hid (Dst (fun k => k < w1.heap.size) w2 p (xsH (S.map nmC) (T.map kidC)) (QH (List.range' 3 S.length) (List.range' (3 + S.length) T.length))) := s2
  have HW2 : Hid (Kept (fun k => k < w.heap.size) w w2) := HK1.out.trans (k2.mono fun k h => Nat.lt_of_lt_of_le h HK1.out.size)
  obtain ⟨f, hf⟩ : ∃ f, 3 + len0 = f := ⟨_, rfl⟩
  have HF : Hid (3 + S.length = f) := by rw [HLS.out]; exact hf
  rw [hf]
  clear rh s2 k2 hf
  go_upto_region 8 with fail
  go_loopg [7, 8] len0 (fun gh v7 v8 wr => ∃ i : Nat, gh = len0 - i ∧ i ≤ len0 ∧ v8 = .int .i64 (i : Int) ∧ v7 = .int .i64 (cntS S T i : Int) ∧ Kept (fun k => k < w2.heap.size) w2 wr)
  case atStart => exact ⟨0, rfl, Nat.zero_le _, rfl, by rw [cntS_zero]; rfl, Kept.refl _ _⟩
  case round =>
    obtain ⟨i, hgi, hi, rfl, rfl, hK⟩ := hrel
    have HK : Hid (Kept (fun k => k < w2.heap.size) w2 wr) := hK
    obtain ⟨cn, hcn⟩ : ∃ cn, cntS S T i = cn := ⟨_, rfl⟩
    have hcb : cn ≤ 60 := by rw [← hcn]; unfold cntS; exact Nat.le_trans (List.countP_le_length ..) (by rw [HLT.out]; exact h60)
    rw [hcn]
    have HCN : Hid (cntS S T i = cn) := hcn
    by_cases hlt : i < len0
    · have hiS : i < S.length := by rw [HLS.out]; exact hlt
      obtain ⟨si, hsi⟩ : ∃ si, 3 + i = si := ⟨_, rfl⟩
      have hsz : (3 : Int) + (i : Int) = (si : Int) := by omega
      obtain ⟨M, R, G, rk, hR, hD⟩ := (HS2.out.kept hK).rd
      have ra := hR.assigned (si : Int)
      have ea := sum_asg hD hR.inv hiS
      rw [hsi] at ea
      rw [ea] at ra
      obtain ⟨L, hL⟩ : ∃ L, asgS S T i = L := ⟨_, rfl⟩
      have HST : Hid (cntS S T (i + 1) = cn + L.length) := by
        have := cntS_step S T hiS
        rw [hcn, hL] at this; exact this
      have HASC : Hid (∀ k, 0 < k → k < L.length → ∃ x y : Nat, L[k - 1]? = some x ∧ L[k]? = some y ∧ x < y ∧ f ≤ x) := fun k h0 hk => by
        have := asgS_asc S T i h0 (by rw [hL]; exact hk)
        rw [hL, HF.out] at this; exact this
      have hnb : L.length ≤ 60 := by rw [← hL]; exact Nat.le_trans (asgS_len ..) (by rw [HLT.out]; exact h60)
      rw [hL] at ra
      obtain ⟨n, hn⟩ : ∃ n, L.length = n := ⟨_, rfl⟩
      have HN : Hid (L.length = n) := hn
      rw [hn] at HST hnb
      clear hK hcn hR hD ea hL hn hsi
      go_wp2_with fail
      refine ra.mono ?_
      rintro e v1 ⟨aa, ac, rfl, hO, k1⟩
      rw [HN.out] at hO ⊢
      have HO : Hid (OwnZ (fun k => k < wr.heap.size) v1 3 1 aa n ac (ivs L)) := hO
      have HV1 : Hid (Kept (fun k => k < w2.heap.size) w2 v1) := HK.out.trans (k1.mono fun k h => Nat.lt_of_lt_of_le h HK.out.size)
      clear ra hO k1 HK
      obtain ⟨wo, rfl⟩ : ∃ wo, wo = wr := ⟨_, rfl⟩
      go_upto_region 13 with fail
      go_loopg [10] n (fun gh v wq => ∃ k : Nat, gh = n + 1 - k ∧ 0 < k ∧ k ≤ n + 1 ∧ v = .int .i64 (k : Int) ∧ Kept (fun k => k < v1.heap.size) v1 wq)
      case atStart => exact ⟨1, by omega, by decide, by omega, rfl, Kept.refl _ _⟩
      case round =>
        obtain ⟨k, hgk, hk0, hk1, rfl, hKq⟩ := hrel
        have HKQ : Hid (Kept (fun k => k < v1.heap.size) v1 wr) := hKq
        by_cases hkn : k < n
        · obtain ⟨x, y, hx, hy, hxy, hfx⟩ := HASC.out k hk0 (by rw [HN.out]; exact hkn)
          obtain ⟨km, hkm⟩ : ∃ km, k - 1 = km := ⟨_, rfl⟩
          have hkz : (k : Int) - 1 = (km : Int) := by omega
          have hkl : km < n := by omega
          have hkw : IntKind.i64.wrap (km : Int) = (km : Int) := by rw [IntKind.wrap_i64]; omega
          rw [hkm] at hx
          have OQ : OwnZ (fun k => k < wo.heap.size) wr 3 1 aa n ac (ivs L) := HO.out.to (fun g hg => (HO.out.out hg).1) (fun g hg => hKq.block g (HO.out.out hg).2)
          obtain ⟨g, rfl, hcx⟩ := OQ.cell (j := km) (u := .int .i64 (x : Int)) (by rw [ivs, List.getElem?_map, hx]; rfl)
          obtain ⟨g', eg, hcy⟩ := OQ.cell (j := k) (u := .int .i64 (y : Int)) (by rw [ivs, List.getElem?_map, hy]; rfl)
          injection eg with eg
          injection eg with eg
          subst eg
          have d1 : decide ((y : Int) ≤ (x : Int)) = false := decide_eq_false (by omega)
          have d2 : decide ((x : Int) < (f : Int)) = false := decide_eq_false (by omega)
          have d3 : decide (y ≤ x) = false := decide_eq_false (by omega)
          have d4 : decide (x < f) = false := decide_eq_false (by omega)
          have d5 : ¬ y ≤ x := by omega
          have d6 : ¬ x < f := by omega
          clear OQ hx hy hKq hkm
          go_upto_region 15 with fail
          go_quiet (fail)
          go_wp2
          go_roundg (n + 1 - (k + 1))
          case rel => exact ⟨k + 1, rfl, by omega, by omega, by go_num, HKQ.out.drewN _⟩
          case measure => omega
        · have hkk : decide ((k : Int) < (n : Int)) = false := decide_eq_false (by omega)
          have HV2 : Hid (Kept (fun k => k < w2.heap.size) w2 wr) := HV1.out.trans (hKq.mono fun k h => Nat.lt_of_lt_of_le h HV1.out.size)
          clear hKq
          go_wp2
          go_roundg (len0 - (i + 1))
          case rel => exact ⟨i + 1, rfl, by omega, by go_num, by rw [HST.out]; go_num, HV2.out⟩
          case measure => omega
    · have hin : i = len0 := by omega
      have HCA : Hid (cn = T.countP fun c => decide (0 ≤ plcT (S.map tOf) (tK c))) := by
        have := cntS_all S T
        rw [HLS.out, ← hin, hcn] at this; exact this
      clear hcn hK hgi hi hin
      obtain ⟨wo, rfl⟩ : ∃ wo, wo = wr := ⟨_, rfl⟩
      have HWO : Hid (Kept (fun k => k < w.heap.size) w wo) := HW2.out.trans (HK.out.mono fun k h => Nat.lt_of_lt_of_le h HW2.out.size)
      go_upto_region 19 with fail
      go_loopg [11, 12] len1 (fun gh v11 v12 wr => ∃ j : Nat, gh = len1 - j ∧ j ≤ len1 ∧ v12 = .int .i64 (j : Int) ∧ v11 = .int .i64 ((T.take j).countP (fun c => decide (0 ≤ plcT (S.map tOf) (tK c))) : Int) ∧ Kept (fun k => k < wo.heap.size) wo wr)
      case atStart => exact ⟨0, rfl, Nat.zero_le _, rfl, rfl, Kept.refl _ _⟩
      case round =>
        obtain ⟨j, hgj, hj, rfl, rfl, hKj⟩ := hrel
        have HKJ : Hid (Kept (fun k => k < wo.heap.size) wo wr) := hKj
        have HWR : Hid (Kept (fun k => k < w.heap.size) w wr) := HWO.out.trans (hKj.mono fun k h => Nat.lt_of_lt_of_le h HWO.out.size)
        obtain ⟨dn, hdn⟩ : ∃ dn, (T.take j).countP (fun c => decide (0 ≤ plcT (S.map tOf) (tK c))) = dn := ⟨_, rfl⟩
        have hdb : dn ≤ 60 := by rw [← hdn]; exact Nat.le_trans (List.countP_le_length ..) (by rw [List.length_take]; omega)
        rw [hdn]
        by_cases hjt : j < len1
        · have hjT : j < T.length := by rw [HLT.out]; exact hjt
          obtain ⟨b, o, rfl, hb, hc⟩ := (HR1.out.kept HWR.out) j hjT
          obtain ⟨c, hcc⟩ : ∃ c, T[j] = c := ⟨_, rfl⟩
          rw [hcc] at hc
          have hy := c.toNat_lt
          obtain ⟨v, hv⟩ : ∃ v, plcT (S.map tOf) (tK c) = v := ⟨_, rfl⟩
          have hds : (T.take (j + 1)).countP (fun c => decide (0 ≤ plcT (S.map tOf) (tK c))) = dn + if 0 ≤ v then 1 else 0 := by
            rw [List.take_succ_eq_append_getElem hjT, List.countP_append, hdn, hcc, List.countP_singleton, hv]
            by_cases h : 0 ≤ v
            · rw [decide_eq_true h, if_pos rfl, if_pos h]
            · rw [decide_eq_false h, if_neg (by decide), if_neg h]
          have HDS : Hid ((T.take (j + 1)).countP (fun c => decide (0 ≤ plcT (S.map tOf) (tK c))) = dn + if 0 ≤ v then 1 else 0) := hds
          clear hds
          have RP : Hid (∀ X, Kept (fun k => k < wr.heap.size) wr X → Calls Try.prog 13 #[.slice a0 len0 cap0, .string (nmB (tK c))] X fun e w' => e = .returned (.int .i64 v) ∧ Kept (fun k => k < X.heap.size) X w') := fun X hX => by
            have := place_any a0 cap0 S len0 HLS.out (by omega) (tK c) (tK_lt c) X ((HR0.out.kept HWR.out).kept hX)
            rw [hv] at this
            exact this
          have HTC : Hid (((c.toNat : Int).tdiv 5).tmod 4 = (tOf c : Int)) := tOf_eq c
          obtain ⟨q, hq⟩ : ∃ q : Nat, (c.toNat : Int).tmod 5 = (q : Int) := ⟨c.toNat % 5, by rw [Int.tmod_eq_emod_of_nonneg (by omega)]; omega⟩
          have hq5 : c.toNat % 5 = q := by rw [Int.tmod_eq_emod_of_nonneg (by omega)] at hq; omega
          by_cases hq0 : q = 0
          · have et : tK c = 0 := by unfold tK; rw [if_pos (by omega)]
            rw [et] at RP
            have RP0 : Hid (∀ X, Kept (fun k => k < wr.heap.size) wr X → Calls Try.prog 13 #[.slice a0 len0 cap0, .string ⟨#[]⟩] X fun e w' => e = .returned (.int .i64 v) ∧ Kept (fun k => k < X.heap.size) X w') := RP
            have rp := RP0.out wr (Kept.refl _ _)
            obtain ⟨y, hyy⟩ : ∃ y, (c.toNat : Int) = y := ⟨_, rfl⟩
            have hy0 : 0 ≤ y ∧ y ≤ 255 := by omega
            obtain ⟨hy0, hy1⟩ := hy0
            rw [hyy] at hc hq
            subst hq0
            clear hKj hcc hy hv hq5 et RP hyy HTC hdn RP0
            go_wp2_with fail
            refine rp.mono ?_
            rintro e v2 ⟨rfl, k2⟩
            have HV2 : Hid (Kept (fun k => k < wo.heap.size) wo v2) := HKJ.out.trans (k2.mono fun k h => Nat.lt_of_lt_of_le h HKJ.out.size)
            clear rp k2 hc
            by_cases h0v : 0 ≤ v
            · have hge : decide (v ≥ 0) = true := decide_eq_true h0v
              rw [if_pos h0v] at HDS
              go_wp2
              go_roundg (len1 - (j + 1))
              case rel => exact ⟨j + 1, rfl, by omega, by go_num, by rw [HDS.out]; go_num, HV2.out⟩
              case measure => omega
            · have hge : decide (v ≥ 0) = false := decide_eq_false h0v
              rw [if_neg h0v] at HDS
              go_wp2
              go_roundg (len1 - (j + 1))
              case rel => exact ⟨j + 1, rfl, by omega, by go_num, by rw [HDS.out]; rfl, HV2.out⟩
              case measure => omega
          · have et : tK c = tOf c := by unfold tK; rw [if_neg (by omega)]
            rw [et] at RP
            obtain ⟨y, hyy⟩ : ∃ y, (c.toNat : Int) = y := ⟨_, rfl⟩
            have hy0 : 0 ≤ y ∧ y ≤ 255 := by omega
            obtain ⟨hy0, hy1⟩ := hy0
            rw [hyy] at hc hq HTC
            have hqe : ((q : Int) == 0) = false := by rw [beq_eq_false_iff_ne]; omega
            have hqn : ((q : Int) != 0) = true := by simp [bne, hqe]
            have rn := name_any y (tOf c) hy0 hy1 HTC.out wr
            clear hKj hcc hy hv hq5 et hyy HTC hdn
            go_wp2_with fail
            refine rn.mono ?_
            rintro e v1 ⟨rfl, k1⟩
            have rp := RP.out v1 k1
            have HV1 : Hid (Kept (fun k => k < wr.heap.size) wr v1) := k1
            clear rn k1 hc hq hqe hqn
            go_wp2_with fail
            refine rp.mono ?_
            rintro e v2 ⟨rfl, k2⟩
            have HV2 : Hid (Kept (fun k => k < wo.heap.size) wo v2) := HKJ.out.trans ((HV1.out.mono fun k h => Nat.lt_of_lt_of_le h HKJ.out.size).trans (k2.mono fun k h => Nat.lt_of_lt_of_le h (Nat.le_trans HKJ.out.size HV1.out.size)))
            clear rp k2 HV1
            by_cases h0v : 0 ≤ v
            · have hge : decide (v ≥ 0) = true := decide_eq_true h0v
              rw [if_pos h0v] at HDS
              go_wp2
              go_roundg (len1 - (j + 1))
              case rel => exact ⟨j + 1, rfl, by omega, by go_num, by rw [HDS.out]; go_num, HV2.out⟩
              case measure => omega
            · have hge : decide (v ≥ 0) = false := decide_eq_false h0v
              rw [if_neg h0v] at HDS
              go_wp2
              go_roundg (len1 - (j + 1))
              case rel => exact ⟨j + 1, rfl, by omega, by go_num, by rw [HDS.out]; rfl, HV2.out⟩
              case measure => omega
        · have hjn : j = len1 := by omega
          have hdc : dn = cn := by
            rw [hjn, List.take_of_length_le (by rw [HLT.out]; exact Nat.le_refl _)] at hdn
            rw [← hdn]; exact HCA.out.symm
          obtain ⟨M, R, G, rk, hR, hD⟩ := (HS2.out.kept (HK.out.trans (hKj.mono fun k h => Nat.lt_of_lt_of_le h HK.out.size))).rd
          have rs := hR.slots 2
          have HSL : Hid (((trI M.n R 2).filter fun k => isSl (M.nd k)).length = len0) := by rw [sum_slots hD hR.inv]; exact HLS.out
          subst hdc
          clear hKj hdn hR hD hjn HCA
          go_wp2_with fail
          refine rs.mono ?_
          rintro e v2 ⟨aa, ac, rfl, -, k2⟩
          rw [HSL.out]
          have HV2 : Hid (Kept (fun k => k < w.heap.size) w v2) := HWR.out.trans (k2.mono fun k h => Nat.lt_of_lt_of_le h HWR.out.size)
          clear rs k2
          go_wp2
          go_ret
          exact ⟨by simp, HV2.out⟩
end Go.Proofs.Ytljnjdckhkglfaa
