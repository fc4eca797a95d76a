/-
  The walk of the statements' own host.
-/
import Derived.Test.YtljnjdckhkglfaaYf
namespace Go.Proofs.Ytljnjdckhkglfaa
open Go.RowKit
set_option linter.unusedVariables false
theorem take_map {α β : Type} (f : α → β) (S : List α) {i : Nat} (h : i < S.length) : (S.take i).map f ++ [f S[i]] = (S.take (i + 1)).map f := by
  rw [List.take_succ_eq_append_getElem h, List.map_append]; rfl
theorem len_take {α β : Type} (f : α → β) (S : List α) {i : Nat} (h : i ≤ S.length) : ((S.take i).map f).length = i := by
  rw [List.length_map, List.length_take]; omega
set_option maxRecDepth 20000 in
set_option maxHeartbeats 4000000 in
theorem host_any (a0 a1 : Option Addr) (cap0 cap1 len0 len1 : Nat) (S T : List UInt8) (hS : S.length = len0) (hT : T.length = len1) (h30 : len0 ≤ 30) (h60 : len1 ≤ 60) (w : World) (r0 : RowB w a0 S) (r1 : RowB w a1 T) :
    Calls Try.prog 10 #[.slice a0 len0 cap0, .slice a1 len1 cap1] w fun e w' => ∃ p, e = .returned (.tuple #[.pointer (some ⟨p, 0, none⟩), .int .i64 ((3 + len0 : Nat) : Int)]) ∧ Dst (fun k => k < w.heap.size) w' p (xsH (S.map nmC) (T.map kidC)) (QH (List.range' 3 S.length) (List.range' (3 + S.length) T.length)) ∧ Kept (fun k => k < w.heap.size) w w' := by
  have rn := new_yes 300 w (by decide) (by decide)
  have HR0 : Hid (RowB w a0 S) := r0
  have HR1 : Hid (RowB w a1 T) := r1
  have HLS : Hid (S.length = len0) := hS
  have HLT : Hid (T.length = len1) := hT
  clear r0 r1 hS hT
  go_enter Try.func10, Try.ntmps10
  go_wp2_with fail
  refine rn.mono ?_
  rintro e w1 ⟨p, rfl, hp, hX1, hK1⟩
  have ra := stDiv (Dst.start hX1)
  have HK1 : Hid (Kept (fun k => k < w.heap.size) w w1) := hK1
  clear rn hX1 hK1 hp
  go_wp2_with fail
  refine ra.mono ?_
  rintro e w2 ⟨rfl, s2, hK2⟩
  have rb := stRoot s2 fg0
  have HK2 : Hid (Kept (fun k => k < w.heap.size) w w2) := HK1.out.trans hK2
  clear ra s2 hK2 HK1
  go_wp2_with fail
  refine rb.mono ?_
  rintro e w3 ⟨rfl, s3, hK3⟩
  have HS3 : Hid (Dst (fun k => k < w.heap.size) w3 p (xsH ((S.take 0).map nmC) []) (QH (List.range' 3 0) [])) := by
    have e : (QH (List.range' 3 0) [] : Nat → List Nat) = fun _ => [] := by funext k; unfold QH; split; rfl; split <;> rfl
    rw [e]; exact s3
  have HK3 : Hid (Kept (fun k => k < w.heap.size) w w3) := HK2.out.trans hK3
  clear rb s3 hK3 HK2
  go_upto_region 7 with fail
  go_loopg [9] len0 (fun gh v wr => ∃ i : Nat, gh = len0 - i ∧ i ≤ len0 ∧ v = .int .i64 (i : Int) ∧ Dst (fun k => k < w.heap.size) wr p (xsH ((S.take i).map nmC) []) (QH (List.range' 3 i) []) ∧ Kept (fun k => k < w.heap.size) w wr)
  case atStart => exact ⟨0, rfl, Nat.zero_le _, rfl, HS3.out, HK3.out⟩
  case round =>
    clear HS3 HK3
    obtain ⟨i, hgi, hi, rfl, hs, hK⟩ := hrel
    have HK : Hid (Kept (fun k => k < w.heap.size) w wr) := hK
    by_cases hlt : i < len0
    · have hiS : i < S.length := by rw [HLS.out]; exact hlt
      have hA : ((S.take i).map nmC).length = i := len_take nmC S (by omega)
      have rm := stH_slot (A := (S.take i).map nmC) (by rw [hA]; exact hs) (by rw [hA]; omega)
      rw [hA] at rm
      obtain ⟨b, o, rfl, hb, hc⟩ := (HR0.out.kept hK) i hiS
      have HB : Hid (b < w.heap.size) := by
        obtain ⟨b', o', e, hb', _⟩ := HR0.out i hiS
        injection e with e; injection e with e; rw [e]; exact hb'
      have hc0 : wr.cell? ⟨b, o + i, none⟩ = some (.int .u8 (S[i].toNat : Int)) := hc
      have HN : Hid (nmC S[i] = nmQ (tOf S[i])) := rfl
      have HTM : Hid ((S.take i).map nmC ++ [nmC S[i]] = (S.take (i + 1)).map nmC) := take_map nmC S hiS
      have HA : Hid (((S.take i).map nmC).length = i) := hA
      clear hs hK hc hA hb
      go_wp2_with fail
      refine rm.mono ?_
      rintro e v1 ⟨rfl, s1, k1⟩
      have hc1 : v1.cell? ⟨b, o + i, none⟩ = some (.int .u8 (S[i].toNat : Int)) := (k1.cell (p := ⟨b, o + i, none⟩) HB.out).trans hc0
      obtain ⟨c, hcc⟩ : ∃ c, S[i] = c := ⟨_, rfl⟩
      rw [hcc] at hc1 HN HTM
      have hy := c.toNat_lt
      have rnm := name_any (c.toNat : Int) (tOf c) (by omega) (by omega) (tOf_eq c) v1
      have HS1 : Hid (Dst (fun k => k < w.heap.size) v1 p (xsH ((S.take i).map nmC) [] ++ [elD slotN]) (QH (List.range' 3 i) [])) := s1
      have HV1 : Hid (Kept (fun k => k < w.heap.size) w v1) := HK.out.trans k1
      obtain ⟨y, hyy⟩ : ∃ y, (c.toNat : Int) = y := ⟨_, rfl⟩
      rw [hyy] at hc1 rnm
      clear rm s1 k1 hc0 hcc hy hyy HK
      go_wp2_with fail
      refine rnm.mono ?_
      rintro e v2 ⟨rfl, k2⟩
      have rs := stH_name (HS1.out.kept k2) (tOf_lt c) (k := 3 + i) (by rw [xsH_len, HA.out]; rfl)
      have HV2 : Hid (Kept (fun k => k < w.heap.size) w v2) := HV1.out.trans (k2.mono fun k h => Nat.lt_of_lt_of_le h HV1.out.size)
      clear rnm k2 hc1 HS1 HV1
      go_wp2_with fail
      refine rs.mono ?_
      rintro e v3 ⟨rfl, s3, k3⟩
      rw [← HN.out, xsH_snoc] at s3
      have ri := stH_in (nmC c) (A := (S.take i).map nmC) (by rw [HA.out]; exact s3)
      rw [HA.out, HTM.out, len_take nmC S (by omega)] at ri
      have HV3 : Hid (Kept (fun k => k < w.heap.size) w v3) := HV2.out.trans k3
      clear rs s3 k3 HV2
      go_wp2_with fail
      refine ri.mono ?_
      rintro e v4 ⟨rfl, s4, k4⟩
      have HS4 : Hid (Dst (fun k => k < w.heap.size) v4 p (xsH ((S.take (i + 1)).map nmC) []) (QH (List.range' 3 (i + 1)) [])) := s4
      have HV4 : Hid (Kept (fun k => k < w.heap.size) w v4) := HV3.out.trans k4
      clear ri s4 k4 HV3
      go_wp2
      go_roundg (len0 - (i + 1))
      case rel => exact ⟨i + 1, rfl, by omega, by go_num, HS4.out, HV4.out⟩
      case measure => omega
    · have hin : i = len0 := by omega
      have HS0 : Hid (Dst (fun k => k < w.heap.size) wr p (xsH (S.map nmC) ((T.take 0).map kidC)) (QH (List.range' 3 len0) (List.range' (3 + len0) 0))) := by
        rw [hin, List.take_of_length_le (by rw [HLS.out]; exact Nat.le_refl _)] at hs
        exact hs
      have rl := HS0.out.len
      rw [show (xsH (S.map nmC) ((T.take 0).map kidC)).length = 3 + len0 by rw [xsH_len, List.length_map, HLS.out]; rfl] at rl
      clear hs hK hin
      go_wp2_with fail
      refine rl.mono ?_
      rintro e v1 ⟨rfl, hv1⟩
      replace hv1 := hv1.symm
      subst hv1
      clear rl
      go_upto_region 14 with fail
      go_loopg [13] len1 (fun gh v wx => ∃ i : Nat, gh = len1 - i ∧ i ≤ len1 ∧ v = .int .i64 (i : Int) ∧ Dst (fun k => k < w.heap.size) wx p (xsH (S.map nmC) ((T.take i).map kidC)) (QH (List.range' 3 len0) (List.range' (3 + len0) i)) ∧ Kept (fun k => k < w.heap.size) w wx)
      case atStart => exact ⟨0, rfl, Nat.zero_le _, rfl, HS0.out, HK.out⟩
      case round =>
        clear HS0 HK
        clear hgi hi
        obtain ⟨j, hgj, hj, rfl, hs, hK⟩ := hrel
        have HK : Hid (Kept (fun k => k < w.heap.size) w wr) := hK
        by_cases hjt : j < len1
        · have hjT : j < T.length := by rw [HLT.out]; exact hjt
          have hB : ((T.take j).map kidC).length = j := len_take kidC T (by omega)
          have hA : (S.map nmC).length = len0 := by rw [List.length_map, HLS.out]
          obtain ⟨b, o, rfl, hb, hc⟩ := (HR1.out.kept hK) j hjT
          have HB : Hid (b < w.heap.size) := by
            obtain ⟨b', o', e, hb', _⟩ := HR1.out j hjT
            injection e with e; injection e with e; rw [e]; exact hb'
          have HTM : Hid ((T.take j).map kidC ++ [kidC T[j]] = (T.take (j + 1)).map kidC) := take_map kidC T hjT
          have HLL : Hid (((T.take j).map kidC).length = j ∧ (S.map nmC).length = len0) := ⟨hB, hA⟩
          have HKO : Hid (∀ x ∈ (T.take j).map kidC, KdOk x) := fun x hx => by
            obtain ⟨c, _, rfl⟩ := List.mem_map.1 hx; exact kidC_ok c
          obtain ⟨c, hcc⟩ : ∃ c, T[j] = c := ⟨_, rfl⟩
          rw [hcc] at hc HTM
          have hy := c.toNat_lt
          have HTC : Hid (((c.toNat : Int).tdiv 5).tmod 4 = (tOf c : Int)) := tOf_eq c
          have HIN : Hid (∀ (X : World), Dst (fun k => k < w.heap.size) X p (xsH (S.map nmC) ((T.take (j + 1)).map kidC)) (QH (List.range' 3 len0) (List.range' (3 + len0) j)) → Calls Try.prog 17 #[.pointer (some ⟨p, 0, none⟩), .int .i64 1, .int .i64 ((3 + len0 + j : Nat) : Int), .int .i64 (-1)] X fun e w' => e = .returned (.int .u16 0) ∧ Dst (fun k => k < w.heap.size) w' p (xsH (S.map nmC) ((T.take (j + 1)).map kidC)) (QH (List.range' 3 len0) (List.range' (3 + len0) (j + 1))) ∧ Kept (fun k => k < w.heap.size) X w') := fun X hX => by
            have := stH_kin (A := S.map nmC) (B := (T.take j).map kidC) HKO.out (kidC_ok c) (K := fun k => k < w.heap.size) (w := X) (p := p) (by rw [HTM.out, HLL.out.1, HLL.out.2]; exact hX)
            rw [HTM.out, HLL.out.1, HLL.out.2, len_take kidC T (by omega)] at this
            exact this
          obtain ⟨q, hq⟩ : ∃ q : Nat, (c.toNat : Int).tmod 5 = (q : Int) := ⟨c.toNat % 5, by rw [Int.tmod_eq_emod_of_nonneg (by omega)]; omega⟩
          have hq5 : c.toNat % 5 = q := by rw [Int.tmod_eq_emod_of_nonneg (by omega)] at hq; omega
          obtain ⟨m, hm⟩ : ∃ m, 3 + len0 + j = m := ⟨_, rfl⟩
          by_cases hq0 : q = 0
          · have ek : kidC c = txD [120] := by unfold kidC; rw [if_pos (by omega)]
            have rm := stH_txt (A := S.map nmC) (B := (T.take j).map kidC) (by rw [hA, hB]; exact hs) (by rw [hA, hB]; omega)
            rw [hA, hB, xsH_more, ← ek, HTM.out] at rm
            subst hq0
            rw [hm] at rm HIN
            obtain ⟨y, hyy⟩ : ∃ y, (c.toNat : Int) = y := ⟨_, rfl⟩
            have hy0 : 0 ≤ y ∧ y ≤ 255 := by omega
            obtain ⟨hy0, hy1⟩ := hy0
            rw [hyy] at hc hq
            clear hs hK hB hA hcc hq5 hm ek hyy hy hb HTC
            go_wp2_with fail
            refine rm.mono ?_
            rintro e v1 ⟨rfl, s1, k1⟩
            have ri := HIN.out v1 s1
            have HV1 : Hid (Kept (fun k => k < w.heap.size) w v1) := HK.out.trans k1
            clear rm s1 k1 hc
            go_wp2_with fail
            refine ri.mono ?_
            rintro e v2 ⟨rfl, s2, k2⟩
            have HS2 : Hid (Dst (fun k => k < w.heap.size) v2 p (xsH (S.map nmC) ((T.take (j + 1)).map kidC)) (QH (List.range' 3 len0) (List.range' (3 + len0) (j + 1)))) := s2
            have HV2 : Hid (Kept (fun k => k < w.heap.size) w v2) := HV1.out.trans k2
            clear ri s2 k2
            go_wp2
            go_roundg (len1 - (j + 1))
            case rel => exact ⟨j + 1, rfl, by omega, by go_num, HS2.out, HV2.out⟩
            case measure => omega
          · have ek : kidC c = kdE (nmQ (tOf c)) := by unfold kidC; rw [if_neg (by omega)]; rfl
            have rm := stH_el (A := S.map nmC) (B := (T.take j).map kidC) (by rw [hA, hB]; exact hs) (by rw [hA, hB]; omega)
            rw [hA, hB] at rm
            have HEK : Hid (kidC c = kdE (nmQ (tOf c))) := ek
            rw [hm] at rm HIN
            have HM : Hid (3 + len0 + j = m) := hm
            obtain ⟨y, hyy⟩ : ∃ y, (c.toNat : Int) = y := ⟨_, rfl⟩
            have hy0 : 0 ≤ y ∧ y ≤ 255 := by omega
            obtain ⟨hy0, hy1⟩ := hy0
            rw [hyy] at hc hq HTC
            have hqe : ((q : Int) == 0) = false := by rw [beq_eq_false_iff_ne]; omega
            clear hs hK hB hA hcc hq5 hm ek hyy hy
            go_wp2_with fail
            refine rm.mono ?_
            rintro e v1 ⟨rfl, s1, k1⟩
            have hc1 : v1.cell? ⟨b, o + j, none⟩ = some (.int .u8 y) := (k1.cell (p := ⟨b, o + j, none⟩) HB.out).trans hc
            have rnm := name_any y (tOf c) hy0 hy1 HTC.out v1
            have HS1 : Hid (Dst (fun k => k < w.heap.size) v1 p (xsH (S.map nmC) ((T.take j).map kidC) ++ [elD [98]]) (QH (List.range' 3 len0) (List.range' (3 + len0) j))) := s1
            have HV1 : Hid (Kept (fun k => k < w.heap.size) w v1) := HK.out.trans k1
            clear rm s1 k1 hc HK hb hq hqe
            go_wp2_with fail
            refine rnm.mono ?_
            rintro e v2 ⟨rfl, k2⟩
            have rs := stH_ask (HS1.out.kept k2) (tOf_lt c) (k := m) (by rw [xsH_len, HLL.out.1, HLL.out.2, HM.out])
            rw [xsH_more, ← HEK.out, HTM.out] at rs
            have HV2 : Hid (Kept (fun k => k < w.heap.size) w v2) := HV1.out.trans (k2.mono fun k h => Nat.lt_of_lt_of_le h HV1.out.size)
            clear rnm k2 hc1 HS1 HV1
            go_wp2_with fail
            refine rs.mono ?_
            rintro e v3 ⟨rfl, s3, k3⟩
            have ri := HIN.out v3 s3
            have HV3 : Hid (Kept (fun k => k < w.heap.size) w v3) := HV2.out.trans k3
            clear rs s3 k3 HV2
            go_wp2_with fail
            refine ri.mono ?_
            rintro e v4 ⟨rfl, s4, k4⟩
            have HS4 : Hid (Dst (fun k => k < w.heap.size) v4 p (xsH (S.map nmC) ((T.take (j + 1)).map kidC)) (QH (List.range' 3 len0) (List.range' (3 + len0) (j + 1)))) := s4
            have HV4 : Hid (Kept (fun k => k < w.heap.size) w v4) := HV3.out.trans k4
            clear ri s4 k4
            go_wp2
            go_roundg (len1 - (j + 1))
            case rel => exact ⟨j + 1, rfl, by omega, by go_num, HS4.out, HV4.out⟩
            case measure => omega
        · have hin : j = len1 := by omega
          have HSE : Hid (Dst (fun k => k < w.heap.size) wr p (xsH (S.map nmC) (T.map kidC)) (QH (List.range' 3 S.length) (List.range' (3 + S.length) T.length))) := by
            rw [hin, List.take_of_length_le (by rw [HLT.out]; exact Nat.le_refl _)] at hs
            rw [HLS.out, HLT.out]
            exact hs
          clear hs hK hin
          go_wp2
          go_ret2
          exact ⟨p, rfl, HSE.out, HK.out⟩
end Go.Proofs.Ytljnjdckhkglfaa
