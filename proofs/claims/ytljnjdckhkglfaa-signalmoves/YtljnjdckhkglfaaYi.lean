/-
  The walk of SlotsNames.
-/
import Derived.Test.YtljnjdckhkglfaaYg
import Derived.Test.YtljnjdckhkglfaaP26
namespace Go.Proofs.Ytljnjdckhkglfaa
open Go.RowKit
set_option linter.unusedVariables false
/-- A kid asks for another name. -/
theorem stH_ask2 {K : Nat → Prop} {w : World} {p : Nat} {A : List (List UInt8)} {B : List Nd} {Q : Nat → List Nat} (h : Dst K w p (xsH A B) Q) {j : Nat} (hj : j < B.length) {n : List UInt8} (hB : B[j] = kdE n) (hn : n.length ≤ 100) {t : Nat} (ht : t < 4) {k : Nat} (hk : 3 + A.length + j = k) :
    Calls Try.prog 14 #[.pointer (some ⟨p, 0, none⟩), .int .i64 (k : Int), .string slotBB, .string (nmB t)] w fun e w' => e = .returned (.int .u16 0) ∧ Dst K w' p (xsH A (B.set j (kdE (nmQ t)))) Q ∧ Kept K w w' := by
  subst hk
  have hl := xsH_len A B
  have hlt : 3 + A.length + j < (xsH A B).length := by omega
  have e : (xsH A B)[3 + A.length + j] = kdE n := by rw [xsH_t hj hlt]; exact hB
  refine (h.set (3 + A.length + j) slotBB (nmB t) hlt (by rw [e]; rfl) [⟨slotN, nmQ t⟩] (by rw [e, nmB_list, slotBB_list]; simp [kdE, setA]) (by rw [e]; exact (sound_slotA ht).1) (sound_slotA ht).2 (fun x hx => ?_) (by decide) (nmB_size t)).mono ?_
  · rw [e] at hx
    rw [List.mem_singleton.1 hx]
    exact ⟨by show (4 : Nat) ≤ 1000000000; decide, by show n.length ≤ _; omega⟩
  rintro e' w' ⟨rfl, h', hk⟩
  refine ⟨rfl, ?_, hk⟩
  have es : (xsH A B).set (3 + A.length + j) { (xsH A B)[3 + A.length + j] with attrs := [⟨slotN, nmQ t⟩] } = xsH A (B.set j (kdE (nmQ t))) := by
    rw [e]
    unfold xsH
    rw [List.set_append_right _ _ (by simp [hd3] <;> omega)]
    congr 2
    simp [hd3]; omega
  rw [es] at h'
  exact h'
section
variable {M : Dm} {R G : Nat → List Nat} {rk : Nat → Nat} {S : List UInt8} {B : List Nd} {kd : List Nat}
theorem names_fst2 (hd : Ds M R G (xsH (S.map nmC) B) (QH (List.range' 3 S.length) kd)) {t : Nat} (ht : t < 4) : fstO (fun j => slNm (nmQ t) (M.nd j)) (List.range' 3 S.length) = plcT (S.map tOf) t := by
  have hl : (xsH (S.map nmC) B).length = 3 + S.length + B.length := by rw [xsH_len, List.length_map]
  have := fst_plc (fun j => slNm (nmQ t) (M.nd j)) t (S.map tOf) 3 fun i h => by
    rw [List.length_map] at h
    have e := hd.nd (3 + i) (by omega)
    rw [xsH_s (by rw [List.length_map]; exact h), List.getElem_map] at e
    show slNm (nmQ t) (M.nd (3 + i)) = _
    rw [e, List.getElem_map]
    show (true && decide (nmC S[i] = nmQ t)) = _
    rw [Bool.true_and]
    by_cases c : tOf S[i] = t
    · rw [decide_eq_true c, decide_eq_true (by unfold nmC; rw [c])]
    · rw [decide_eq_false c, decide_eq_false (show nmC S[i] ≠ nmQ t from nmQ_ne (tOf_lt _) ht c)]
  rw [List.length_map] at this
  rw [this]
  rcases plcT_ge (S.map tOf) t with e | e
  · rw [if_pos e, e]
  · rw [if_neg (by omega)]; omega
theorem names_find2 (hd : Ds M R G (xsH (S.map nmC) B) (QH (List.range' 3 S.length) (List.range' (3 + S.length) B.length))) (hI : Inv M R G rk) {j t : Nat} (hj : j < B.length) (ht : t < 4) (hB : B[j] = kdE (nmQ t)) : findI M R ((3 + S.length + j : Nat) : Int) = plcT (S.map tOf) t := by
  have hl : (xsH (S.map nmC) B).length = 3 + S.length + B.length := by rw [xsH_len, List.length_map]
  have e : (xsH (S.map nmC) B)[3 + S.length + j]'(by omega) = kdE (nmQ t) := by
    have := xsH_t (S := S.map nmC) (T := B) (j := j) hj (by rw [List.length_map]; omega)
    simp only [List.length_map] at this
    exact this.trans hB
  rw [host_find hd hI (by omega) (fun k hk => by rw [List.mem_range'_1] at hk; omega) (xsH_1 _) (xsH_2 _) (k := 3 + S.length + j) (by omega) (by rw [List.mem_range'_1]; omega) (by rw [e]; rfl), e]
  exact names_fst2 hd ht
end
set_option maxRecDepth 20000 in
set_option maxHeartbeats 4000000 in
theorem names_long (a0 a1 : Option Addr) (cap0 cap1 len0 len1 : Nat) (z0 z1 : Int) (hl : 30 < len0 ∨ 60 < len1 ∨ len1 = 0) (w : World) :
    Calls Try.prog 3 #[.slice a0 len0 cap0, .slice a1 len1 cap1, .int .u8 z0, .int .u8 z1] w fun e w' => e = .returned (.bool true) ∧ Kept (fun k => k < w.heap.size) w w' := by
  have rk := sknown_any w
  by_cases c0 : 30 < len0
  · have e0 : decide ((len0 : Int) > 30) = true := decide_eq_true (by omega)
    go_enter Try.func3, Try.ntmps3
    go_wp2_with fail
    refine rk.mono ?_
    rintro e w1 ⟨rfl, hk⟩
    clear rk
    go_wp2
    go_ret
    exact ⟨rfl, hk⟩
  · have e0 : decide ((len0 : Int) > 30) = false := decide_eq_false (by omega)
    by_cases c1 : 60 < len1
    · have e1 : decide ((len1 : Int) > 60) = true := decide_eq_true (by omega)
      go_enter Try.func3, Try.ntmps3
      go_wp2_with fail
      refine rk.mono ?_
      rintro e w1 ⟨rfl, hk⟩
      clear rk
      go_wp2
      go_ret
      exact ⟨rfl, hk⟩
    · have hz : len1 = 0 := by omega
      subst hz
      go_enter Try.func3, Try.ntmps3
      go_wp2_with fail
      refine rk.mono ?_
      rintro e w1 ⟨rfl, hk⟩
      clear rk
      go_wp2
      go_ret
      exact ⟨rfl, hk⟩
set_option maxRecDepth 20000 in
set_option maxHeartbeats 4000000 in
theorem names_go (a0 a1 : Option Addr) (cap0 cap1 len0 len1 : Nat) (S T : List UInt8) (c2 c3 : UInt8) (hS : S.length = len0) (hT : T.length = len1) (h30 : len0 ≤ 30) (h60 : len1 ≤ 60) (h0 : 0 < len1) (w : World) (r0 : RowB w a0 S) (r1 : RowB w a1 T) :
    Calls Try.prog 3 #[.slice a0 len0 cap0, .slice a1 len1 cap1, .int .u8 (c2.toNat : Int), .int .u8 (c3.toNat : Int)] w fun e w' => e = .returned (.bool true) ∧ Kept (fun k => k < w.heap.size) w w' := by
  have rk := sknown_any w
  have HR0 : Hid (RowB w a0 S) := r0
  have HR1 : Hid (RowB w a1 T) := r1
  have HLS : Hid (S.length = len0) := hS
  have HLT : Hid (T.length = len1) := hT
  have e0 : decide ((len0 : Int) > 30) = false := decide_eq_false (by omega)
  have e1 : decide ((len1 : Int) > 60) = false := decide_eq_false (by omega)
  have e2 : ((len1 : Int) == 0) = false := by rw [beq_eq_false_iff_ne]; omega
  have b2 := c2.toNat_lt
  have b3 := c3.toNat_lt
  have HT3 : Hid (((c3.toNat : Int).tdiv 5).tmod 4 = (tOf c3 : Int)) := tOf_eq c3
  clear r0 r1 hS hT
  go_enter Try.func3, Try.ntmps3
  go_wp2_with fail
  refine rk.mono ?_
  rintro e w1 ⟨rfl, hk1⟩
  have rh := host_any a0 a1 cap0 cap1 len0 len1 S T HLS.out HLT.out h30 h60 w1 (HR0.out.kept hk1) (HR1.out.kept hk1)
  have HK1 : Hid (Kept (fun k => k < w.heap.size) w w1) := hk1
  clear rk hk1
  go_wp2_with fail
  refine rh.mono ?_
  rintro e w2 ⟨p, rfl, s2, k2⟩
  have HS2 : Hid (Dst (fun k => k < w1.heap.size) w2 p (xsH (S.map nmC) (T.map kidC)) (QH (List.range' 3 S.length) (List.range' (3 + S.length) T.length))) := s2
  have HK2 : Hid (Kept (fun k => k < w1.heap.size) w1 w2) := k2
  have HW2 : Hid (Kept (fun k => k < w.heap.size) w w2) := HK1.out.trans (k2.mono fun k h => Nat.lt_of_lt_of_le h HK1.out.size)
  obtain ⟨f, hf⟩ : ∃ f, 3 + len0 = f := ⟨_, rfl⟩
  have HF : Hid (3 + len0 = f) := hf
  rw [hf]
  clear rh s2 k2 hf
  go_upto_region 7 with fail
  go_loopg [11] len1 (fun gh v wr => ∃ j : Nat, gh = len1 - j ∧ j ≤ len1 ∧ v = .int .i64 (j : Int) ∧ Kept (fun k => k < w2.heap.size) w2 wr)
  case atStart => exact ⟨0, rfl, Nat.zero_le _, rfl, Kept.refl _ _⟩
  case round =>
    obtain ⟨j, hgj, hj, rfl, hK⟩ := hrel
    have HK : Hid (Kept (fun k => k < w2.heap.size) w2 wr) := hK
    have HWR : Hid (Kept (fun k => k < w.heap.size) w wr) := HW2.out.trans (hK.mono fun k h => Nat.lt_of_lt_of_le h HW2.out.size)
    by_cases hjt : j < len1
    · have hjT : j < T.length := by rw [HLT.out]; exact hjt
      obtain ⟨b, o, rfl, hb, hc⟩ := (HR1.out.kept HWR.out) j hjT
      obtain ⟨c, hcc⟩ : ∃ c, T[j] = c := ⟨_, rfl⟩
      rw [hcc] at hc
      have hy := c.toNat_lt
      obtain ⟨M, R, G, rk, hR, hD⟩ := (HS2.out.kept hK).rd
      obtain ⟨m, hm⟩ : ∃ m, 3 + len0 + j = m := ⟨_, rfl⟩
      have hmi : (f : Int) + (j : Int) = (m : Int) := by have := HF.out; omega
      have hmb : m ≤ 100 := by omega
      obtain ⟨v, hv⟩ : ∃ v, plcT (S.map tOf) (tK c) = v := ⟨_, rfl⟩
      have RF : Hid (∀ X, Kept (fun k => k < wr.heap.size) wr X → Calls Try.prog 12 #[.pointer (some ⟨p, 0, none⟩), .int .i64 (m : Int)] X fun e w' => e = .returned (.int .i64 v) ∧ Kept (fun k => k < X.heap.size) X w') := fun X hX => by
        have := (hR.kept hX).find (m : Int)
        have e := names_find hD hR.inv hjT
        rw [HLS.out, hcc, hm, hv] at e
        rw [e] at this
        exact this
      have RP : Hid (∀ X, Kept (fun k => k < wr.heap.size) wr X → Calls Try.prog 13 #[.slice a0 len0 cap0, .string (nmB (tK c))] X fun e w' => e = .returned (.int .i64 v) ∧ Kept (fun k => k < X.heap.size) X w') := fun X hX => by
        have := place_any a0 cap0 S len0 HLS.out (by omega) (tK c) (tK_lt c) X ((HR0.out.kept HWR.out).kept hX)
        rw [hv] at this
        exact this
      have HTC : Hid (((c.toNat : Int).tdiv 5).tmod 4 = (tOf c : Int)) := tOf_eq c
      obtain ⟨q, hq⟩ : ∃ q : Nat, (c.toNat : Int).tmod 5 = (q : Int) := ⟨c.toNat % 5, by rw [Int.tmod_eq_emod_of_nonneg (by omega)]; omega⟩
      have hq5 : c.toNat % 5 = q := by rw [Int.tmod_eq_emod_of_nonneg (by omega)] at hq; omega
      by_cases hq0 : q = 0
      · have et : tK c = 0 := by unfold tK; rw [if_pos (by omega)]
        rw [et] at RP
        have RP0 : Hid (∀ X, Kept (fun k => k < wr.heap.size) wr X → Calls Try.prog 13 #[.slice a0 len0 cap0, .string ⟨#[]⟩] X fun e w' => e = .returned (.int .i64 v) ∧ Kept (fun k => k < X.heap.size) X w') := RP
        have rf := RF.out wr (Kept.refl _ _)
        obtain ⟨y, hyy⟩ : ∃ y, (c.toNat : Int) = y := ⟨_, rfl⟩
        have hy0 : 0 ≤ y ∧ y ≤ 255 := by omega
        obtain ⟨hy0, hy1⟩ := hy0
        rw [hyy] at hc hq
        subst hq0
        clear hR hD hK hcc hy hm hv hq5 et RP hyy HTC b2 b3
        go_wp2_with fail
        refine rf.mono ?_
        rintro e v1 ⟨rfl, k1⟩
        have rp := RP0.out v1 k1
        have HV1 : Hid (Kept (fun k => k < w2.heap.size) w2 v1) := HK.out.trans (k1.mono fun k h => Nat.lt_of_lt_of_le h HK.out.size)
        clear rf k1 hc
        go_wp2_with fail
        refine rp.mono ?_
        rintro e v2 ⟨rfl, k2⟩
        have HV2 : Hid (Kept (fun k => k < w2.heap.size) w2 v2) := HV1.out.trans (k2.mono fun k h => Nat.lt_of_lt_of_le h HV1.out.size)
        clear rp k2
        go_wp2
        go_roundg (len1 - (j + 1))
        case rel => exact ⟨j + 1, rfl, by omega, by go_num, HV2.out⟩
        case measure => omega
      · have et : tK c = tOf c := by unfold tK; rw [if_neg (by omega)]
        rw [et] at RP
        obtain ⟨y, hyy⟩ : ∃ y, (c.toNat : Int) = y := ⟨_, rfl⟩
        have hy0 : 0 ≤ y ∧ y ≤ 255 := by omega
        obtain ⟨hy0, hy1⟩ := hy0
        rw [hyy] at hc hq HTC
        have hqe : ((q : Int) == 0) = false := by rw [beq_eq_false_iff_ne]; omega
        have hqn : ((q : Int) != 0) = true := by simp [bne, hqe]
        have rn := name_any y (tOf c) hy0 hy1 HTC.out wr
        clear hR hD hK hcc hy hm hv hq5 et hyy HTC b2 b3
        go_wp2_with fail
        refine rn.mono ?_
        rintro e v0 ⟨rfl, k0⟩
        have rf := RF.out v0 k0
        have HV0 : Hid (Kept (fun k => k < wr.heap.size) wr v0) := k0
        clear rn k0 hc hq hqe hqn
        go_wp2_with fail
        refine rf.mono ?_
        rintro e v1 ⟨rfl, k1⟩
        have kw1 : Kept (fun k => k < wr.heap.size) wr v1 := HV0.out.trans (k1.mono fun k h => Nat.lt_of_lt_of_le h HV0.out.size)
        have rp := RP.out v1 kw1
        have HV1 : Hid (Kept (fun k => k < w2.heap.size) w2 v1) := HK.out.trans (kw1.mono fun k h => Nat.lt_of_lt_of_le h HK.out.size)
        clear rf k1 kw1
        go_wp2_with fail
        refine rp.mono ?_
        rintro e v2 ⟨rfl, k2⟩
        have HV2 : Hid (Kept (fun k => k < w2.heap.size) w2 v2) := HV1.out.trans (k2.mono fun k h => Nat.lt_of_lt_of_le h HV1.out.size)
        clear rp k2
        go_wp2
        go_roundg (len1 - (j + 1))
        case rel => exact ⟨j + 1, rfl, by omega, by go_num, HV2.out⟩
        case measure => omega
    · clear hgj hj
      obtain ⟨x, hx⟩ : ∃ x : Nat, (c2.toNat : Int).tmod (len1 : Int) = (x : Int) := ⟨c2.toNat % len1, by rw [Int.tmod_eq_emod_of_nonneg (by omega)]; exact (Int.natCast_emod ..).symm⟩
      have hxl : x < len1 := by
        rw [Int.tmod_eq_emod_of_nonneg (by omega)] at hx
        have := Int.emod_lt_of_pos (c2.toNat : Int) (show (0 : Int) < (len1 : Int) by omega)
        omega
      have hxT : x < T.length := by rw [HLT.out]; exact hxl
      obtain ⟨b, o, rfl, hb, hc⟩ := (HR1.out.kept HWR.out) x hxT
      obtain ⟨c, hcc⟩ : ∃ c, T[x] = c := ⟨_, rfl⟩
      rw [hcc] at hc
      have hy := c.toNat_lt
      obtain ⟨q, hq⟩ : ∃ q : Nat, (c.toNat : Int).tmod 5 = (q : Int) := ⟨c.toNat % 5, by rw [Int.tmod_eq_emod_of_nonneg (by omega)]; omega⟩
      have hq5 : c.toNat % 5 = q := by rw [Int.tmod_eq_emod_of_nonneg (by omega)] at hq; omega
      obtain ⟨y, hyy⟩ : ∃ y, (c.toNat : Int) = y := ⟨_, rfl⟩
      have hy0 : 0 ≤ y ∧ y ≤ 255 := by omega
      obtain ⟨hy0, hy1⟩ := hy0
      obtain ⟨y2, hy2⟩ : ∃ y2, (c2.toNat : Int) = y2 := ⟨_, rfl⟩
      have hy20 : 0 ≤ y2 ∧ y2 ≤ 255 := by omega
      obtain ⟨hy20, hy21⟩ := hy20
      have hl0 : ¬ ((len1 : Int) = 0) := by omega
      by_cases hq0 : q = 0
      · rw [hyy] at hc hq
        rw [hy2] at hx ⊢
        subst hq0
        clear hK hcc hy hyy hq5 hy2 b2 b3
        go_wp2
        go_ret
        exact ⟨rfl, HWR.out⟩
      · have et : kidC c = kdE (nmQ (tOf c)) := by unfold kidC; rw [if_neg (by omega)]; rfl
        have hBx : (T.map kidC)[x]'(by rw [List.length_map]; exact hxT) = kdE (nmQ (tOf c)) := by rw [List.getElem_map, hcc, et]
        obtain ⟨m, hm⟩ : ∃ m, 3 + len0 + x = m := ⟨_, rfl⟩
        have hmi : (f : Int) + (x : Int) = (m : Int) := by have := HF.out; omega
        have hmb : m ≤ 100 := by omega
        have HSR : Hid (Dst (fun k => k < w1.heap.size) wr p (xsH (S.map nmC) (T.map kidC)) (QH (List.range' 3 S.length) (List.range' (3 + S.length) T.length))) := HS2.out.kept HK.out
        have HBX : Hid ((T.map kidC)[x]'(by rw [List.length_map]; exact hxT) = kdE (nmQ (tOf c))) := hBx
        have HM : Hid (3 + len0 + x = m) := hm
        obtain ⟨y3, hy3⟩ : ∃ y3, (c3.toNat : Int) = y3 := ⟨_, rfl⟩
        have hy30 : 0 ≤ y3 ∧ y3 ≤ 255 := by omega
        obtain ⟨hy30, hy31⟩ := hy30
        have HT4 : Hid ((y3.tdiv 5).tmod 4 = (tOf c3 : Int)) := by rw [← hy3]; exact HT3.out
        rw [hyy] at hc hq
        rw [hy2] at hx ⊢
        rw [hy3]
        have hqe : ((q : Int) == 0) = false := by rw [beq_eq_false_iff_ne]; omega
        have rn := name_any y3 (tOf c3) hy30 hy31 HT4.out wr
        clear hK hcc hy hyy hq5 hy2 hy3 b2 b3 et hBx hm HT3
        go_wp2_with fail
        refine rn.mono ?_
        rintro e v0 ⟨rfl, k0⟩
        have rs := stH_ask2 (HSR.out.kept k0) (j := x) (by rw [List.length_map]; exact hxT) HBX.out (by unfold nmQ; split; exact Nat.zero_le _; split; exact Nat.le_add_left 1 99; split <;> exact Nat.le_add_left 1 99) (tOf_lt c3) (k := m) (by rw [List.length_map, HLS.out]; exact HM.out)
        have HV0 : Hid (Kept (fun k => k < w.heap.size) w v0) := HWR.out.trans (k0.mono fun k h => Nat.lt_of_lt_of_le h HWR.out.size)
        clear rn k0 hc hq hqe HWR HK HSR
        go_wp2_with fail
        refine rs.mono ?_
        rintro e v1 ⟨rfl, s1, k1⟩
        have HV1 : Hid (Kept (fun k => k < w.heap.size) w v1) := HV0.out.trans (k1.mono fun k h => Nat.lt_of_lt_of_le h HK1.out.size)
        obtain ⟨M, R, G, rk, hR, hD⟩ := s1.rd
        have rf := hR.find (m : Int)
        obtain ⟨v, hv⟩ : ∃ v, plcT (S.map tOf) (tOf c3) = v := ⟨_, rfl⟩
        have ef := names_find2 (S := S) (B := (T.map kidC).set x (kdE (nmQ (tOf c3)))) (by rw [List.length_set, List.length_map]; exact hD) hR.inv (j := x) (t := tOf c3) (by rw [List.length_set, List.length_map]; exact hxT) (tOf_lt c3) (by rw [List.getElem_set_self])
        rw [HLS.out, HM.out, hv] at ef
        rw [ef] at rf
        have RN : Hid (∀ X, Calls Try.prog 11 #[.int .u8 y3] X fun e w' => e = .returned (.string (nmB (tOf c3))) ∧ Kept (fun k => k < X.heap.size) X w') := fun X => name_any y3 (tOf c3) hy30 hy31 HT4.out X
        have RP : Hid (∀ X, Kept (fun k => k < w.heap.size) w X → Calls Try.prog 13 #[.slice a0 len0 cap0, .string (nmB (tOf c3))] X fun e w' => e = .returned (.int .i64 v) ∧ Kept (fun k => k < X.heap.size) X w') := fun X hX => by
          have := place_any a0 cap0 S len0 HLS.out (by omega) (tOf c3) (tOf_lt c3) X (HR0.out.kept hX)
          rw [hv] at this
          exact this
        clear rs s1 k1 hR hD ef hv HV0
        go_wp2_with fail
        refine rf.mono ?_
        rintro e v2 ⟨rfl, k2⟩
        have rn := RN.out v2
        have HV2 : Hid (Kept (fun k => k < w.heap.size) w v2) := HV1.out.trans (k2.mono fun k h => Nat.lt_of_lt_of_le h HV1.out.size)
        clear rf k2
        go_wp2_with fail
        refine rn.mono ?_
        rintro e v3 ⟨rfl, k3⟩
        have kv3 : Kept (fun k => k < w.heap.size) w v3 := HV2.out.trans (k3.mono fun k h => Nat.lt_of_lt_of_le h HV2.out.size)
        have rp := RP.out v3 kv3
        have HV3 : Hid (Kept (fun k => k < w.heap.size) w v3) := kv3
        clear rn k3 kv3
        go_wp2_with fail
        refine rp.mono ?_
        rintro e v4 ⟨rfl, k4⟩
        have HV4 : Hid (Kept (fun k => k < w.heap.size) w v4) := HV3.out.trans (k4.mono fun k h => Nat.lt_of_lt_of_le h HV3.out.size)
        clear rp k4
        go_wp2
        go_ret
        exact ⟨by simp, HV4.out⟩
end Go.Proofs.Ytljnjdckhkglfaa
