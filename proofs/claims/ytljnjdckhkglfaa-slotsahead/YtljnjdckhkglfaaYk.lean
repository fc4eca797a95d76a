/-
  The walk of SlotsAhead, where there is no slot of the name.
-/
import Derived.Test.YtljnjdckhkglfaaYj
import Derived.Test.YtljnjdckhkglfaaP26
namespace Go.Proofs.Ytljnjdckhkglfaa
open Go.RowKit
set_option linter.unusedVariables false
abbrev Ka (B : Nat) (ao : Option Addr) (k : Nat) : Prop := k < B ∨ blkOf ao k
abbrev K2 (B : Nat) (ao a1 : Option Addr) (k : Nat) : Prop := k < B ∨ blkOf ao k ∨ blkOf a1 k
theorem stA_none {M : Dm} {R G : Nat → List Nat} {rk : Nat → Nat} {S T : List UInt8} {t x : Nat} (hd : Ds M R G (xsH (S.map nmC) (T.map kidC ++ [slN1 (nmQ t)])) (QH (List.range' 3 S.length) (List.range' (3 + S.length) T.length))) (hI : Inv M R G rk) (hx : 3 + S.length + T.length = x) : asgI M R G (x : Int) = [] := by
  have hl := xsE_len (S := S) (T := T) (E := [slN1 (nmQ t)])
  rw [List.length_singleton] at hl
  subst hx
  refine aheadE_out hd hI rfl (by omega) ?_
  have := xsH_t (S := S.map nmC) (T := T.map kidC ++ [slN1 (nmQ t)]) (j := T.length) (by simp) (by rw [List.length_map]; omega)
  simp only [List.length_map] at this
  rw [this, List.getElem_append_right (by simp)]
  simp [slN1, slA, elD, Mk.nd, Nd.new]
set_option maxRecDepth 20000 in
set_option maxHeartbeats 4000000 in
theorem ahead_long (a0 a1 : Option Addr) (cap0 cap1 len0 len1 : Nat) (z0 : Int) (hl : 30 < len0 ∨ 60 < len1 ∨ len0 = 0) (w : World) :
    Calls Try.prog 4 #[.slice a0 len0 cap0, .slice a1 len1 cap1, .int .u8 z0] w fun e w' => e = .returned (.bool true) ∧ Kept (fun k => k < w.heap.size) w w' := by
  have rk := sknown_any w
  by_cases c0 : 30 < len0
  · have e0 : decide ((len0 : Int) > 30) = true := decide_eq_true (by omega)
    go_enter Try.func4, Try.ntmps4
    go_wp2_with fail
    refine rk.mono ?_
    rintro e w1 ⟨rfl, hk⟩
    clear rk
    go_wp2
    go_ret
    exact ⟨rfl, hk⟩
  · have e0 : decide ((len0 : Int) > 30) = false := decide_eq_false (by omega)
    by_cases c1 : 60 < len1
    · have e1 : decide ((len1 : Int) > 60) = true := decide_eq_true (by omega)
      go_enter Try.func4, Try.ntmps4
      go_wp2_with fail
      refine rk.mono ?_
      rintro e w1 ⟨rfl, hk⟩
      clear rk
      go_wp2
      go_ret
      exact ⟨rfl, hk⟩
    · have hz : len0 = 0 := by omega
      have e1 : decide ((len1 : Int) > 60) = false := decide_eq_false (by omega)
      subst hz
      go_enter Try.func4, Try.ntmps4
      go_wp2_with fail
      refine rk.mono ?_
      rintro e w1 ⟨rfl, hk⟩
      clear rk
      go_wp2
      go_ret
      exact ⟨rfl, hk⟩
set_option maxRecDepth 20000 in
set_option maxHeartbeats 4000000 in
theorem ahead_no (a0 a1 : Option Addr) (cap0 cap1 len0 len1 : Nat) (S T : List UInt8) (c2 : UInt8) (hS : S.length = len0) (hT : T.length = len1) (h30 : len0 ≤ 30) (h60 : len1 ≤ 60) (h0 : 0 < len0) (ep : plcT (S.map tOf) (tOf c2) = -1) (w : World) (r0 : RowB w a0 S) (r1 : RowB w a1 T) :
    Calls Try.prog 4 #[.slice a0 len0 cap0, .slice a1 len1 cap1, .int .u8 (c2.toNat : Int)] w fun e w' => e = .returned (.bool true) ∧ Kept (fun k => k < w.heap.size) w w' := by
  have rk := sknown_any w
  have HR0 : Hid (RowB w a0 S) := r0
  have HR1 : Hid (RowB w a1 T) := r1
  have HLS : Hid (S.length = len0) := hS
  have HLT : Hid (T.length = len1) := hT
  have e0 : decide ((len0 : Int) > 30) = false := decide_eq_false (by omega)
  have e1 : decide ((len1 : Int) > 60) = false := decide_eq_false (by omega)
  have e2 : ((len0 : Int) == 0) = false := by rw [beq_eq_false_iff_ne]; omega
  have b2 := c2.toNat_lt
  have HTC0 : Hid (((c2.toNat : Int).tdiv 5).tmod 4 = (tOf c2 : Int)) := tOf_eq c2
  obtain ⟨y, hy⟩ : ∃ y, (c2.toNat : Int) = y := ⟨_, rfl⟩
  have hy0 : 0 ≤ y ∧ y ≤ 255 := by omega
  obtain ⟨hy0, hy1⟩ := hy0
  rw [hy] at HTC0 ⊢
  have ht4 := tOf_lt c2
  obtain ⟨t, htt⟩ : ∃ t, tOf c2 = t := ⟨_, rfl⟩
  rw [htt] at ep HTC0 ht4
  have HT4 : Hid (t < 4) := ht4
  have RN : Hid (∀ X, Calls Try.prog 11 #[.int .u8 y] X fun e w' => e = .returned (.string (nmB t)) ∧ Kept (fun k => k < X.heap.size) X w') := fun X => name_any y t hy0 hy1 HTC0.out X
  have HEP : Hid (plcT (S.map tOf) t = -1) := ep
  clear ep
  have RP : Hid (∀ X, Kept (fun k => k < w.heap.size) w X → Calls Try.prog 13 #[.slice a0 len0 cap0, .string (nmB t)] X fun e w' => e = .returned (.int .i64 (-1)) ∧ Kept (fun k => k < X.heap.size) X w') := fun X hX => by
    have := place_any a0 cap0 S len0 HLS.out (by omega) t HT4.out X (HR0.out.kept hX)
    rw [HEP.out] at this
    exact this
  obtain ⟨x, hx⟩ : ∃ x, 3 + len0 + len1 = x := ⟨_, rfl⟩
  have HX : Hid (3 + S.length + T.length = x) := by rw [HLS.out, HLT.out]; exact hx
  have hxb : x ≤ 100 := by omega
  obtain ⟨fi, hfi⟩ : ∃ fi, 3 + len0 = fi := ⟨_, rfl⟩
  have HFI : Hid (3 + len0 = fi) := hfi
  clear r0 r1 hS hT b2 hy htt ht4 HTC0 hx hfi
  go_enter Try.func4, Try.ntmps4
  go_wp2_with fail
  refine rk.mono ?_
  rintro e w1 ⟨rfl, hk1⟩
  have rh := host_any a0 a1 cap0 cap1 len0 len1 S T HLS.out HLT.out h30 h60 w1 (HR0.out.kept hk1) (HR1.out.kept hk1)
  have HK1 : Hid (Kept (fun k => k < w.heap.size) w w1) := hk1
  clear rk hk1
  go_wp2_with fail
  refine rh.mono ?_
  rintro e w2 ⟨p, rfl, s2, k2⟩
  have HS2 : Hid (Dst (fun k => k < w1.heap.size) w2 p (xsH (S.map nmC) (T.map kidC)) (QH (List.range' 3 S.length) (List.range' (3 + S.length) T.length))) := s2
  have HW2 : Hid (Kept (fun k => k < w.heap.size) w w2) := HK1.out.trans (k2.mono fun k h => Nat.lt_of_lt_of_le h HK1.out.size)
  rw [HFI.out]
  have rn := RN.out w2
  clear rh s2 k2
  go_wp2_with fail
  refine rn.mono ?_
  rintro e w3 ⟨rfl, k3⟩
  have kw3 : Kept (fun k => k < w.heap.size) w w3 := HW2.out.trans (k3.mono fun k h => Nat.lt_of_lt_of_le h HW2.out.size)
  have HS3 : Hid (Dst (fun k => k < w1.heap.size) w3 p (xsH (S.map nmC) (T.map kidC)) (QH (List.range' 3 S.length) (List.range' (3 + S.length) T.length))) := HS2.out.kept k3
  have rp := RP.out w3 kw3
  have HW3 : Hid (Kept (fun k => k < w.heap.size) w w3) := kw3
  clear rn k3 kw3 HS2 HW2
  go_wp2_with fail
  refine rp.mono ?_
  rintro e w4 ⟨rfl, k4⟩
  have HW4 : Hid (Kept (fun k => k < w.heap.size) w w4) := HW3.out.trans (k4.mono fun k h => Nat.lt_of_lt_of_le h HW3.out.size)
  have s4 := HS3.out.kept k4
  clear rp k4 HS3 HW3
  have HW5 : Hid (Kept (fun k => k < w.heap.size) w w4) := HW4.out
  have rm := stA_make s4 (by rw [HLS.out, HLT.out]; omega)
  clear s4 HW4
  rw [HX.out] at rm
  go_wp2_with fail
  refine rm.mono ?_
  rintro e w6 ⟨rfl, s6, k6⟩
  have rn := RN.out w6
  have HS6 : Hid (Dst (fun k => k < w1.heap.size) w6 p (xsH (S.map nmC) (T.map kidC) ++ [elD slotN]) (QH (List.range' 3 S.length) (List.range' (3 + S.length) T.length))) := s6
  have HW6 : Hid (Kept (fun k => k < w.heap.size) w w6) := HW5.out.trans (k6.mono fun k h => Nat.lt_of_lt_of_le h HK1.out.size)
  clear rm s6 k6 HW5 
  go_wp2_with fail
  refine rn.mono ?_
  rintro e w7 ⟨rfl, k7⟩
  have rs := stH_name (HS6.out.kept k7) HT4.out (k := x) (by rw [xsH_len, List.length_map, List.length_map]; exact HX.out)
  rw [xsH_more] at rs
  have HW7 : Hid (Kept (fun k => k < w.heap.size) w w7) := HW6.out.trans (k7.mono fun k h => Nat.lt_of_lt_of_le h HW6.out.size)
  clear rn k7 HS6 HW6 
  go_wp2_with fail
  refine rs.mono ?_
  rintro e w8 ⟨rfl, s8, k8⟩
  have ri := stA_in s8 (by rw [HLS.out]; exact h0)
  rw [HX.out] at ri
  have HW8 : Hid (Kept (fun k => k < w.heap.size) w w8) := HW7.out.trans (k8.mono fun k h => Nat.lt_of_lt_of_le h HK1.out.size)
  clear rs s8 k8 HW7 
  go_wp2_with fail
  refine ri.mono ?_
  rintro e w9 ⟨rfl, s9, k9⟩
  obtain ⟨M, R, G, rk, hR, hD⟩ := s9.rd
  have ra := hR.assigned (x : Int)
  have en := aheadE_new (S := S) (T := T) (t := t) (by rw [HX.out]; exact hD) hR.inv
  rw [HX.out] at en
  rw [en.1] at ra
  have HS9 : Hid (Dst (fun k => k < w1.heap.size) w9 p (xsH (S.map nmC) (T.map kidC ++ [slN1 (nmQ t)])) (QH (x :: List.range' 3 S.length) (List.range' (3 + S.length) T.length))) := s9
  have HW9 : Hid (Kept (fun k => k < w.heap.size) w w9) := HW8.out.trans (k9.mono fun k h => Nat.lt_of_lt_of_le h HK1.out.size)
  clear ri s9 k9 HW8 hR hD en 
  go_wp2_with fail
  refine ra.mono ?_
  rintro e wA ⟨na, nc, rfl, hOn, hkA⟩
  have rr := stA_out (S := S) (T := T) (t := t) (by rw [HX.out]; exact HS9.out.kept hkA)
  rw [HX.out] at rr
  have HWA : Hid (Kept (fun k => k < w.heap.size) w wA) := HW9.out.trans (hkA.mono fun k h => Nat.lt_of_lt_of_le h HW9.out.size)
  clear ra hOn hkA HS9 HW9
  go_wp2_with fail
  refine rr.mono ?_
  rintro e wC ⟨rfl, sC, kC⟩
  have HWC : Hid (Kept (fun k => k < w.heap.size) w wC) := HWA.out.trans (kC.mono fun k h => Nat.lt_of_lt_of_le h HK1.out.size)
  obtain ⟨M, R, G, rk, hR, hD⟩ := sC.rd
  have ro := hR.assigned (x : Int)
  rw [stA_none hD hR.inv HX.out] at ro
  clear rr sC kC hR hD HWA
  go_wp2_with fail
  refine ro.mono ?_
  rintro e x4 ⟨az, cz, rfl, -, kx4⟩
  have HX4 : Hid (Kept (fun k => k < w.heap.size) w x4) := HWC.out.trans (kx4.mono fun k h => Nat.lt_of_lt_of_le h HWC.out.size)
  clear ro kx4
  go_wp2
  go_ret
  exact ⟨rfl, HX4.out⟩
end Go.Proofs.Ytljnjdckhkglfaa
