/-
  The walk of SlotsAhead, where there is a slot of the name.
-/
import Derived.Test.YtljnjdckhkglfaaYk
import Derived.Test.YtljnjdckhkglfaaP26
namespace Go.Proofs.Ytljnjdckhkglfaa
open Go.RowKit
set_option linter.unusedVariables false
set_option maxRecDepth 20000 in
set_option maxHeartbeats 4000000 in
theorem ahead_yes (a0 a1 : Option Addr) (cap0 cap1 len0 len1 : Nat) (S T : List UInt8) (c2 : UInt8) (hS : S.length = len0) (hT : T.length = len1) (h30 : len0 ≤ 30) (h60 : len1 ≤ 60) (h0 : 0 < len0) (i : Nat) (hi : i < S.length) (et : tOf S[i] = tOf c2) (ep : plcT (S.map tOf) (tOf c2) = 3 + (i : Int)) (w : World) (r0 : RowB w a0 S) (r1 : RowB w a1 T) :
    Calls Try.prog 4 #[.slice a0 len0 cap0, .slice a1 len1 cap1, .int .u8 (c2.toNat : Int)] w fun e w' => e = .returned (.bool true) ∧ Kept (fun k => k < w.heap.size) w w' := by
  have rk := sknown_any w
  have HR0 : Hid (RowB w a0 S) := r0
  have HR1 : Hid (RowB w a1 T) := r1
  have HLS : Hid (S.length = len0) := hS
  have HLT : Hid (T.length = len1) := hT
  have e0 : decide ((len0 : Int) > 30) = false := decide_eq_false (by omega)
  have e1 : decide ((len1 : Int) > 60) = false := decide_eq_false (by omega)
  have e2 : ((len0 : Int) == 0) = false := by rw [beq_eq_false_iff_ne]; omega
  have b2 := c2.toNat_lt
  have HTC0 : Hid (((c2.toNat : Int).tdiv 5).tmod 4 = (tOf c2 : Int)) := tOf_eq c2
  obtain ⟨y, hy⟩ : ∃ y, (c2.toNat : Int) = y := ⟨_, rfl⟩
  have hy0 : 0 ≤ y ∧ y ≤ 255 := by omega
  obtain ⟨hy0, hy1⟩ := hy0
  rw [hy] at HTC0 ⊢
  have ht4 := tOf_lt c2
  obtain ⟨t, htt⟩ : ∃ t, tOf c2 = t := ⟨_, rfl⟩
  rw [htt] at ep HTC0 ht4 et
  have HT4 : Hid (t < 4) := ht4
  have RN : Hid (∀ X, Calls Try.prog 11 #[.int .u8 y] X fun e w' => e = .returned (.string (nmB t)) ∧ Kept (fun k => k < X.heap.size) X w') := fun X => name_any y t hy0 hy1 HTC0.out X
  obtain ⟨od, hod⟩ : ∃ od, 3 + i = od := ⟨_, rfl⟩
  have HOD : Hid (3 + i = od ∧ i < S.length) := ⟨hod, hi⟩
  have hodb : od ≤ 100 := by omega
  have hog : decide ((od : Int) ≥ 0) = true := decide_eq_true (by omega)
  have hol : decide ((od : Int) < 0) = false := decide_eq_false (by omega)
  have hep : plcT (S.map tOf) t = (od : Int) := by rw [ep]; omega
  have HEP : Hid (plcT (S.map tOf) t = (od : Int)) := hep
  have HEI : Hid (plcT (S.map tOf) t = 3 + (i : Int)) := ep
  have HET : Hid (tOf S[i] = t ∧ tOf (S.getD i 0) = t) := ⟨et, by rw [show S.getD i 0 = S[i] by simp [hi]]; exact et⟩
  clear hod ep et hep
  have RP : Hid (∀ X, Kept (fun k => k < w.heap.size) w X → Calls Try.prog 13 #[.slice a0 len0 cap0, .string (nmB t)] X fun e w' => e = .returned (.int .i64 (od : Int)) ∧ Kept (fun k => k < X.heap.size) X w') := fun X hX => by
    have := place_any a0 cap0 S len0 HLS.out (by omega) t HT4.out X (HR0.out.kept hX)
    rw [HEP.out] at this
    exact this
  obtain ⟨x, hx⟩ : ∃ x, 3 + len0 + len1 = x := ⟨_, rfl⟩
  have HX : Hid (3 + S.length + T.length = x) := by rw [HLS.out, HLT.out]; exact hx
  have hxb : x ≤ 100 := by omega
  obtain ⟨fi, hfi⟩ : ∃ fi, 3 + len0 = fi := ⟨_, rfl⟩
  have HFI : Hid (3 + len0 = fi) := hfi
  clear r0 r1 hS hT b2 hy htt ht4 HTC0 hx hfi
  go_enter Try.func4, Try.ntmps4
  go_wp2_with fail
  refine rk.mono ?_
  rintro e w1 ⟨rfl, hk1⟩
  have rh := host_any a0 a1 cap0 cap1 len0 len1 S T HLS.out HLT.out h30 h60 w1 (HR0.out.kept hk1) (HR1.out.kept hk1)
  have HK1 : Hid (Kept (fun k => k < w.heap.size) w w1) := hk1
  clear rk hk1
  go_wp2_with fail
  refine rh.mono ?_
  rintro e w2 ⟨p, rfl, s2, k2⟩
  have HS2 : Hid (Dst (fun k => k < w1.heap.size) w2 p (xsH (S.map nmC) (T.map kidC)) (QH (List.range' 3 S.length) (List.range' (3 + S.length) T.length))) := s2
  have HW2 : Hid (Kept (fun k => k < w.heap.size) w w2) := HK1.out.trans (k2.mono fun k h => Nat.lt_of_lt_of_le h HK1.out.size)
  rw [HFI.out]
  have rn := RN.out w2
  clear rh s2 k2
  go_wp2_with fail
  refine rn.mono ?_
  rintro e w3 ⟨rfl, k3⟩
  have kw3 : Kept (fun k => k < w.heap.size) w w3 := HW2.out.trans (k3.mono fun k h => Nat.lt_of_lt_of_le h HW2.out.size)
  have HS3 : Hid (Dst (fun k => k < w1.heap.size) w3 p (xsH (S.map nmC) (T.map kidC)) (QH (List.range' 3 S.length) (List.range' (3 + S.length) T.length))) := HS2.out.kept k3
  have rp := RP.out w3 kw3
  have HW3 : Hid (Kept (fun k => k < w.heap.size) w w3) := kw3
  clear rn k3 kw3 HS2 HW2
  go_wp2_with fail
  refine rp.mono ?_
  rintro e w4 ⟨rfl, k4⟩
  have HW4 : Hid (Kept (fun k => k < w.heap.size) w w4) := HW3.out.trans (k4.mono fun k h => Nat.lt_of_lt_of_le h HW3.out.size)
  have s4 := HS3.out.kept k4
  clear rp k4 HS3 HW3
  obtain ⟨n, hn⟩ : ∃ n, (askL S.length T t).length = n := ⟨_, rfl⟩
  have hn60 : n ≤ 60 := by have := askL_len S.length T t; rw [HLT.out] at this; omega
  have HN : Hid ((askL S.length T t).length = n) := hn
  obtain ⟨M, R, G, rk, hR, hD⟩ := s4.rd
  have ra := hR.assigned (od : Int)
  have ea := namesE_asg (S := S) (T := T) (E := []) (by rw [List.append_nil]; exact hD) hR.inv HOD.out.2
  rw [HET.out.1, if_pos HEI.out, HOD.out.1] at ea
  rw [ea] at ra
  have HS4 : Hid (Dst (fun k => k < w1.heap.size) w4 p (xsH (S.map nmC) (T.map kidC)) (QH (List.range' 3 S.length) (List.range' (3 + S.length) T.length))) := s4
  clear hR hD ea s4 hn
  go_wp2_with fail
  refine ra.mono ?_
  rintro e w5 ⟨wa, wc, rfl, hOa, hk5⟩
  rw [HN.out] at hOa ⊢
  have s5 : Dst (Ka w1.heap.size wa) w5 p (xsH (S.map nmC) (T.map kidC)) (QH (List.range' 3 S.length) (List.range' (3 + S.length) T.length)) := HS4.out.more hk5 (fun k hk => by
    rcases hk with h | h
    · exact .inl h
    · exact .inr (Nat.le_of_not_lt (hOa.out h).1)) (fun k hk => by
    rcases hk with h | h
    · exact Nat.lt_of_lt_of_le (HS4.out.lt k h) hk5.size
    · exact (hOa.out h).2)
  have rm := stA_make s5 (by rw [HLS.out, HLT.out]; omega)
  have HOA : Hid (OwnZ (fun k => k < w4.heap.size) w5 3 1 wa n wc (ivs (askL S.length T t))) := hOa
  have HW5 : Hid (Kept (fun k => k < w.heap.size) w w5) := HW4.out.trans (hk5.mono fun k h => Nat.lt_of_lt_of_le h HW4.out.size)
  have HLE : Hid (w1.heap.size ≤ w4.heap.size) := by
    rcases Nat.lt_or_ge w4.heap.size w1.heap.size with h | h
    · exact absurd (HS4.out.lt w4.heap.size h) (Nat.lt_irrefl _)
    · exact h
  clear ra hOa hk5 s5 HW4
  rw [HX.out] at rm
  go_wp2_with fail
  refine rm.mono ?_
  rintro e w6 ⟨rfl, s6, k6⟩
  have rn := RN.out w6
  have HS6 : Hid (Dst (Ka w1.heap.size wa) w6 p (xsH (S.map nmC) (T.map kidC) ++ [elD slotN]) (QH (List.range' 3 S.length) (List.range' (3 + S.length) T.length))) := s6
  have HW6 : Hid (Kept (fun k => k < w.heap.size) w w6) := HW5.out.trans (k6.mono fun k h => .inl (Nat.lt_of_lt_of_le h HK1.out.size))
  have HO6 : Hid (OwnZ (fun k => k < w4.heap.size) w6 3 1 wa n wc (ivs (askL S.length T t))) := HOA.out.to (fun g hg => (HOA.out.out hg).1) (fun g hg => k6.block g (.inr hg))
  clear rm s6 k6 HW5 HOA HS4
  go_wp2_with fail
  refine rn.mono ?_
  rintro e w7 ⟨rfl, k7⟩
  have rs := stH_name (HS6.out.kept k7) HT4.out (k := x) (by rw [xsH_len, List.length_map, List.length_map]; exact HX.out)
  rw [xsH_more] at rs
  have HW7 : Hid (Kept (fun k => k < w.heap.size) w w7) := HW6.out.trans (k7.mono fun k h => Nat.lt_of_lt_of_le h HW6.out.size)
  have HO7 : Hid (OwnZ (fun k => k < w4.heap.size) w7 3 1 wa n wc (ivs (askL S.length T t))) := HO6.out.to (fun g hg => (HO6.out.out hg).1) (fun g hg => k7.block g (HO6.out.out hg).2)
  clear rn k7 HS6 HW6 HO6
  go_wp2_with fail
  refine rs.mono ?_
  rintro e w8 ⟨rfl, s8, k8⟩
  have ri := stA_in s8 (by rw [HLS.out]; exact h0)
  rw [HX.out] at ri
  have HW8 : Hid (Kept (fun k => k < w.heap.size) w w8) := HW7.out.trans (k8.mono fun k h => .inl (Nat.lt_of_lt_of_le h HK1.out.size))
  have HO8 : Hid (OwnZ (fun k => k < w4.heap.size) w8 3 1 wa n wc (ivs (askL S.length T t))) := HO7.out.to (fun g hg => (HO7.out.out hg).1) (fun g hg => k8.block g (.inr hg))
  clear rs s8 k8 HW7 HO7
  go_wp2_with fail
  refine ri.mono ?_
  rintro e w9 ⟨rfl, s9, k9⟩
  obtain ⟨M, R, G, rk, hR, hD⟩ := s9.rd
  have ra := hR.assigned (x : Int)
  have en := aheadE_new (S := S) (T := T) (t := t) (by rw [HX.out]; exact hD) hR.inv
  rw [HX.out] at en
  rw [en.1] at ra
  have HS9 : Hid (Dst (Ka w1.heap.size wa) w9 p (xsH (S.map nmC) (T.map kidC ++ [slN1 (nmQ t)])) (QH (x :: List.range' 3 S.length) (List.range' (3 + S.length) T.length))) := s9
  have HW9 : Hid (Kept (fun k => k < w.heap.size) w w9) := HW8.out.trans (k9.mono fun k h => .inl (Nat.lt_of_lt_of_le h HK1.out.size))
  have HO9 : Hid (OwnZ (fun k => k < w4.heap.size) w9 3 1 wa n wc (ivs (askL S.length T t))) := HO8.out.to (fun g hg => (HO8.out.out hg).1) (fun g hg => k9.block g (.inr hg))
  have RG : Hid (∀ X, Kept (fun k => k < w9.heap.size) w9 X → Calls Try.prog 15 #[.pointer (some ⟨p, 0, none⟩), .int .i64 (od : Int)] X (Lst X [])) := fun X hX => by
    have := (hR.kept hX).assigned (od : Int)
    have e := en.2 i HOD.out.2 HET.out.2
    rw [HOD.out.1] at e
    rw [e] at this
    exact this
  clear ri s9 k9 HW8 hR hD en HO8
  go_wp2_with fail
  refine ra.mono ?_
  rintro e wA ⟨na, nc, rfl, hOn, hkA⟩
  rw [HN.out] at hOn ⊢
  have rg := RG.out wA hkA
  have HSA : Hid (Dst (K2 w1.heap.size wa na) wA p (xsH (S.map nmC) (T.map kidC ++ [slN1 (nmQ t)])) (QH (x :: List.range' 3 S.length) (List.range' (3 + S.length) T.length))) := HS9.out.more hkA (fun k hk => by
    rcases hk with h | h | h
    · exact .inl (.inl h)
    · exact .inl (.inr h)
    · exact .inr (Nat.le_of_not_lt (hOn.out h).1)) (fun k hk => by
    rcases hk with h | h | h
    · exact Nat.lt_of_lt_of_le (HS9.out.lt k (.inl h)) hkA.size
    · exact Nat.lt_of_lt_of_le (HS9.out.lt k (.inr h)) hkA.size
    · exact (hOn.out h).2)
  have HOA : Hid (OwnZ (fun k => k < w4.heap.size) wA 3 1 wa n wc (ivs (askL S.length T t))) := HO9.out.to (fun g hg => (HO9.out.out hg).1) (fun g hg => hkA.block g (HO9.out.out hg).2)
  have HNA : Hid (OwnZ (fun k => k < w9.heap.size) wA 3 1 na n nc (ivs (askL S.length T t))) := hOn
  have HWA : Hid (Kept (fun k => k < w.heap.size) w wA) := HW9.out.trans (hkA.mono fun k h => Nat.lt_of_lt_of_le h HW9.out.size)
  clear ra hOn hkA HS9 HO9 HW9
  go_wp2_with fail
  refine rg.mono ?_
  rintro e wB ⟨ga, gc, rfl, -, hkB⟩
  have rr := stA_out (S := S) (T := T) (t := t) (by rw [HX.out]; exact HSA.out.kept hkB)
  rw [HX.out] at rr
  have HOB : Hid (OwnZ (fun k => k < w4.heap.size) wB 3 1 wa n wc (ivs (askL S.length T t))) := HOA.out.to (fun g hg => (HOA.out.out hg).1) (fun g hg => hkB.block g (HOA.out.out hg).2)
  have HNB : Hid (OwnZ (fun k => k < w9.heap.size) wB 3 1 na n nc (ivs (askL S.length T t))) := HNA.out.to (fun g hg => (HNA.out.out hg).1) (fun g hg => hkB.block g (HNA.out.out hg).2)
  have HWB : Hid (Kept (fun k => k < w.heap.size) w wB) := HWA.out.trans (hkB.mono fun k h => Nat.lt_of_lt_of_le h HWA.out.size)
  clear rg hkB HSA HOA HNA HWA
  go_wp2_with fail
  refine rr.mono ?_
  rintro e wC ⟨rfl, sC, kC⟩
  have OC : OwnZ (fun k => k < w4.heap.size) wC 3 1 wa n wc (ivs (askL S.length T t)) := HOB.out.to (fun g hg => (HOB.out.out hg).1) (fun g hg => kC.block g (.inr (.inl hg)))
  have NC : OwnZ (fun k => k < w9.heap.size) wC 3 1 na n nc (ivs (askL S.length T t)) := HNB.out.to (fun g hg => (HNB.out.out hg).1) (fun g hg => kC.block g (.inr (.inr hg)))
  have HWC : Hid (Kept (fun k => k < w.heap.size) w wC) := HWB.out.trans (kC.mono fun k h => .inl (Nat.lt_of_lt_of_le h HK1.out.size))
  have rs1 := rsameInts_any (askL S.length T t) (askL S.length T t) na wa n n nc wc HN.out HN.out (by omega) (by omega) wC (NC.intsAt fun g hg => (NC.out hg).2) (OC.intsAt fun g hg => (OC.out hg).2)
  rw [decide_eq_true rfl] at rs1
  obtain ⟨M, R, G, rk, hR, hD⟩ := sC.rd
  have RA : Hid (∀ X, Kept (fun k => k < wC.heap.size) wC X → Calls Try.prog 15 #[.pointer (some ⟨p, 0, none⟩), .int .i64 (od : Int)] X (Lst X (askL S.length T t))) := fun X hX => by
    have := (hR.kept hX).assigned (od : Int)
    have ea := namesE_asg (S := S) (T := T) hD hR.inv HOD.out.2
    rw [HET.out.1, if_pos HEI.out, HOD.out.1] at ea
    rw [ea] at this
    exact this
  have RO : Hid (∀ X, Kept (fun k => k < wC.heap.size) wC X → Calls Try.prog 15 #[.pointer (some ⟨p, 0, none⟩), .int .i64 (x : Int)] X (Lst X [])) := fun X hX => by
    have := (hR.kept hX).assigned (x : Int)
    rw [stA_none hD hR.inv HX.out] at this
    exact this
  have RS : Hid (∀ X Y aa ac, Kept (fun k => k < wC.heap.size) wC X → OwnZ (fun k => k < Y) X 3 1 aa n ac (ivs (askL S.length T t)) → Calls Try.prog 19 #[.slice aa n ac, .slice wa n wc] X fun e w' => e = .returned (.bool true) ∧ Kept (fun k => k < X.heap.size) X w') := fun X Y aa ac hX hA => by
    have OX : OwnZ (fun k => k < w4.heap.size) X 3 1 wa n wc (ivs (askL S.length T t)) := OC.to (fun g hg => (OC.out hg).1) (fun g hg => hX.block g (OC.out hg).2)
    have := rsameInts_any (askL S.length T t) (askL S.length T t) aa wa n n ac wc HN.out HN.out (by omega) (by omega) X (hA.intsAt fun g hg => (hA.out hg).2) (OX.intsAt fun g hg => (OX.out hg).2)
    rw [decide_eq_true rfl] at this
    exact this
  clear rr sC kC OC NC HOB HNB HWB hR hD
  go_wp2_with fail
  refine rs1.mono ?_
  rintro e x1 ⟨rfl, kx1⟩
  have ra := RA.out x1 kx1
  have HX1 : Hid (Kept (fun k => k < wC.heap.size) wC x1) := kx1
  clear rs1 kx1
  go_wp2_with fail
  refine ra.mono ?_
  rintro e x2 ⟨ab, bc, rfl, hOb, kx2⟩
  rw [HN.out] at hOb ⊢
  have kC2 : Kept (fun k => k < wC.heap.size) wC x2 := HX1.out.trans (kx2.mono fun k h => Nat.lt_of_lt_of_le h HX1.out.size)
  have rs2 := RS.out x2 _ ab bc kC2 hOb
  have HX2 : Hid (Kept (fun k => k < wC.heap.size) wC x2) := kC2
  clear ra hOb kx2 kC2 HX1
  go_wp2_with fail
  refine rs2.mono ?_
  rintro e x3 ⟨rfl, kx3⟩
  have kC3 : Kept (fun k => k < wC.heap.size) wC x3 := HX2.out.trans (kx3.mono fun k h => Nat.lt_of_lt_of_le h HX2.out.size)
  have ro := RO.out x3 kC3
  have HX3 : Hid (Kept (fun k => k < wC.heap.size) wC x3) := kC3
  clear rs2 kx3 kC3 HX2
  go_wp2_with fail
  refine ro.mono ?_
  rintro e x4 ⟨az, cz, rfl, -, kx4⟩
  have HX4 : Hid (Kept (fun k => k < w.heap.size) w x4) := HWC.out.trans ((HX3.out.mono fun k h => Nat.lt_of_lt_of_le h HWC.out.size).trans (kx4.mono fun k h => Nat.lt_of_lt_of_le h (Nat.le_trans HWC.out.size HX3.out.size)))
  clear ro kx4
  go_wp2
  go_ret
  exact ⟨rfl, HX4.out⟩
end Go.Proofs.Ytljnjdckhkglfaa
