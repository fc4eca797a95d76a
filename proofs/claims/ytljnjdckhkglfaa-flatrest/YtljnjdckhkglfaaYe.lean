/-
  The walk of FlatRest.
-/
import Derived.Test.YtljnjdckhkglfaaYd
import Derived.Deep.LoopGhost
namespace Go.Proofs.Ytljnjdckhkglfaa
open Go.RowKit Go.Sort
set_option linter.unusedVariables false
abbrev K2 (B : Nat) (ao a1 : Option Addr) (k : Nat) : Prop := k < B ∨ blkOf ao k ∨ blkOf a1 k
set_option maxRecDepth 20000 in
set_option maxHeartbeats 4000000 in
theorem rest_true (n m : Nat) (hn : n < 256) (hm : m < 256) (w : World) : Calls Try.prog 8 #[.int .u8 (n : Int), .int .u8 (m : Int), .bool true] w fun e w' => e = .returned (.bool true) ∧ Kept (fun k => k < w.heap.size) w w' := by
  have r0 := new_yes 300 w (by decide) (by decide)
  go_enter Try.func8, Try.ntmps8
  go_wp2_with fail
  refine r0.mono ?_
  rintro e w1 ⟨p, rfl, hp, hX1, hK1⟩
  have rk := fknown_any w1
  have HS1 : Hid (Dst (fun k => k < w.heap.size) w1 p [frag0.new] (fun _ => [])) := Dst.start hX1
  have HK1 : Hid (Kept (fun k => k < w.heap.size) w w1) := hK1
  clear r0 hX1 hK1 hp
  go_wp2_with fail
  refine rk.mono ?_
  rintro e w2 ⟨rfl, hk2⟩
  have r1 := stDiv (HS1.out.kept hk2)
  have HK2 : Hid (Kept (fun k => k < w.heap.size) w w2) := HK1.out.trans (hk2.mono fun k h => Nat.lt_of_lt_of_le h HK1.out.size)
  clear rk hk2 HS1
  go_wp2_with fail
  refine r1.mono ?_
  rintro e w3 ⟨rfl, s3, hK3⟩
  have r2 := stRoot s3 fg0
  have HK3 : Hid (Kept (fun k => k < w.heap.size) w w3) := HK2.out.trans hK3
  clear r1 s3 hK3
  go_wp2_with fail
  refine r2.mono ?_
  rintro e w4 ⟨rfl, s4, hK4⟩
  have r3 := stSlot s4
  have HK4 : Hid (Kept (fun k => k < w.heap.size) w w4) := HK3.out.trans hK4
  clear r2 s4 hK4
  go_wp2_with fail
  refine r3.mono ?_
  rintro e w5 ⟨rfl, s5, hK5⟩
  have r4 := stIn s5
  have HK5 : Hid (Kept (fun k => k < w.heap.size) w w5) := HK4.out.trans hK5
  clear r3 s5 hK5
  go_wp2_with fail
  refine r4.mono ?_
  rintro e w6 ⟨rfl, s6, hK6⟩
  have r5 := stName s6
  have HK6 : Hid (Kept (fun k => k < w.heap.size) w w6) := HK5.out.trans hK6
  clear r4 s6 hK6
  go_wp2_with fail
  refine r5.mono ?_
  rintro e wS ⟨rfl, sS, hKS⟩
  have HS : Hid (Dst (fun k => k < w.heap.size) wS p (bs fg0 qA) (rw4 [] [])) := sS
  have HKS : Hid (Kept (fun k => k < w.heap.size) w wS) := HK6.out.trans hKS
  clear r5 sS hKS HK1
  obtain ⟨z, hz⟩ : ∃ z, n % 9 = z := ⟨_, rfl⟩
  obtain ⟨y, hy⟩ : ∃ y, m % 9 = y := ⟨_, rfl⟩
  have hz9 : z < 9 := by omega
  have hy9 : y < 9 := by omega
  go_upto_region 12 with fail
  go_loopg [12, 14] (1 + z) (fun gh v12 v14 wr => ∃ (i c : Nat) (ao : Option Addr), gh = 1 + z - i ∧ i ≤ 1 + z ∧ v14 = .int .i64 (i : Int) ∧ v12 = .slice ao i c ∧ OwnZ (fun k => k < w.heap.size) wr 3 1 ao i c (ivs (ownN i)) ∧ Dst (fun k => k < w.heap.size ∨ blkOf ao k) wr p (xsR fg0 qA i 0) (QR i 0) ∧ Kept (fun k => k < w.heap.size) w wr)
  case atStart =>
    exact ⟨0, 0, none, rfl, Nat.zero_le _, rfl, rfl, OwnZ.nil _ _ _ _, by
      rw [xsR_00]
      exact HS.out.more (Kept.refl _ _) (fun k hk => by rcases hk with h | h; exact .inl h; exact absurd h (blk_none k)) (fun k hk => by rcases hk with h | h; exact HS.out.lt k h; exact absurd h (blk_none k)), HKS.out⟩
  case round =>
    clear HS HKS
    obtain ⟨i, c, ao, hg, hi, rfl, rfl, hO, hS, hK⟩ := hrel
    have HO : Hid (OwnZ (fun k => k < w.heap.size) wr 3 1 ao i c (ivs (ownN i))) := hO
    have HS : Hid (Dst (fun k => k < w.heap.size ∨ blkOf ao k) wr p (xsR fg0 qA i 0) (QR i 0)) := hS
    have HK : Hid (Kept (fun k => k < w.heap.size) w wr) := hK
    clear hO hS hK
    by_cases hlt : i < 1 + z
    · have rm := HS.out.own (by omega)
      have hdec : decide ((i : Int) < 1 + (z : Int)) = true := decide_eq_true (by omega)
      go_wp2_with fail
      refine rm.mono ?_
      rintro e v1 ⟨rfl, s1, k1⟩
      have ri := s1.ownIn (by omega)
      have HO1 : Hid (OwnZ (fun k => k < w.heap.size) v1 3 1 ao i c (ivs (ownN i))) := HO.out.to (fun g hg => (HO.out.out hg).1) (fun g hg => k1.block g (.inr hg))
      have HV1 : Hid (Kept (fun k => k < w.heap.size) w v1) := HK.out.trans (k1.mono fun k h => .inl h)
      clear rm s1 k1 HO HS HK
      go_wp2_with fail
      refine ri.mono ?_
      rintro e v2 ⟨rfl, s2, k2⟩
      have O2 : OwnZ (fun k => k < w.heap.size) v2 3 1 ao i c (ivs (ownN i)) := HO1.out.to (fun g hg => (HO1.out.out hg).1) (fun g hg => k2.block g (.inr hg))
      have hV2 : Kept (fun k => k < w.heap.size) w v2 := HV1.out.trans (k2.mono fun k h => .inl h)
      obtain ⟨ao', c', v3, hrun, O3, s3, k3⟩ := s2.app (fun k h => Nat.lt_of_lt_of_le h hV2.size) O2 (by omega) (4 + i)
      have HO3 : Hid (OwnZ (fun k => k < w.heap.size) v3 3 1 ao' (i + 1) c' (ivs (ownN (i + 1)))) := by
        rw [ownN, List.range'_1_concat]; exact O3
      have HS3 : Hid (Dst (fun k => k < w.heap.size ∨ blkOf ao' k) v3 p (xsR fg0 qA (i + 1) 0) (QR (i + 1) 0)) := s3
      have HV3 : Hid (Kept (fun k => k < w.heap.size) w v3) := hV2.trans k3
      clear ri s2 k2 O2 hV2 O3 s3 k3 HO1 HV1
      go_wp2_with (at_builtin; refine wpList_appR (w' := v3) rfl (.tmp 70) (.tmp 72) 34 34 rfl _ _ (.slice ao' (i + 1) c') rfl rfl hrun ?_)
      go_roundg (1 + z - (i + 1))
      case rel => exact ⟨i + 1, c', ao', rfl, by omega, by go_num, rfl, HO3.out, HS3.out, HV3.out⟩
      case measure => omega
    · obtain ⟨wo, rfl⟩ : ∃ wo, wo = wr := ⟨_, rfl⟩
      have hi0 : 0 < i := by omega
      have hi9 : i < 20 := by omega
      have hdec : decide ((i : Int) < 1 + (z : Int)) = false := decide_eq_false (by omega)
      obtain ⟨M, R, G, rk, hR, hD⟩ := HS.out.rd
      have rf := hR.kids 3
      rw [rest_kids hD hR.inv, if_neg (fun h => h.2 rfl)] at rf
      clear hR hD
      go_wp2_with fail
      refine rf.mono ?_
      rintro e w8 ⟨a1, c1, rfl, hO1, hk8⟩
      have hlen : (ownN i).length = i := List.length_range' ..
      rw [hlen] at hO1 ⊢
      have HS8 : Hid (Dst (K2 w.heap.size ao a1) w8 p (xsR fg0 qA i 0) (QR i 0)) := HS.out.more hk8 (fun k hk => by
        rcases hk with h | h | h
        · exact .inl (.inl h)
        · exact .inl (.inr h)
        · exact .inr (Nat.le_of_not_lt (hO1.out h).1)) (fun k hk => by
        rcases hk with h | h | h
        · exact Nat.lt_of_lt_of_le (HS.out.lt k (.inl h)) hk8.size
        · exact Nat.lt_of_lt_of_le (HS.out.lt k (.inr h)) hk8.size
        · exact (hO1.out h).2)
      have HO8 : Hid (OwnZ (fun k => k < w.heap.size) w8 3 1 ao i c (ivs (ownN i))) := HO.out.to (fun g hg => (HO.out.out hg).1) (fun g hg => hk8.block g (HO.out.out hg).2)
      have HA8 : Hid (OwnZ (fun k => k < wo.heap.size) w8 3 1 a1 i c1 (ivs (ownN i))) := hO1
      have HK8 : Hid (Kept (fun k => k < w.heap.size) w w8) := HK.out.trans (hk8.mono fun k h => Nat.lt_of_lt_of_le h HK.out.size)
      clear rf hO1 hk8 hlen HO HS HK hdec hlt
      go_upto_region 19 with fail
      go_loopg [13, 18] (1 + y) (fun gh v13 v18 wr => ∃ (j c2 : Nat) (ak : Option Addr), gh = 1 + y - j ∧ j ≤ 1 + y ∧ v18 = .int .i64 (j : Int) ∧ v13 = .slice ak j c2 ∧ OwnZ (K2 w.heap.size ao a1) wr 3 1 ak j c2 (ivs (kidN i j)) ∧ Dst (fun k => K2 w.heap.size ao a1 k ∨ blkOf ak k) wr p (xsR fg0 qA i j) (QR i j) ∧ Kept (K2 w.heap.size ao a1) w8 wr)
      case atStart =>
        exact ⟨0, 0, none, rfl, Nat.zero_le _, rfl, rfl, OwnZ.nil _ _ _ _, HS8.out.more (Kept.refl _ _) (fun k hk => by rcases hk with h | h; exact .inl h; exact absurd h (blk_none k)) (fun k hk => by rcases hk with h | h; exact HS8.out.lt k h; exact absurd h (blk_none k)), Kept.refl _ _⟩
      case round =>
        clear hg hi
        have HL8 : Hid (∀ k, K2 w.heap.size ao a1 k → k < w8.heap.size) := HS8.out.lt
        clear HS8
        obtain ⟨j, c2, ak, hg, hj, rfl, rfl, hO, hS, hK⟩ := hrel
        have HO : Hid (OwnZ (K2 w.heap.size ao a1) wr 3 1 ak j c2 (ivs (kidN i j))) := hO
        have HS : Hid (Dst (fun k => K2 w.heap.size ao a1 k ∨ blkOf ak k) wr p (xsR fg0 qA i j) (QR i j)) := hS
        have HK : Hid (Kept (K2 w.heap.size ao a1) w8 wr) := hK
        clear hO hS hK
        by_cases hlt : j < 1 + y
        · have rm := HS.out.kid hi9 (by omega)
          have hdec : decide ((j : Int) < 1 + (y : Int)) = true := decide_eq_true (by omega)
          go_wp2_with fail
          refine rm.mono ?_
          rintro e v1 ⟨rfl, s1, k1⟩
          have ri := s1.kidIn hi9 (by omega)
          have HO1 : Hid (OwnZ (K2 w.heap.size ao a1) v1 3 1 ak j c2 (ivs (kidN i j))) := HO.out.to (fun g hg => (HO.out.out hg).1) (fun g hg => k1.block g (.inr hg))
          have HV1 : Hid (Kept (K2 w.heap.size ao a1) w8 v1) := HK.out.trans (k1.mono fun k h => .inl h)
          obtain ⟨q, hq⟩ : ∃ q, 4 + i + j = q := ⟨_, rfl⟩
          rw [hq] at ri
          rw [hq]
          have HQ : Hid (4 + i + j = q) := hq
          clear rm s1 k1 HO HS HK hq
          go_wp2_with fail
          refine ri.mono ?_
          rintro e v2 ⟨rfl, s2, k2⟩
          have O2 : OwnZ (K2 w.heap.size ao a1) v2 3 1 ak j c2 (ivs (kidN i j)) := HO1.out.to (fun g hg => (HO1.out.out hg).1) (fun g hg => k2.block g (.inr hg))
          have hV2 : Kept (K2 w.heap.size ao a1) w8 v2 := HV1.out.trans (k2.mono fun k h => .inl h)
          obtain ⟨ak', c', v3, hrun, O3, s3, k3⟩ := s2.app (fun k h => Nat.lt_of_lt_of_le (HL8.out k h) hV2.size) O2 (by omega) q
          have HO3 : Hid (OwnZ (K2 w.heap.size ao a1) v3 3 1 ak' (j + 1) c' (ivs (kidN i (j + 1)))) := by
            rw [kidN, List.range'_1_concat, HQ.out]; exact O3
          have HS3 : Hid (Dst (fun k => K2 w.heap.size ao a1 k ∨ blkOf ak' k) v3 p (xsR fg0 qA i (j + 1)) (QR i (j + 1))) := s3
          have HV3 : Hid (Kept (K2 w.heap.size ao a1) w8 v3) := hV2.trans k3
          clear ri s2 k2 O2 hV2 O3 s3 k3 HO1 HV1
          go_wp2_with (at_builtin; refine wpList_appR (w' := v3) rfl (.tmp 94) (.tmp 96) 34 34 rfl _ _ (.slice ak' (j + 1) c') rfl rfl hrun ?_)
          go_roundg (1 + y - (j + 1))
          case rel => exact ⟨j + 1, c', ak', rfl, by omega, by go_num, rfl, HO3.out, HS3.out, HV3.out⟩
          case measure => omega
        · have hj0 : 0 < j := by omega
          have hj9 : j < 20 := by omega
          have hdec : decide ((j : Int) < 1 + (y : Int)) = false := decide_eq_false (by omega)
          obtain ⟨M, R, G, rk, hR, hD⟩ := HS.out.rd
          have rf := hR.kids 3
          rw [rest_kids hD hR.inv, if_neg (fun h => absurd h.1 (by decide))] at rf
          have RUK : Hid (∀ X, Kept (fun k => k < wr.heap.size) wr X → Calls Try.prog 31 #[.pointer (some ⟨p, 0, none⟩), .int .i64 ((4 + i : Nat) : Int)] X fun e w' => e = .returned (.int .i64 (-1)) ∧ Kept (fun k => k < X.heap.size) X w') := fun X hX => by
            have := (hR.kept hX).up ((4 + i : Nat) : Int)
            rw [rest_upk hD hR.inv hj0, if_neg (by decide)] at this
            exact this
          have RUO : Hid (∀ X, Kept (fun k => k < wr.heap.size) wr X → Calls Try.prog 31 #[.pointer (some ⟨p, 0, none⟩), .int .i64 4] X fun e w' => e = .returned (.int .i64 3) ∧ Kept (fun k => k < X.heap.size) X w') := fun X hX => by
            have := (hR.kept hX).up ((4 : Nat) : Int)
            rw [rest_upo hD hR.inv hi0, if_neg (fun h => absurd h.1 (by decide))] at this
            exact this
          clear hR hD
          go_wp2_with fail
          refine rf.mono ?_
          rintro e w9 ⟨a2, c3, rfl, hO2, hk9⟩
          have hlen : (ownN i).length = i := List.length_range' ..
          rw [hlen] at hO2 ⊢
          have wlt : wr.heap.size ≤ w9.heap.size := hk9.size
          have O9 : OwnZ (fun k => k < w.heap.size) w9 3 1 ao i c (ivs (ownN i)) := HO8.out.to (fun g hg => (HO8.out.out hg).1) (fun g hg => (hk9.block g (Nat.lt_of_lt_of_le (HO8.out.out hg).2 HK.out.size)).trans (HK.out.block g (.inr (.inl hg))))
          have A9 : OwnZ (fun k => k < wo.heap.size) w9 3 1 a1 i c1 (ivs (ownN i)) := HA8.out.to (fun g hg => (HA8.out.out hg).1) (fun g hg => (hk9.block g (Nat.lt_of_lt_of_le (HA8.out.out hg).2 HK.out.size)).trans (HK.out.block g (.inr (.inr hg))))
          have K9 : OwnZ (K2 w.heap.size ao a1) w9 3 1 ak j c2 (ivs (kidN i j)) := HO.out.to (fun g hg => (HO.out.out hg).1) (fun g hg => hk9.block g (HO.out.out hg).2)
          obtain ⟨gk2, rfl, hck⟩ := K9.cell (j := 0) (u := .int .i64 ((4 + i : Nat) : Int)) (by rw [ivs, List.getElem?_map, kidN, List.getElem?_range' hj0]; simp [iv])
          obtain ⟨go2, rfl, hco⟩ := O9.cell (j := 0) (u := .int .i64 4) (by rw [ivs, List.getElem?_map, ownN, List.getElem?_range' hi0]; simp [iv])
          have hgk : gk2 < w9.heap.size := (K9.out rfl).2
          have hgo : go2 < w9.heap.size := (O9.out rfl).2
          have rs1 := rsameInts_any (ownN i) (ownN i) a1 (some ⟨go2, 0, none⟩) i i c1 c (List.length_range' ..) (List.length_range' ..) (by omega) (by omega) w9 (A9.intsAt fun g hg => (A9.out hg).2) (O9.intsAt fun g hg => (O9.out hg).2)
          rw [decide_eq_true rfl] at rs1
          have RS2 : Hid (∀ X, Kept (fun k => k < w9.heap.size) w9 X → Calls Try.prog 19 #[.slice a2 i c3, .slice (some ⟨go2, 0, none⟩) i c] X fun e w' => e = .returned (.bool true) ∧ Kept (fun k => k < X.heap.size) X w') := fun X hX => by
            have := rsameInts_any (ownN i) (ownN i) a2 (some ⟨go2, 0, none⟩) i i c3 c (List.length_range' ..) (List.length_range' ..) (by omega) (by omega) X ((hO2.intsAt fun g hg => (hO2.out hg).2).to (fun g hg => Nat.lt_of_lt_of_le hg hX.size) (fun g hg => hX.block g hg)) ((O9.intsAt fun g hg => (O9.out hg).2).to (fun g hg => Nat.lt_of_lt_of_le hg hX.size) (fun g hg => hX.block g hg))
            rw [decide_eq_true rfl] at this
            exact this
          have HK9 : Hid (Kept (fun k => k < w.heap.size) w w9) := HK8.out.trans ((HK.out.mono fun k h => .inl h).trans (hk9.mono fun k h => Nat.lt_of_lt_of_le h (Nat.le_trans HK8.out.size HK.out.size)))
          have HX9 : Hid (Kept (fun k => k < wr.heap.size) wr w9) := hk9
          clear rf hO2 hk9 hlen O9 A9 K9 HO HS HK HO8 HA8 HK8 HL8 hdec hlt
          go_wp2_with fail
          refine rs1.mono ?_
          rintro e x1 ⟨rfl, kx1⟩
          have rs2 := RS2.out x1 kx1
          have HX1 : Hid (Kept (fun k => k < w9.heap.size) w9 x1) := kx1
          clear rs1 kx1
          go_wp2_with fail
          refine rs2.mono ?_
          rintro e x2 ⟨rfl, kx2⟩
          have k92 : Kept (fun k => k < w9.heap.size) w9 x2 := HX1.out.trans (kx2.mono fun k h => Nat.lt_of_lt_of_le h HX1.out.size)
          have hck2 : x2.cell? ⟨gk2, 0, none⟩ = some (.int .i64 ((4 + i : Nat) : Int)) := (k92.cell (p := ⟨gk2, 0, none⟩) hgk).trans hck
          have ruk := RUK.out x2 (HX9.out.trans (k92.mono fun k h => Nat.lt_of_lt_of_le h HX9.out.size))
          have HX2 : Hid (Kept (fun k => k < w9.heap.size) w9 x2) := k92
          obtain ⟨q, hq⟩ : ∃ q, 4 + i = q := ⟨_, rfl⟩
          rw [hq] at hck2 ruk
          clear rs2 kx2 k92 hq HX1 hck
          go_wp2_with fail
          refine ruk.mono ?_
          rintro e x3 ⟨rfl, kx3⟩
          have k93 : Kept (fun k => k < w9.heap.size) w9 x3 := HX2.out.trans (kx3.mono fun k h => Nat.lt_of_lt_of_le h HX2.out.size)
          have hco3 : x3.cell? ⟨go2, 0, none⟩ = some (.int .i64 4) := (k93.cell (p := ⟨go2, 0, none⟩) hgo).trans hco
          have ruo := RUO.out x3 (HX9.out.trans (k93.mono fun k h => Nat.lt_of_lt_of_le h HX9.out.size))
          have HX3 : Hid (Kept (fun k => k < w9.heap.size) w9 x3) := k93
          clear ruk kx3 k93 hck2 hco HX2
          go_wp2_with fail
          refine ruo.mono ?_
          rintro e x4 ⟨rfl, kx4⟩
          have HX4 : Hid (Kept (fun k => k < w.heap.size) w x4) := HK9.out.trans ((HX3.out.mono fun k h => Nat.lt_of_lt_of_le h HK9.out.size).trans (kx4.mono fun k h => Nat.lt_of_lt_of_le h (Nat.le_trans HK9.out.size HX3.out.size)))
          clear ruo kx4
          go_wp2
          go_ret
          exact ⟨rfl, HX4.out⟩
end Go.Proofs.Ytljnjdckhkglfaa
