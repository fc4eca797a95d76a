/-
  What the document's answer for layer 1 does as a Go text: Decode, for every row of bytes.
-/
import Derived.Test.YtnfallgpnoofiaaRefB
import Derived.Deep.DeepCutAuto
import Derived.Deep.Light
namespace Go.Proofs.Ytnfallgpnoofiaa
open Go.RowKit
theorem u8eq (a : UInt8) (n : Nat) (h : n < 256) : ((a.toNat : Int) == (n : Int)) = decide (a = UInt8.ofNat n) := by
  rw [Bool.eq_iff_iff]
  simp only [beq_iff_eq, decide_eq_true_eq]
  constructor
  · intro he
    apply UInt8.toNat_inj.1
    rw [UInt8.toNat_ofNat']
    omega
  · intro he
    subst he
    rw [UInt8.toNat_ofNat']
    omega
theorem mark_pre {K : Nat → Prop} {w : World} (bs : List UInt8) (ao : Option Addr) (hrow : RowB K w ao bs) :
    (bs.length < 3 ∧ decide (bs.take 3 = markB) = false) ∨
    ∃ g o a b c, ao = some ⟨g, o, none⟩ ∧ 3 ≤ bs.length ∧ w.cell? ⟨g, o, none⟩ = some (.int .u8 a) ∧ w.cell? ⟨g, o + 1, none⟩ = some (.int .u8 b) ∧ w.cell? ⟨g, o + 2, none⟩ = some (.int .u8 c) ∧
      decide (bs.take 3 = markB) = ((a == 239) && ((b == 187) && (c == 191))) := by
  match bs, hrow with
  | [], _ => left; decide
  | [a], _ => left; simp [markB]
  | [a, b], _ => left; simp [markB]
  | a :: b :: c :: r, hrow =>
    right
    rcases hrow with h | ⟨g, o, rfl, hg, hc⟩
    · cases h
    · refine ⟨g, o, a.toNat, b.toNat, c.toNat, rfl, by simp, hc 0 (by simp), hc 1 (by simp), hc 2 (by simp), ?_⟩
      have ea := u8eq a 239 (by decide)
      have eb := u8eq b 187 (by decide)
      have ec := u8eq c 191 (by decide)
      simp only [Int.cast_ofNat_Int] at ea eb ec
      rw [ea, eb, ec]
      simp [markB]
set_option maxRecDepth 100000 in
set_option maxHeartbeats 2000000 in
theorem refDecode_any {K : Nat → Prop} {w : World} (hK : ∀ k, K k → k < w.heap.size) (bs : List UInt8) (ao : Option Addr) (cap : Nat) (hcap : bs.length ≤ cap) (hcm : cap ≤ maxLen) (hrow : RowB K w ao bs) (hl : bs.length ≤ 100000000000) :
    Calls Try.prog 14 #[.slice ao bs.length cap] w fun e w' => e = .returned (strV (refB bs)) ∧ Kept K w w' := by
  unfold maxLen at hcm
  have hpre := mark_pre bs ao hrow
  obtain ⟨B, hB⟩ : ∃ B, B = decide (bs.take 3 = markB) := ⟨_, rfl⟩
  rw [← hB] at hpre
  obtain ⟨len, hlen⟩ : ∃ len, len = bs.length := ⟨_, rfl⟩
  rw [← hlen] at hl hcap hpre ⊢
  have HB : Hid (B = decide (bs.take 3 = markB)) := hB
  have HL : Hid (len = bs.length) := hlen
  clear hB hlen
  go_enter Try.func14, Try.ntmps14
  go_upto_region 1 with fail
  go_cut [28] (fun s28 wc => s28 = .bool B ∧ wc = w)
  case first =>
    rcases hpre with ⟨h3, rfl⟩ | ⟨g, o, a, b, c, rfl, h3, c0, c1, c2, hB⟩
    · have h3' : decide ((3 : Int) ≤ (len : Int)) = false := by simp; omega
      go_wp2
      go_meet
      case rel => exact ⟨rfl, rfl⟩
    · have h3' : (3 : Int) ≤ (len : Int) := by omega
      cases ha : (a == 239)
      · rw [ha] at hB
        simp only [Bool.false_and] at hB
        subst hB
        go_wp2
        go_meet
        case rel => exact ⟨rfl, rfl⟩
      · cases hb : (b == 187)
        · rw [ha, hb] at hB
          simp only [Bool.false_and, Bool.and_false] at hB
          subst hB
          go_wp2
          go_meet
          case rel => exact ⟨rfl, rfl⟩
        · rw [ha, hb] at hB
          simp only [Bool.true_and] at hB
          subst hB
          go_wp2
          all_goals go_meet
          case rel => exact ⟨rfl, rfl⟩
  case rest =>
    obtain ⟨rfl, rfl⟩ := hcut
    go_upto_if 28 with fail
    clear hpre
    obtain ⟨bt, hbt⟩ : ∃ bt, bt = stripIn bs := ⟨_, rfl⟩
    have HBT : Hid (bt = stripIn bs) := hbt
    go_cut [0] (fun s0 wd => wd = wc ∧ ∃ ao' cap', s0 = .slice ao' bt.length cap' ∧ bt.length ≤ cap' ∧ cap' ≤ 9223372036854775807 ∧ RowB K wc ao' bt)
    case first =>
      cases B
      · have hb' : bt = bs := by
          rw [hbt, stripIn, if_neg]
          have this := HB.out
          simpa using this.symm
        go_wp2
        go_meet
        case rel => exact ⟨rfl, ao, cap, by rw [HL.out, hb'], by rw [hb', ← HL.out]; exact hcap, hcm, by rw [hb']; exact hrow⟩
      · have hmk : bs.take 3 = markB := by
          have this := HB.out
          simpa using this.symm
        have h3 : 3 ≤ bs.length := by
          have := congrArg List.length hmk
          simp [markB] at this
          omega
        have hb' : bt = bs.drop 3 := by rw [hbt, stripIn, if_pos hmk]
        have h3' : (3 : Int) ≤ (len : Int) := by rw [HL.out]; omega
        have hbl : bt.length = len - 3 := by rw [hb', HL.out]; simp
        by_cases hc3 : cap = 3
        · have hl3 : len = 3 := by omega
          have hbn : bt = [] := List.eq_nil_of_length_eq_zero (by omega)
          subst hl3
          subst hc3
          go_wp2
          go_meet
          case rel => exact ⟨rfl, ao, 0, by rw [hbn]; rfl, by rw [hbn]; exact Nat.le_refl _, by omega, .inl hbn⟩
        · rcases hrow with hrow | ⟨g, o, rfl, hg, hc⟩
          · rw [hrow] at h3; simp at h3
          go_wp2
          go_meet
          case rel =>
            refine ⟨rfl, some ⟨g, o + 3, none⟩, cap - 3, by rw [hbl], by omega, by omega, .inr ⟨g, o + 3, rfl, hg, fun j hj => ?_⟩⟩
            have hj' : 3 + j < bs.length := by rw [hbl, HL.out] at hj; omega
            have hcc := hc (3 + j) hj'
            rw [← Nat.add_assoc] at hcc
            rw [hcc]
            simp only [hb', List.getElem_drop]
    case rest =>
      obtain ⟨rfl, ao1, cap1, rfl, hcap1, hcm1, hrow1⟩ := hcut
      obtain ⟨n1, hn1⟩ : ∃ n1, n1 = bt.length := ⟨_, rfl⟩
      have HN : Hid (n1 = bt.length) := hn1
      have hnl : n1 ≤ 100000000000 := by
        have h1 : bt.length ≤ bs.length := by
          rw [hbt, stripIn]
          split <;> simp
        have h2 := HL.out
        omega
      rw [← hn1] at hcap1 ⊢
      obtain ⟨i0, hi, hz0, hz1, hz2⟩ := info_parts Try.info5
      have hz3 : i0.bytes ≤ 64 := by omega
      have HRW : Hid (RowB K wc ao1 bt) := hrow1
      have HK0 : Hid (∀ k, K k → k < wc.heap.size) := hK
      clear hn1 hbt HB HL hl hcap hcm hrow hrow1 hK
      go_wp2
      go_loopw [3, 4] (fun ov iv wr => ∃ (i : Nat) (outs : List UInt8) (oa : Option Addr) (oc : Nat), i ≤ n1 ∧ iv = .int .i64 i ∧ ov = .slice oa outs.length oc ∧ Own K wr 5 oa outs.length oc (bvs outs) ∧ Hid (ch0 bt = outs ++ ch0 (bt.drop i)) ∧ outs.length ≤ 3 * i ∧ Kept K wc wr) (fun _ iv _ => n1 - (intOf iv).toNat)
      case atStart => exact ⟨0, [], none, 0, Nat.zero_le _, rfl, rfl, Own.nil _ _ _, rfl, by simp, Kept.refl _ _⟩
      case round =>
        obtain ⟨i, outs, oa, oc, hin, rfl, rfl, hown, HCH, hol, hkp⟩ := hrel
        by_cases hlt : i < n1
        · have hib : i < bt.length := by rw [← HN.out]; exact hlt
          rcases HRW.out with hnil | ⟨g, o, rfl, hg, hc⟩
          · rw [hnil] at hib; simp at hib
          obtain ⟨c, r, hcr⟩ : ∃ c r, bt.drop i = c :: r := ⟨_, _, List.drop_eq_getElem_cons hib⟩
          have hcrl : (c :: r).length = n1 - i := by rw [← hcr, HN.out]; simp
          have hcells : ∀ j (hj : j < (c :: r).length), wr.cell? ⟨g, o + i + j, none⟩ = some (.int .u8 ((c :: r)[j].toNat : Int)) := by
            intro j hj
            have hj' : i + j < bt.length := by rw [← HN.out]; omega
            have h1 := hc (i + j) hj'
            rw [← Nat.add_assoc] at h1
            rw [(hkp.cell hg).trans h1]
            simp only [← hcr, List.getElem_drop]
          have hright := right_any c r g (o + i) (cap1 - i) wr (by omega) (by omega) hcells
          have hc0 : wr.cell? ⟨g, o + i, none⟩ = some (.int .u8 (c.toNat : Int)) := hcells 0 (by simp)
          rw [hcrl] at hright
          have hge := rgt_ge c (moreZ c) r 1
          have hstep := ch0_step c r
          have hrl : r.length + 1 = n1 - i := by rw [← hcrl]; rfl
          have HCH2 := HCH.out
          rw [hcr] at HCH2
          obtain ⟨R, hR⟩ : ∃ R, R = rgt c (moreZ c) 1 r := ⟨_, rfl⟩
          rw [← hR] at hge hstep hright
          have HDR : Hid ((c :: r).drop R = bt.drop (i + R)) := by rw [← hcr, List.drop_drop]; rfl
          have HST : Hid (ch0 bt = outs ++ if moreZ c = (R : Int) - 1 then (c :: r).take R ++ ch0 ((c :: r).drop R) else repB ++ ch0 ((c :: r).drop R)) := by rw [← hstep]; exact HCH2
          have HSRC : Hid (∀ j u, (bvs ((c :: r).take R))[j]? = some u → wr.cell? ⟨g, o + i + j, none⟩ = some u) := by
            intro j u hj
            have hjl : j < ((c :: r).take R).length := by
              rcases Nat.lt_or_ge j ((c :: r).take R).length with h1 | h1
              · exact h1
              · rw [List.getElem?_eq_none (by rw [bvs_length]; exact h1)] at hj; cases hj
            have hjl2 : j < (c :: r).length := by simp at hjl ⊢; omega
            rw [hcells j hjl2, ← hj]
            simp only [bvs, List.getElem?_map, List.getElem?_eq_getElem hjl, List.getElem_take, Option.map_some]
          have hmore := more_any c
          have hcap2 : ¬ cap1 = i := by omega
          have q1 : (0 : Int) ≤ (i : Int) := by omega
          have q2 : (i : Int) ≤ (n1 : Int) := by omega
          have q3 : (i : Int) < (n1 : Int) := by omega
          have HKL : Hid (∀ k, K k → k < wr.heap.size) := fun k hk => Nat.lt_of_lt_of_le (HK0.out k hk) hkp.size
          clear hcells hstep HCH2 hc HCH hR hcr hcrl hib
          cases hmk : (moreZ c == (R : Int) - 1)
          · have HM : Hid (¬ moreZ c = (R : Int) - 1) := by have h1 : ¬ moreZ c = (R : Int) - 1 := by simpa using hmk
                                                            exact h1
            go_wp2_with (first | (go_at_call 17; refine hright.mono ?_; rintro e w2 ⟨rfl, hk2⟩; have hc2 := (hk2.cell (p := ⟨g, o + i, none⟩) trivial).trans hc0) | (go_at_call 18; refine (hmore _).mono ?_; rintro e w3 ⟨rfl, rfl⟩) | (at_builtin; refine wpList_app (K := K) rfl (.tmp 55) (.tmp 56) 23 23 5 rfl i0 (.int .u8 0) Try.underlying23 hi hz0 hz1 rfl oa outs.length oc (bvs outs) rfl ?_ (.slice (some ⟨w3.heap.size, 0, none⟩) 3 3) 3 (bvs repB) rfl ?_ ?_ ?_ ?_ ?_))
            · exact (hown.of fun g' _ _ => hk2.block g' trivial).alloc _
            · exact src_new _ _ _ _ _ Try.underlying23 (bvs_one _) rfl rfl rfl
            · intro k hk
              have h1 := HKL.out k hk
              have h2 := hk2.size
              simp
              omega
            · unfold maxLen; omega
            · rw [hz2]; omega
            · intro oa4 oc4 w4 own4 kept4 _
              have hkw : Kept K wr w4 := ((hk2.mono fun _ _ => trivial).alloc (fun k hk => Nat.lt_of_lt_of_le (HKL.out k hk) hk2.size) _).trans kept4
              clear hright hmore hk2 hc2 hc0
              go_wp2
              go_roundw
              case rel =>
                refine ⟨i + R, outs ++ repB, oa4, oc4, by omega, by go_num, by simp [repB], own4.cast (by simp [repB]) (by rw [bvs_append]), ?_, by simp [repB]; omega, hkp.trans hkw⟩
                have h1 := HST.out
                rw [if_neg HM.out, HDR.out] at h1
                rw [List.append_assoc]
                exact h1
              case measure => simp [intOf]; omega
          · have HM : Hid (moreZ c = (R : Int) - 1) := by have h1 : moreZ c = (R : Int) - 1 := by simpa using hmk
                                                          exact h1
            have htl : ((c :: r).take R).length = R := by simp; omega
            have hT : ((i : Int) + (R : Int)).toNat = i + R := by omega
            have hS : i + R - i = R := by omega
            go_wp2_with (first | (go_at_call 17; refine hright.mono ?_; rintro e w2 ⟨rfl, hk2⟩; have hc2 := (hk2.cell (p := ⟨g, o + i, none⟩) trivial).trans hc0) | (go_at_call 18; refine (hmore _).mono ?_; rintro e w3 ⟨rfl, rfl⟩) | (at_builtin; refine wpList_app (K := K) rfl (.tmp 47) (.tmp 53) 23 23 5 rfl i0 (.int .u8 0) Try.underlying23 hi hz0 hz1 rfl oa outs.length oc (bvs outs) rfl ?_ (.slice (some ⟨g, o + i, none⟩) R (cap1 - i)) R (bvs ((c :: r).take R)) rfl ?_ ?_ ?_ ?_ ?_))
            · exact hown.of fun g' _ _ => hk2.block g' trivial
            · refine Src.ofSlice _ Try.underlying23 _ _ _ _ (by rw [bvs_length, htl]; simp) (fun j u hj => ?_) (bvs_one _)
              rw [Addr.add_lit]
              exact (hk2.cell trivial).trans (HSRC.out j u hj)
            · intro k hk
              have h1 := HKL.out k hk
              have h2 := hk2.size
              omega
            · unfold maxLen; omega
            · rw [hz2]; omega
            · intro oa4 oc4 w4 own4 kept4 _
              have hkw : Kept K wr w4 := (hk2.mono fun _ _ => trivial).trans kept4
              clear hright hmore hk2 hc2 hc0
              go_wp2
              go_roundw
              case rel =>
                refine ⟨i + R, outs ++ (c :: r).take R, oa4, oc4, by omega, by go_num, by rw [List.length_append, htl], own4.cast (by rw [List.length_append, htl]) (by rw [bvs_append]), ?_, by rw [List.length_append, htl]; omega, hkp.trans hkw⟩
                have h1 := HST.out
                rw [if_pos HM.out, HDR.out] at h1
                rw [List.append_assoc]
                exact h1
              case measure => simp [intOf]; omega
        · rename World => wo
          obtain rfl : i = n1 := by omega
          have hch : ch0 bt = outs := by
            have h1 := HCH.out
            rw [List.drop_eq_nil_of_le (by rw [← HN.out]; exact Nat.le_refl _)] at h1
            simpa [ch0, ch] using h1
          have HCL : Hid (crl outs = refB bs) := by
            have h1 : refB bs = crl (ch0 bt) := by rw [HBT.out]; rfl
            rw [h1, hch]
            rfl
          obtain ⟨m, hm⟩ : ∃ m, m = outs.length := ⟨_, rfl⟩
          have HMM : Hid (m = outs.length) := hm
          have hml : m ≤ 300000000000 := by omega
          have HOC : Hid ((oa = none ∧ outs.length = 0 ∧ oc = 0 ∧ bvs outs = []) ∨ ∃ g2, oa = some ⟨g2, 0, none⟩ ∧ ¬ K g2 ∧ g2 < wo.heap.size ∧ (∀ j u, (bvs outs)[j]? = some u → wo.cell? ⟨g2, j, none⟩ = some u) ∧ ∀ j, wo.frozen? ⟨g2, j, none⟩ = false) := hown.cells
          obtain ⟨K2, HKa, HKb, HKc⟩ : ∃ K2 : Nat → Prop, Hid (∀ k, K k → K2 k) ∧ Hid (∀ k, oa = some ⟨k, 0, none⟩ → K2 k) ∧ Hid (∀ k, K2 k → k < wo.heap.size) := by
            refine ⟨fun k => K k ∨ oa = some ⟨k, 0, none⟩, fun k hk => .inl hk, fun k hk => .inr hk, ?_⟩
            intro k hk
            rcases hk with hk | hk
            · exact Nat.lt_of_lt_of_le (HK0.out k hk) hkp.size
            · rcases HOC.out with ⟨h1, _⟩ | ⟨g2, h1, _, h2, _⟩
              · rw [h1] at hk; cases hk
              · rw [h1] at hk; cases hk; exact h2
          rw [← hm]
          clear hch HCH hown hm HRW HN
          go_wp2
          go_loopw [6, 7] (fun lv jv ws => ∃ (j : Nat) (l : List UInt8) (la : Option Addr) (lc : Nat), j ≤ m ∧ jv = .int .i64 j ∧ lv = .slice la l.length lc ∧ Own K2 ws 5 la l.length lc (bvs l) ∧ Hid (crl outs = l ++ crl (outs.drop j)) ∧ l.length ≤ j ∧ Kept K2 wo ws) (fun _ jv _ => m - (intOf jv).toNat)
          case atStart => exact ⟨0, [], none, 0, Nat.zero_le _, rfl, rfl, Own.nil _ _ _, rfl, by simp, Kept.refl _ _⟩
          case round =>
            obtain ⟨j, l, la, lc, hjm, rfl, rfl, hown, HCR, hll, hk3⟩ := hrel
            have HK3 : Hid (∀ k, K2 k → k < wr.heap.size) := fun k hk => Nat.lt_of_lt_of_le (HKc.out k hk) hk3.size
            by_cases hlt : j < m
            · have hjo : j < outs.length := by rw [← HMM.out]; exact hlt
              rcases HOC.out with ⟨_, h0, _⟩ | ⟨g2, hoa, hng, hg2, hcells, _⟩
              · omega
              have hce : ∀ q (hq : q < outs.length), wr.cell? ⟨g2, q, none⟩ = some (.int .u8 (outs[q].toNat : Int)) := by
                intro q hq
                rw [hk3.cell (p := ⟨g2, q, none⟩) (HKb.out g2 hoa)]
                exact hcells q _ (by simp [bvs, hq])
              obtain ⟨c, hcx⟩ : ∃ c, c = outs[j] := ⟨_, rfl⟩
              have hc0 : wr.cell? ⟨g2, j, none⟩ = some (.int .u8 (c.toNat : Int)) := by rw [hcx]; exact hce j hjo
              have HC1 := HCR.out
              rw [List.drop_eq_getElem_cons hjo, ← hcx, crl] at HC1
              have HC2 : Hid (crl outs = l ++ if c.toNat ≠ 13 then c :: crl (outs.drop (j + 1)) else if (outs.drop (j + 1)).head? = some 10 then crl (outs.drop (j + 1)) else 10 :: crl (outs.drop (j + 1))) := HC1
              have q1 : (0 : Int) ≤ (j : Int) := by omega
              have q2 : (j : Int) < (m : Int) := by omega
              have hlb : l.length ≤ 1099511627776 := by omega
              subst hoa
              by_cases h13 : c.toNat = 13
              · have g1 : ((c.toNat : Int) == 13) = true := by simp; omega
                have g2' : ((c.toNat : Int) != 13) = false := by simp; omega
                by_cases hlast : m ≤ j + 1
                · have HE : Hid (crl outs = (l ++ [10]) ++ crl (outs.drop (j + 1))) := by
                    have h1 := HC2.out
                    have h2 : outs.drop (j + 1) = [] := List.drop_eq_nil_of_le (by rw [← HMM.out]; omega)
                    rw [if_neg (by omega), if_neg (by rw [h2]; simp)] at h1
                    show _ = _
                    rw [h1]
                    simp
                  have q3 : (m : Int) ≤ (j : Int) + 1 := by omega
                  clear HC1 HC2 hce hcells hcx HCR
                  go_wp2_with (at_builtin; refine wpList_app1 (K := K2) rfl (.tmp 92) (.tmp 93) 23 5 rfl i0 (.int .u8 0) Try.underlying23 hi hz0 hz1 rfl hz3 la l.length lc (bvs l) rfl (.int .u8 10) rfl wr.heap.size rfl hlb ?_ ?_ ?_ ?_)
                  all_goals try first | exact hown | exact HK3.out | exact (rfl : wr.heap.size = wr.heap.size)
                  · intro la1 lc1 w1 own1 kept1
                    go_wp2
                    go_roundw
                    case rel => exact ⟨j + 1, l ++ [10], la1, lc1, by omega, by go_num, by simp, own1.cast (by simp) (by simp [bvs]), HE, by simp; omega, hk3.trans kept1⟩
                    case measure => simp [intOf]; omega
                · obtain ⟨d, hdx⟩ : ∃ d, d = outs[j + 1]'(by rw [← HMM.out]; omega) := ⟨_, rfl⟩
                  have hd0 : wr.cell? ⟨g2, j + 1, none⟩ = some (.int .u8 (d.toNat : Int)) := by rw [hdx]; exact hce (j + 1) _
                  have hhd : (outs.drop (j + 1)).head? = some d := by rw [List.drop_eq_getElem_cons (by rw [← HMM.out]; omega), ← hdx]; rfl
                  have q3 : ¬ (m : Int) ≤ (j : Int) + 1 := by omega
                  have q3' : decide ((m : Int) ≤ (j : Int) + 1) = false := by simp; omega
                  have q4 : (j : Int) + 1 < (m : Int) := by omega
                  have HC3 := HC2.out
                  rw [if_neg (by omega), hhd] at HC3
                  by_cases h10 : d.toNat = 10
                  · have e1 : ((d.toNat : Int) == 10) = true := by simp; omega
                    have e2 : ((d.toNat : Int) != 10) = false := by simp; omega
                    have hd10 : d = 10 := UInt8.toNat_inj.1 h10
                    have HE : Hid (crl outs = l ++ crl (outs.drop (j + 1))) := by
                      rw [if_pos (by rw [hd10])] at HC3
                      exact HC3
                    clear HC1 HC2 HC3 hce hcells hcx HCR hdx hhd hd10
                    go_wp2
                    go_roundw
                    case rel => exact ⟨j + 1, l, la, lc, by omega, by go_num, rfl, hown, HE, by omega, hk3⟩
                    case measure => simp [intOf]; omega
                  · have e1 : ((d.toNat : Int) == 10) = false := by simp; omega
                    have e2 : ((d.toNat : Int) != 10) = true := by simp; omega
                    have HE : Hid (crl outs = (l ++ [10]) ++ crl (outs.drop (j + 1))) := by
                      rw [if_neg (by simp; intro h; exact h10 (by rw [h]; rfl))] at HC3
                      show _ = _
                      rw [HC3]
                      simp
                    clear HC1 HC2 HC3 hce hcells hcx HCR hdx hhd
                    go_wp2_with (at_builtin; refine wpList_app1 (K := K2) rfl (.tmp 92) (.tmp 93) 23 5 rfl i0 (.int .u8 0) Try.underlying23 hi hz0 hz1 rfl hz3 la l.length lc (bvs l) rfl (.int .u8 10) rfl wr.heap.size rfl hlb ?_ ?_ ?_ ?_)
                    all_goals try first | exact hown | exact HK3.out | exact (rfl : wr.heap.size = wr.heap.size)
                    · intro la1 lc1 w1 own1 kept1
                      go_wp2
                      go_roundw
                      case rel => exact ⟨j + 1, l ++ [10], la1, lc1, by omega, by go_num, by simp, own1.cast (by simp) (by simp [bvs]), HE, by simp; omega, hk3.trans kept1⟩
                      case measure => simp [intOf]; omega
              · have g1 : ((c.toNat : Int) == 13) = false := by simp; omega
                have g2' : ((c.toNat : Int) != 13) = true := by simp; omega
                have HE : Hid (crl outs = (l ++ [c]) ++ crl (outs.drop (j + 1))) := by
                  have h1 := HC2.out
                  rw [if_pos h13] at h1
                  show _ = _
                  rw [h1]
                  simp
                clear HC1 HC2 hce hcells hcx HCR
                go_wp2_with (at_builtin; refine wpList_app1 (K := K2) rfl (.tmp 72) (.tmp 77) 23 5 rfl i0 (.int .u8 0) Try.underlying23 hi hz0 hz1 rfl hz3 la l.length lc (bvs l) rfl (bv c) rfl wr.heap.size rfl hlb ?_ ?_ ?_ ?_)
                all_goals try first | exact hown | exact HK3.out | exact (rfl : wr.heap.size = wr.heap.size)
                · intro la1 lc1 w1 own1 kept1
                  go_wp2
                  go_roundw
                  case rel => exact ⟨j + 1, l ++ [c], la1, lc1, by omega, by go_num, by simp, own1.cast (by simp) (by simp [bvs]), HE, by simp; omega, hk3.trans kept1⟩
                  case measure => simp [intOf]; omega
            · obtain rfl : j = m := by omega
              have hfin : Hid (l = refB bs) := by
                show l = refB bs
                have h1 := HCR.out
                rw [List.drop_eq_nil_of_le (by rw [← HMM.out]; exact Nat.le_refl _), crl, List.append_nil] at h1
                rw [← h1]
                exact HCL.out
              have hcv := run_string_own (P := Try.prog) wr 23 9 5 Try.underlying23 Try.underlying5 Try.underlying9 hown
              go_wp2
              go_ret
              exact ⟨by rw [← hfin.out]; rfl, hkp.trans (hk3.mono HKa.out)⟩
end Go.Proofs.Ytnfallgpnoofiaa
