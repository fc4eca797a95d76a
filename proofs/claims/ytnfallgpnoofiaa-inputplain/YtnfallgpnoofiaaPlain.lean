/-
  The walk of the statement InputPlain: it returns true for every row of bytes.
-/
import Derived.Test.YtnfallgpnoofiaaDecodes
import Derived.Test.YtnfallgpnoofiaaTwo
namespace Go.Proofs.Ytnfallgpnoofiaa
open Go.RowKit

/-- What InputPlain makes of a byte. -/
def plY (b : UInt8) : UInt8 := UInt8.ofNat (b.toNat % 128)
def plA (b : UInt8) : List UInt8 := if (plY b).toNat = 13 then [10] else [plY b]
def plC (b : UInt8) : List UInt8 := if (plY b).toNat = 13 ∨ (plY b).toNat = 10 then [13, 10] else [plY b]
theorem plY_val (b : UInt8) : (plY b).toNat = b.toNat % 128 := by
  unfold plY
  rw [UInt8.toNat_ofNat']
  have := Nat.mod_lt b.toNat (show 0 < 128 by decide)
  omega
theorem plA_ok (l : List UInt8) : ∀ c ∈ l.flatMap plA, c.toNat < 128 ∧ c.toNat ≠ 13 := by
  intro c hc
  obtain ⟨b, _, hb⟩ := List.mem_flatMap.1 hc
  have := plY_val b
  have := Nat.mod_lt b.toNat (show 0 < 128 by decide)
  unfold plA at hb
  split at hb
  · simp at hb; subst hb; decide
  · simp at hb; subst hb; omega
theorem plC_ok (l : List UInt8) : ∀ c ∈ l.flatMap plC, c.toNat < 128 := by
  intro c hc
  obtain ⟨b, _, hb⟩ := List.mem_flatMap.1 hc
  have := plY_val b
  have := Nat.mod_lt b.toNat (show 0 < 128 by decide)
  unfold plC at hb
  split at hb
  · simp at hb; rcases hb with rfl | rfl <;> decide
  · simp at hb; subst hb; omega
theorem nl_plC : ∀ l : List UInt8, nl false (l.flatMap plC) = l.flatMap plA
  | [] => rfl
  | b :: l => by
    rw [List.flatMap_cons, List.flatMap_cons]
    have ih := nl_plC l
    by_cases h13 : (plY b).toNat = 13
    · have e1 : plC b = [13, 10] := by unfold plC; rw [if_pos (.inl h13)]
      have e2 : plA b = [10] := by unfold plA; rw [if_pos h13]
      rw [e1, e2]
      simp [nl, ih]
    · by_cases h10 : (plY b).toNat = 10
      · have h : plY b = 10 := UInt8.toNat_inj.1 h10
        have e1 : plC b = [13, 10] := by unfold plC; rw [if_pos (.inr h10)]
        have e2 : plA b = [10] := by unfold plA; rw [if_neg h13, h]
        rw [e1, e2]
        simp [nl, ih]
      · have e1 : plC b = [plY b] := by unfold plC; rw [if_neg (by omega)]
        have e2 : plA b = [plY b] := by unfold plA; rw [if_neg h13]
        rw [e1, e2]
        simp [nl, ih, h13]
theorem strip_low (l : List UInt8) (h : ∀ c ∈ l, c.toNat < 128) : strip l = l := by
  unfold strip
  rw [if_neg]
  intro hc
  cases l with
  | nil => simp [markB] at hc
  | cons c r =>
    have h0 := h c (by simp)
    simp [markB] at hc
    rw [hc.1] at h0
    revert h0
    decide
theorem dec_plA (l : List UInt8) : decS (l.flatMap plA) = l.flatMap plA := by
  rw [decS_spec, specB, ch0_low _ (fun c hc => (plA_ok l c hc).1), strip_low _ (fun c hc => (plA_ok l c hc).1), nl_id _ (fun c hc => (plA_ok l c hc).2)]
theorem dec_plC (l : List UInt8) : decS (l.flatMap plC) = l.flatMap plA := by
  rw [decS_spec, specB, ch0_low _ (plC_ok l), strip_low _ (plC_ok l), nl_plC]
theorem plA_len (l : List UInt8) : (l.flatMap plA).length = l.length := by
  induction l with
  | nil => rfl
  | cons b l ih =>
    rw [List.flatMap_cons, List.length_append, ih]
    unfold plA
    split <;> simp <;> omega
theorem plC_len (l : List UInt8) : (l.flatMap plC).length ≤ 2 * l.length := by
  induction l with
  | nil => simp
  | cons b l ih =>
    rw [List.flatMap_cons, List.length_append]
    have h1 : (plC b).length ≤ 2 := by
      unfold plC
      split <;> simp
    rw [List.length_cons]
    omega

set_option maxHeartbeats 2000000 in
theorem plain_walk (a : Option Addr) (bs : List UInt8) (cap : Nat) (w : World) (hcap : bs.length ≤ cap) (hcm : cap ≤ maxLen) (hrow : RowB (fun k => k < w.heap.size) w a bs) :
    Calls Try.prog 7 #[.slice a bs.length cap] w fun e w' => e = .returned (.bool true) ∧ Kept (fun k => k < w.heap.size) w w' := by
  have hkn := known_any (K := fun k => k < w.heap.size) (w := w) (fun _ h => h)
  have hm : bs.length ≤ 9223372036854775807 := by unfold maxLen at hcm; omega
  by_cases hlen : 3000 < bs.length
  · have hl' : (3000 : Int) < (bs.length : Int) := by omega
    go_enter Try.func7, Try.ntmps7
    go_wp2_with (go_at_call 9; refine hkn.mono ?_; rintro e w1 ⟨rfl, hk1⟩)
    go_ret
    exact ⟨rfl, hk1⟩
  · have hl' : ¬ (3000 : Int) < (bs.length : Int) := by omega
    obtain ⟨m, hmm⟩ : ∃ m, m = bs.length := ⟨_, rfl⟩
    have HM : Hid (m = bs.length) := hmm
    have HR : Hid (RowB (fun k => k < w.heap.size) w a bs) := hrow
    obtain ⟨K, hKd⟩ : ∃ K : Nat → Prop, K = fun k => k < w.heap.size := ⟨_, rfl⟩
    have HK : Hid (∀ k, K k → k < w.heap.size) := by rw [hKd]; exact fun _ h => h
    have HKd : Hid (K = fun k => k < w.heap.size) := hKd
    rw [← hKd] at hkn HR ⊢
    rw [← hmm] at hlen hm hl' hcap ⊢
    obtain ⟨i0, hi, hz0, hz1, hz2⟩ := info_parts Try.info5
    have hz3 : i0.bytes ≤ 64 := by omega
    clear hmm hKd hrow
    go_enter Try.func7, Try.ntmps7
    go_wp2_with (go_at_call 9; refine hkn.mono ?_; rintro e w1 ⟨rfl, hk1⟩)
    clear hkn
    go_loopw [3, 4, 5] (fun av cv iv wr => ∃ (i : Nat) (aa ca : Option Addr) (ac cc : Nat) (la lc : List UInt8), i ≤ m ∧ iv = .int .i64 i ∧ av = .slice aa la.length ac ∧ cv = .slice ca lc.length cc ∧ Own K wr 5 aa la.length ac (bvs la) ∧ Own K wr 5 ca lc.length cc (bvs lc) ∧ apart aa ca ∧ Hid (la = (bs.take i).flatMap plA) ∧ Hid (lc = (bs.take i).flatMap plC) ∧ Kept K w wr) (fun _ _ iv _ => m - (intOf iv).toNat)
    case atStart => exact ⟨0, none, none, 0, 0, [], [], Nat.zero_le _, rfl, rfl, rfl, Own.nil _ _ _, Own.nil _ _ _, (fun _ h => by cases h), rfl, rfl, hk1⟩
    case round =>
      clear hk1
      obtain ⟨i, aa, ca, ac, cc, la, lc, hin, rfl, rfl, rfl, owa, owc, hap, HLA, HLC, hkp⟩ := hrel
      have hla : la.length ≤ 3000 := by
        have := HLA.out; rw [this, plA_len]; simp; have := HM.out; omega
      have hlc : lc.length ≤ 6000 := by
        have h1 := HLC.out; have h2 := plC_len (bs.take i); rw [← h1] at h2; have h3 : (bs.take i).length ≤ i := List.length_take_le _ _; omega
      have HKL : Hid (∀ k, K k → k < wr.heap.size) := fun k hk => Nat.lt_of_lt_of_le (HK.out k hk) hkp.size
      by_cases hlt : i < m
      · have hib : i < bs.length := by rw [← HM.out]; exact hlt
        rcases HR.out with hnil | ⟨g, o, rfl, hg, hc⟩
        · rw [hnil] at hib; simp at hib
        obtain ⟨b, hb⟩ : ∃ b, b = bs[i] := ⟨_, rfl⟩
        have hcell : wr.cell? ⟨g, o + i, none⟩ = some (.int .u8 (b.toNat : Int)) := by rw [hb]; exact (hkp.cell hg).trans (hc i hib)
        have hy : (b.toNat : Int) % 128 = ((plY b).toNat : Int) := by rw [plY_val]; omega
        have HA1 : Hid ((bs.take (i + 1)).flatMap plA = la ++ plA b) := by
          show _ = _
          rw [List.take_succ_eq_append_getElem hib, List.flatMap_append, ← HLA.out, hb]; simp
        have HC1 : Hid ((bs.take (i + 1)).flatMap plC = lc ++ plC b) := by
          show _ = _
          rw [List.take_succ_eq_append_getElem hib, List.flatMap_append, ← HLC.out, hb]; simp
        unfold plA at HA1
        unfold plC at HC1
        obtain ⟨y, hyy⟩ : ∃ y, y = plY b := ⟨_, rfl⟩
        rw [← hyy] at hy HA1 HC1
        have q1 : (0 : Int) ≤ (i : Int) := by omega
        have q2 : (i : Int) < (m : Int) := by omega
        clear hb hyy hc HLA HLC
        have hla' : la.length ≤ 1099511627776 := by omega
        have hlc' : lc.length ≤ 1099511627776 := by omega
        by_cases h10 : y.toNat = 13 ∨ y.toNat = 10
        · have HA2 : Hid ((bs.take (i + 1)).flatMap plA = la ++ [10]) := by
            have h1 := HA1.out
            rcases h10 with h10 | h10
            · rw [if_pos h10] at h1; exact h1
            · have h2 : y = 10 := UInt8.toNat_inj.1 h10
              rw [if_neg (by omega), h2] at h1; exact h1
          have HC2 : Hid ((bs.take (i + 1)).flatMap plC = lc ++ [13, 10]) := by
            have h1 := HC1.out
            rw [if_pos h10] at h1; exact h1
          clear HA1 HC1
          rcases h10 with h10 | h10
          · have e13 : ((y.toNat : Int) == 13) = true := by simp; omega
            go_wp2_with (at_builtin; refine wpList_app1 (K := withK K ca) rfl (.tmp 28) (.tmp 30) 23 5 rfl i0 (.int .u8 0) Try.underlying23 hi hz0 hz1 rfl hz3 aa la.length ac (bvs la) rfl (.int .u8 10) rfl wr.heap.size rfl hla' (owa.guard hap) (withK_lt owc HKL.out) rfl ?_)
            intro aa1 ac1 w1 owa1 kp1
            obtain ⟨owa2, hap2⟩ := owa1.free
            have owc2 := owc.stay kp1
            have hkp2 := hkp.trans (kp1.mono withK_sub)
            have HKL2 : Hid (∀ k, K k → k < w1.heap.size) := fun k hk => Nat.lt_of_lt_of_le (HK.out k hk) hkp2.size
            clear kp1 owa1 owa owc hap HKL hkp hcell
            go_wp2_with (at_builtin; refine wpList_app1 (K := withK K aa1) rfl (.tmp 34) (.tmp 35) 23 5 rfl i0 (.int .u8 0) Try.underlying23 hi hz0 hz1 rfl hz3 ca lc.length cc (bvs lc) rfl (.int .u8 13) rfl w1.heap.size rfl hlc' (owc2.guard hap2.symm) (withK_lt owa2 HKL2.out) rfl ?_)
            intro ca1 cc1 w2 owc3 kp3
            have owa3 := owa2.stay kp3
            have hkp3 := hkp2.trans (kp3.mono withK_sub)
            have HKL3 : Hid (∀ k, K k → k < w2.heap.size) := fun k hk => Nat.lt_of_lt_of_le (HK.out k hk) hkp3.size
            clear kp3 owa2 owc2 HKL2 hkp2
            go_wp2_with (at_builtin; refine wpList_app1 (K := withK K aa1) rfl (.tmp 37) (.tmp 39) 23 5 rfl i0 (.int .u8 0) Try.underlying23 hi hz0 hz1 rfl hz3 ca1 (lc.length + 1) cc1 (bvs lc ++ [Value.int .u8 13]) rfl (.int .u8 10) rfl w2.heap.size rfl (by omega) owc3 (withK_lt owa3 HKL3.out) rfl ?_)
            intro ca2 cc2 w3 owc4 kp4
            have owa4 := owa3.stay kp4
            obtain ⟨owc5, hap5⟩ := owc4.free
            have hkp4 := hkp3.trans (kp4.mono withK_sub)
            go_wp2
            go_roundw
            case rel => exact ⟨i + 1, aa1, ca2, ac1, cc2, la ++ [10], lc ++ [13, 10], by omega, by go_num, by simp, by simp, owa4.cast (by simp) (by simp [bvs]), owc5.cast (by simp) (by simp [bvs]), hap5.symm, HA2.out.symm, HC2.out.symm, hkp4⟩
            case measure => simp [intOf]; omega
          · have h2 : y = 10 := UInt8.toNat_inj.1 h10
            subst h2
            have hy' : (b.toNat : Int) % 128 = 10 := hy
            clear hy
            go_wp2_with (at_builtin; refine wpList_app1 (K := withK K ca) rfl (.tmp 28) (.tmp 30) 23 5 rfl i0 (.int .u8 0) Try.underlying23 hi hz0 hz1 rfl hz3 aa la.length ac (bvs la) rfl (.int .u8 10) rfl wr.heap.size rfl hla' (owa.guard hap) (withK_lt owc HKL.out) rfl ?_)
            intro aa1 ac1 w1 owa1 kp1
            obtain ⟨owa2, hap2⟩ := owa1.free
            have owc2 := owc.stay kp1
            have hkp2 := hkp.trans (kp1.mono withK_sub)
            have HKL2 : Hid (∀ k, K k → k < w1.heap.size) := fun k hk => Nat.lt_of_lt_of_le (HK.out k hk) hkp2.size
            clear kp1 owa1 owa owc hap HKL hkp hcell
            go_wp2_with (at_builtin; refine wpList_app1 (K := withK K aa1) rfl (.tmp 34) (.tmp 35) 23 5 rfl i0 (.int .u8 0) Try.underlying23 hi hz0 hz1 rfl hz3 ca lc.length cc (bvs lc) rfl (.int .u8 13) rfl w1.heap.size rfl hlc' (owc2.guard hap2.symm) (withK_lt owa2 HKL2.out) rfl ?_)
            intro ca1 cc1 w2 owc3 kp3
            have owa3 := owa2.stay kp3
            have hkp3 := hkp2.trans (kp3.mono withK_sub)
            have HKL3 : Hid (∀ k, K k → k < w2.heap.size) := fun k hk => Nat.lt_of_lt_of_le (HK.out k hk) hkp3.size
            clear kp3 owa2 owc2 HKL2 hkp2
            go_wp2_with (at_builtin; refine wpList_app1 (K := withK K aa1) rfl (.tmp 37) (.tmp 39) 23 5 rfl i0 (.int .u8 0) Try.underlying23 hi hz0 hz1 rfl hz3 ca1 (lc.length + 1) cc1 (bvs lc ++ [Value.int .u8 13]) rfl (.int .u8 10) rfl w2.heap.size rfl (by omega) owc3 (withK_lt owa3 HKL3.out) rfl ?_)
            intro ca2 cc2 w3 owc4 kp4
            have owa4 := owa3.stay kp4
            obtain ⟨owc5, hap5⟩ := owc4.free
            have hkp4 := hkp3.trans (kp4.mono withK_sub)
            go_wp2
            go_roundw
            case rel => exact ⟨i + 1, aa1, ca2, ac1, cc2, la ++ [10], lc ++ [13, 10], by omega, by go_num, by simp, by simp, owa4.cast (by simp) (by simp [bvs]), owc5.cast (by simp) (by simp [bvs]), hap5.symm, HA2.out.symm, HC2.out.symm, hkp4⟩
            case measure => simp [intOf]; omega
        · have HA2 : Hid ((bs.take (i + 1)).flatMap plA = la ++ [y]) := by
            have h1 := HA1.out
            rw [if_neg (by omega)] at h1; exact h1
          have HC2 : Hid ((bs.take (i + 1)).flatMap plC = lc ++ [y]) := by
            have h1 := HC1.out
            rw [if_neg h10] at h1; exact h1
          clear HA1 HC1
          have e13 : ((y.toNat : Int) == 13) = false := by simp; omega
          have e10 : ((y.toNat : Int) == 10) = false := by simp; omega
          go_wp2_with (at_builtin; refine wpList_app1 (K := withK K ca) rfl (.tmp 28) (.tmp 30) 23 5 rfl i0 (.int .u8 0) Try.underlying23 hi hz0 hz1 rfl hz3 aa la.length ac (bvs la) rfl (bv y) rfl wr.heap.size rfl hla' (owa.guard hap) (withK_lt owc HKL.out) rfl ?_)
          intro aa1 ac1 w1 owa1 kp1
          obtain ⟨owa2, hap2⟩ := owa1.free
          have owc2 := owc.stay kp1
          have hkp2 := hkp.trans (kp1.mono withK_sub)
          have HKL2 : Hid (∀ k, K k → k < w1.heap.size) := fun k hk => Nat.lt_of_lt_of_le (HK.out k hk) hkp2.size
          clear kp1 owa1 owa owc hap HKL hkp hcell
          go_wp2_with (at_builtin; refine wpList_app1 (K := withK K aa1) rfl (.tmp 37) (.tmp 39) 23 5 rfl i0 (.int .u8 0) Try.underlying23 hi hz0 hz1 rfl hz3 ca lc.length cc (bvs lc) rfl (bv y) rfl w1.heap.size rfl hlc' (owc2.guard hap2.symm) (withK_lt owa2 HKL2.out) rfl ?_)
          intro ca2 cc2 w3 owc4 kp4
          have owa4 := owa2.stay kp4
          obtain ⟨owc5, hap5⟩ := owc4.free
          have hkp4 := hkp2.trans (kp4.mono withK_sub)
          go_wp2
          go_roundw
          case rel => exact ⟨i + 1, aa1, ca2, ac1, cc2, la ++ [y], lc ++ [y], by omega, by go_num, by simp, by simp, owa4.cast (by simp) (by simp [bvs]), owc5.cast (by simp) (by simp [bvs]), hap5.symm, HA2.out.symm, HC2.out.symm, hkp4⟩
          case measure => simp [intOf]; omega
      · have hbt : bs.take i = bs := List.take_of_length_le (by rw [← HM.out]; omega)
        have h1 := HLA.out
        have h2 := HLC.out
        rw [hbt] at h1 h2
        have hd1 : decS la = la := by rw [h1]; exact dec_plA bs
        have hd2 : decS lc = la := by rw [h1, h2]; exact dec_plC bs
        clear h1 h2 HLA HLC hbt
        have rowA : RowB (fun k => k < wr.heap.size) wr aa la := rowB_own owa
        have rowC : RowB (fun k => k < wr.heap.size) wr ca lc := rowB_own owc
        have dA : ∀ X, Kept (fun k => k < wr.heap.size) wr X → Calls Try.prog 13 #[.slice aa la.length ac] X fun e w' => e = .returned (strV la) ∧ Kept (fun k => k < wr.heap.size) wr w' := by
          intro X hX
          have h1 := decode_any (K := fun k => k < wr.heap.size) (w := X) (fun k hk => Nat.lt_of_lt_of_le hk hX.size) la aa ac (rowA.kept hX) (by omega)
          rw [hd1] at h1
          exact h1.mono fun e w' ⟨q1, q2⟩ => ⟨q1, hX.trans q2⟩
        have dC : ∀ X, Kept (fun k => k < wr.heap.size) wr X → Calls Try.prog 13 #[.slice ca lc.length cc] X fun e w' => e = .returned (strV la) ∧ Kept (fun k => k < wr.heap.size) wr w' := by
          intro X hX
          have h1 := decode_any (K := fun k => k < wr.heap.size) (w := X) (fun k hk => Nat.lt_of_lt_of_le hk hX.size) lc ca cc (rowC.kept hX) (by omega)
          rw [hd2] at h1
          exact h1.mono fun e w' ⟨q1, q2⟩ => ⟨q1, hX.trans q2⟩
        have cv : ∀ X, Kept (fun k => k < wr.heap.size) wr X → (convert 23 9 (.slice aa la.length ac)).run Try.prog X = .ok (.string ⟨la.toArray⟩) X := fun X hX => run_string_own X 23 9 5 Try.underlying23 Try.underlying5 Try.underlying9 (owa.all hX)
        clear hd1 hd2 rowA rowC owa owc
        go_wp2
        go_region_held3 (fun w' => Kept (fun k => k < wr.heap.size) wr w' ∧ (convert 23 9 (.slice aa la.length ac)).run Try.prog w' = .ok (.string ⟨la.toArray⟩) w') (first | exact ⟨(Kept.refl _ _).drew, cv _ (Kept.refl _ _).drew⟩ | exact ⟨hkq, cv _ hkq⟩) ((first | (go_at_call 13; refine (dA _ ?_).mono ?_; (first | exact hkq | exact (Kept.refl _ _).drew); rintro e w' ⟨rfl, hkq⟩) | (go_at_call 13; refine (dC _ ?_).mono ?_; (first | exact hkq | exact (Kept.refl _ _).drew); rintro e w' ⟨rfl, hkq⟩)))
        go_wp2
        go_ret
        exact ⟨rfl, hkp.trans (hkq.mono HKL.out)⟩
end Go.Proofs.Ytnfallgpnoofiaa
