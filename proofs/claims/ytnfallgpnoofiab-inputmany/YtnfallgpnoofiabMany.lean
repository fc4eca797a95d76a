/-
  The walk of the statement InputMany: it returns true for every row of bytes.
-/
import Derived.Test.YtnfallgpnoofiabConv
import Derived.Test.YtnfallgpnoofiabManyPure
import Derived.Test.YtnfallgpnoofiabRowIn
namespace Go.Proofs.Ytnfallgpnoofiab
open Go.RowKit
theorem dec_len (l : List UInt8) : (decS l).length ≤ 6 * l.length + 3 := by
  have h1 := (St.feed_ok St.Ok.new l).2
  unfold decS St.finish
  have h2 : St.new.text.length = 0 := rfl
  rw [List.length_append]
  have h3 : (if 0 < (St.new.feed l).count then repB else []).length ≤ 3 := by split <;> simp [repB]
  have h4 := List.length_take_le (St.new.feed l).settled (St.new.feed l).text
  have h5 : ((St.new.feed l).text.take (St.new.feed l).settled).length ≤ (St.new.feed l).text.length := by simp; omega
  omega
theorem cntS_take (l : List UInt8) (i : Nat) (h : i < l.length) : cntS (l.take (i + 1)) = cntS (l.take i) + if l[i].toNat < 128 ∨ 191 < l[i].toNat then 1 else 0 := by
  rw [List.take_succ_eq_append_getElem h, cntS_append, cntS_cons]
  rfl
set_option maxHeartbeats 1000000 in
theorem many_walk (a : Option Addr) (bs : List UInt8) (cap : Nat) (w : World) (hcap : bs.length ≤ cap) (hcm : cap ≤ maxLen) (hrow : RowB (fun k => k < w.heap.size) w a bs) :
    Calls Try.prog 3 #[.slice a bs.length cap] w fun e w' => e = .returned (.bool true) ∧ Kept (fun k => k < w.heap.size) w w' := by
  have hkn := known_any (K := fun k => k < w.heap.size) (w := w) (fun _ h => h)
  have hm : bs.length ≤ 9223372036854775807 := by unfold maxLen at hcm; omega
  by_cases hlen : 3000 < bs.length
  · have hl' : (3000 : Int) < (bs.length : Int) := by omega
    go_enter Try.func3, Try.ntmps3
    go_wp2_with (go_at_call 4; refine hkn.mono ?_; rintro e w1 ⟨rfl, hk1⟩)
    go_ret
    exact ⟨rfl, hk1⟩
  · have hl' : ¬ (3000 : Int) < (bs.length : Int) := by omega
    have hdl := dec_len bs
    have HC : Hid (cntS (decS bs) ≤ bs.length) := dec_cnt bs
    have H13 : Hid (∀ c ∈ decS bs, c.toNat ≠ 13) := dec_13 bs
    have HA : Hid ((decS bs).take 3 ≠ markB → decS (decS bs) = decS bs) := dec_again bs
    go_enter Try.func3, Try.ntmps3
    go_wp2_with (go_at_call 4; refine hkn.mono ?_; rintro e w1 ⟨rfl, hk1⟩)
    have hK1 : ∀ k, k < w.heap.size → k < w1.heap.size := fun k hk => Nat.lt_of_lt_of_le hk hk1.size
    refine (decode_any hK1 bs a cap (hrow.kept hk1) (by omega)).mono ?_
    rintro e w2 ⟨rfl, hk2⟩
    have hkp := hk1.trans hk2
    obtain ⟨sl, hsl⟩ : ∃ sl, sl = decS bs := ⟨_, rfl⟩
    rw [← hsl] at hdl HC H13 HA ⊢
    clear hkn hk1 hk2 hK1 hsl
    have hcl := cntS_le sl
    go_wp2
    go_loop [4, 5] (fun nv iv => ∃ i : Nat, i ≤ sl.length ∧ iv = .int .i64 i ∧ nv = .int .i64 (cntS (sl.take i))) (fun _ iv => sl.length - (intOf iv).toNat)
    case atStart => exact ⟨0, Nat.zero_le _, rfl, rfl⟩
    case round =>
      obtain ⟨i, hi, rfl, rfl⟩ := hrel
      have hct : cntS (sl.take i) ≤ i := by have h1 := cntS_le (sl.take i); simp at h1; omega
      by_cases hlt : i < sl.length
      · have HT := cntS_take sl i hlt
        obtain ⟨c, hc⟩ : ∃ c, c = sl[i] := ⟨_, rfl⟩
        have HT2 : Hid (cntS (sl.take (i + 1)) = cntS (sl.take i) + if c.toNat < 128 ∨ 191 < c.toNat then 1 else 0) := by rw [hc]; exact HT
        have h13 : ((c.toNat : Int) == 13) = false := by
          have h1 := H13.out _ (List.getElem_mem hlt)
          rw [← hc] at h1
          simp
          omega
        have hg : ∀ h, (⟨sl.toArray⟩ : ByteArray)[i]'h = c := fun h => by rw [hc]; rfl
        obtain ⟨q, hq⟩ : ∃ q, q = cntS (sl.take i) := ⟨_, rfl⟩
        rw [← hq] at hct HT2 ⊢
        clear HT hq hc
        by_cases g1 : c.toNat < 128
        · have g1' : (c.toNat : Int) < 128 := by omega
          go_wp2
          go_round
          case rel => exact ⟨i + 1, by omega, by go_num, by rw [HT2.out, if_pos (.inl g1)]; go_num⟩
          case measure => simp [intOf]; omega
        · have g1' : decide ((c.toNat : Int) < 128) = false := by simp; omega
          by_cases g2 : 191 < c.toNat
          · have g2' : (191 : Int) < (c.toNat : Int) := by omega
            go_wp2
            go_round
            case rel => exact ⟨i + 1, by omega, by go_num, by rw [HT2.out, if_pos (.inr g2)]; go_num⟩
            case measure => simp [intOf]; omega
          · have g2' : decide ((191 : Int) < (c.toNat : Int)) = false := by simp; omega
            go_wp2
            go_round
            case rel => exact ⟨i + 1, by omega, by go_num, by rw [HT2.out, if_neg (by omega)]; go_num⟩
            case measure => simp [intOf]; omega
      · have htk : sl.take i = sl := List.take_of_length_le (by omega)
        rw [htk] at hct ⊢
        have hcb := conv_bytes
        have hex : ((⟨sl.toArray⟩ : ByteArray).extract 0 3).toList = sl.take 3 := by rw [ByteArray.extract_mk]; simp
        obtain ⟨q, hq⟩ : ∃ q, q = cntS sl := ⟨_, rfl⟩
        rw [← hq] at HC hct ⊢
        have hqb : (q : Int) ≤ (bs.length : Int) := by have := HC.out; omega
        clear htk hq
        by_cases hmk : sl.take 3 = markB
        · have h3 : 3 ≤ sl.length := by
            have := congrArg List.length hmk
            simp [markB] at this
            omega
          have h3' : (3 : Int) ≤ (sl.length : Int) := by omega
          have hbq : (sl.take 3 == [239, 187, 191]) = true := by rw [hmk]; decide
          clear hmk
          go_wp2
          go_ret
          exact ⟨rfl, hkp⟩
        · have hout := HA.out hmk
          have d1 := fun X N n c hN hn => decode_str X ⟨sl.toArray⟩ ⟨sl.toArray⟩ N n c hN hn (by show sl.toArray.size ≤ _; simp; omega) hout
          by_cases h3 : 3 ≤ sl.length
          · have h3' : (3 : Int) ≤ (sl.length : Int) := by omega
            have hbq : (sl.take 3 == [239, 187, 191]) = false := by simpa [markB] using hmk
            clear hmk hout
            go_wp2_with fail
            refine (d1 _ _ _ _ rfl (by show _ = sl.toArray.size; simp)).mono ?_
            rintro e w3 ⟨rfl, hk3⟩
            go_wp2
            go_ret
            exact ⟨rfl, hkp.trans (hk3.mono fun k hk => Nat.lt_of_lt_of_le hk hkp.size)⟩
          · have h3' : decide ((3 : Int) ≤ (sl.length : Int)) = false := by simp; omega
            clear hmk hout
            go_wp2_with fail
            refine (d1 _ _ _ _ rfl (by show _ = sl.toArray.size; simp)).mono ?_
            rintro e w3 ⟨rfl, hk3⟩
            go_wp2
            go_ret
            exact ⟨rfl, hkp.trans (hk3.mono fun k hk => Nat.lt_of_lt_of_le hk hkp.size)⟩
end Go.Proofs.Ytnfallgpnoofiab
