/-
  What the program's takeNumber answers.
-/
import Derived.Test.YtncfgahnjakeiaaDoorName
import Derived.Deep.DeepCutAuto
import Derived.Deep.RegionHeld3
import Derived.Deep.CutBlock
import Derived.Deep.LoopGhost
namespace Go.Proofs.YtncfgahnjakeiaaDoor
open Go.RowKit

theorem get_data (s : ByteArray) (k : Nat) (h : k < s.size) : s.data.toList[k]'h = s[k] := rfl
theorem drop_cons {s : ByteArray} {k : Nat} (h : k < s.size) : s.data.toList.drop k = s[k] :: s.data.toList.drop (k + 1) := List.drop_eq_getElem_cons (show k < s.data.toList.length from h)

set_option maxRecDepth 20000 in
set_option maxHeartbeats 1000000 in
theorem takeNumber_any (s : ByteArray) (h35 : 0 < s.size) (K : Nat → Prop) (w : World) (hK : ∀ k, K k → k < w.heap.size) (hs : s.size < 1000000) (hT : Tabs w) :
    Calls Tryd.prog 79 #[.string s] w fun e w' => e = .returned (.tuple #[.string (numL (s.data.toList.drop 1)).text, .int .i64 (numL (s.data.toList.drop 1)).n, .int .u8 (numL (s.data.toList.drop 1)).fault]) ∧ w' = w := by
  obtain ⟨R, hR⟩ : ∃ R, numL (s.data.toList.drop 1) = R := ⟨_, rfl⟩
  rw [hR]
  have HR : Hid (numL (s.data.toList.drop 1) = R) := hR
  clear hR
  obtain ⟨x, hx⟩ : ∃ x, hexN (s.data.toList.drop 1) = x := ⟨_, rfl⟩
  have hxl := hexN_le (s.data.toList.drop 1)
  rw [hx, List.length_drop] at hxl
  have hxl' : x ≤ s.size - 1 ∧ x ≤ 1 := hxl
  obtain ⟨b, hb⟩ : ∃ b, baseN x = b := ⟨_, rfl⟩
  have hbl := baseN_le x
  rw [hb] at hbl
  have HR1 : Hid (numR x b (s.data.toList.drop (1 + x)) = R) := by
    have := HR.out
    unfold numL at this
    rw [hx, hb, List.drop_drop] at this
    exact this
  clear HR
  go_enter Tryd.func79, Tryd.ntmps79
  go_upto_region 2 with fail
  go_cut [27] (fun s27 wc => s27 = .bool (decide (x = 1)) ∧ wc = w)
  case first =>
    clear HR1 hT hK hxl hbl
    by_cases h1 : 1 < s.size
    · have e1 : decide ((1 : Int) < (s.size : Int)) = true := by simp; omega
      have hcons := drop_cons h1
      rw [hcons] at hx
      have hx' : (if s[1] = 120 ∨ s[1] = 88 then 1 else 0) = x := hx
      clear hcons hx
      by_cases hA : s[1] = 120
      · have ea : ((s[1].toNat : Int) == 120) = true := by rw [hA]; rfl
        rw [if_pos (.inl hA)] at hx'
        subst hx'
        have hb' : 16 = b := hb
        subst hb'
        clear hA hb
        go_wp2
        go_meet
        case rel => exact ⟨rfl, rfl⟩
      · have ea : ((s[1].toNat : Int) == 120) = false := by
          simp
          intro h
          exact hA (UInt8.toNat_inj.1 (by show s[1].toNat = 120; omega))
        by_cases hB : s[1] = 88
        · have eb : ((s[1].toNat : Int) == 88) = true := by rw [hB]; rfl
          rw [if_pos (.inr hB)] at hx'
          subst hx'
          have hb' : 16 = b := hb
          subst hb'
          clear hA hB hb
          go_wp2
          go_meet
          case rel => exact ⟨rfl, rfl⟩
        · have eb : ((s[1].toNat : Int) == 88) = false := by
            simp
            intro h
            exact hB (UInt8.toNat_inj.1 (by show s[1].toNat = 88; omega))
          rw [if_neg (by simp [hA, hB])] at hx'
          subst hx'
          have hb' : 10 = b := hb
          subst hb'
          clear hA hB hb
          go_wp2
          go_meet
          case rel => exact ⟨rfl, rfl⟩
    · have e1 : decide ((1 : Int) < (s.size : Int)) = false := by simp; omega
      have hx0 : x = 0 := by omega
      subst hx0
      have hb' : 10 = b := hb
      subst hb'
      clear hb hx
      go_wp2
      go_meet
      case rel => exact ⟨rfl, rfl⟩
  case rest =>
    obtain ⟨rfl, rfl⟩ := hcut
    clear hx hxl
    go_upto_if 27 with fail
    go_cut [5, 6] (fun s5 s6 w2 => s5 = .int .i64 (1 + x : Nat) ∧ s6 = .int .i32 b ∧ w2 = wc)
    case first =>
      clear HR1 hT hK
      have hx1 : x = 0 ∨ x = 1 := by omega
      rcases hx1 with rfl | rfl
      · have hb' : 10 = b := hb
        subst hb'
        go_wp2
        go_meet
        case rel => exact ⟨rfl, rfl, rfl⟩
      · have hb' : 16 = b := hb
        subst hb'
        go_wp2
        go_meet
        case rel => exact ⟨rfl, rfl, rfl⟩
    case rest =>
      obtain ⟨rfl, rfl, rfl⟩ := hcut
      have hl0 : s.data.toList.length = s.size := rfl
      obtain ⟨f, hf⟩ : ∃ f, 1 + x = f := ⟨_, rfl⟩
      rw [hf] at HR1 ⊢
      have hfs : f ≤ s.size := by omega
      have hb2 : b = 10 ∨ b = 16 := by
        rw [← hb]
        unfold baseN
        split
        · exact .inr rfl
        · exact .inl rfl
      have hb2 : b = 10 ∨ b = 16 := by
        rw [← hb]
        unfold baseN
        split
        · exact .inr rfl
        · exact .inl rfl
      have HF0 : Hid (1 + x = f) := hf
      have hb2 : b = 10 ∨ b = 16 := by
        rw [← hb]
        unfold baseN
        split
        · exact .inr rfl
        · exact .inl rfl
      clear hb hf
      go_upto_block 0 with fail
      go_cut [5, 8] (fun s5 s8 w3 => s5 = .int .i64 (f + runN b (s.data.toList.drop f) : Nat) ∧ s8 = .int .i32 (codeL b ((s.data.toList.drop f).take (runN b (s.data.toList.drop f)))) ∧ w3 = wc)
      case first =>
        clear HR1 hT hK
        rcases hb2 with rfl | rfl
        · go_wp2_with fail
          go_loopg [5, 8] (s.size - f) (fun g n c wr => ∃ k : Nat, g = s.size - f - k ∧ k ≤ runN 10 (s.data.toList.drop f) ∧ n = .int .i64 (f + k : Nat) ∧ c = .int .i32 (codeL 10 ((s.data.toList.drop f).take k)) ∧ wr = wc)
          case atStart => exact ⟨0, rfl, Nat.zero_le _, rfl, rfl, rfl⟩
          case round =>
            obtain ⟨k, hgk, hk, rfl, rfl, rfl⟩ := hrel
            have hkl := runN_le 10 (s.data.toList.drop f)
            rw [List.length_drop, hl0] at hkl
            have hcl := codeL_le (b := 10) (by omega) ((s.data.toList.drop f).take k)
            by_cases hlt : f + k < s.size
            · have hk' : k < (s.data.toList.drop f).length := by rw [List.length_drop]; omega
              have hel : (s.data.toList.drop f)[k] = s[f + k] := by rw [List.getElem_drop]; rfl
              have hdig := digit_any s[f + k] wr
              have HB : Hid (k + 1 ≤ runN 10 (s.data.toList.drop f) ↔ digV s[f + k] < 10) := by
                constructor
                · intro h
                  have := runN_digit 10 (s.data.toList.drop f) k hk' h
                  rwa [hel] at this
                · intro h
                  rcases Nat.lt_or_ge k (runN 10 (s.data.toList.drop f)) with h1 | h1
                  · exact h1
                  · have he : runN 10 (s.data.toList.drop f) = k := by omega
                    have := runN_stop 10 (s.data.toList.drop f) (by omega)
                    simp only [he] at this
                    rw [hel] at this
                    exact absurd h this
              have HC : Hid (codeL 10 ((s.data.toList.drop f).take (k + 1)) = codeF 10 (codeL 10 ((s.data.toList.drop f).take k)) s[f + k]) := by
                show codeL _ _ = _
                rw [List.take_succ_eq_append_getElem hk', codeL_snoc, hel]
              have hd16 := digV_le s[f + k]
              have HF : Hid (∀ c, codeF 10 c s[f + k] = if c ≤ 1114111 then c * 10 + digV s[f + k] else c) := fun _ => rfl
              obtain ⟨d, hd⟩ : ∃ d, digV s[f + k] = d := ⟨_, rfl⟩
              rw [hd] at hdig HB hd16 HF
              obtain ⟨c, hc⟩ : ∃ c, codeL 10 ((s.data.toList.drop f).take k) = c := ⟨_, rfl⟩
              have HD : Hid (codeL 10 ((s.data.toList.drop f).take k) = c) := hc
              rw [hc] at HC hcl ⊢
              obtain ⟨m, hm⟩ : ∃ m, runN 10 (s.data.toList.drop f) = m := ⟨_, rfl⟩
              have HM : Hid (runN 10 (s.data.toList.drop f) = m) := hm
              rw [hm] at hk hkl HB
              clear hd hc hm hel hk'
              by_cases hdb : d < 10
              · have hk1 := HB.out.2 hdb
                clear HB
                by_cases hcc : c ≤ 1114111
                · have HC2 : Hid (codeL 10 ((s.data.toList.drop f).take (k + 1)) = c * 10 + d) := by
                    show codeL _ _ = _
                    rw [HC.out, HF.out, if_pos hcc]
                  clear HC HF HD
                  go_wp2_with fail
                  refine hdig.mono ?_
                  rintro e w1 ⟨rfl, rfl⟩
                  go_wp2
                  go_roundg (s.size - f - (k + 1))
                  case rel => exact ⟨k + 1, rfl, by rw [HM.out]; omega, by go_num, by rw [HC2.out]; go_num, rfl⟩
                  case measure => omega
                · have HC2 : Hid (codeL 10 ((s.data.toList.drop f).take (k + 1)) = c) := by
                    show codeL _ _ = _
                    rw [HC.out, HF.out, if_neg hcc]
                  clear HC HF HD
                  go_wp2_with fail
                  refine hdig.mono ?_
                  rintro e w1 ⟨rfl, rfl⟩
                  go_wp2
                  go_roundg (s.size - f - (k + 1))
                  case rel => exact ⟨k + 1, rfl, by rw [HM.out]; omega, by go_num, by rw [HC2.out], rfl⟩
                  case measure => omega
              · have hkm : k = m := Nat.le_antisymm hk (by
                  rcases Nat.lt_or_ge k m with h | h
                  · exact absurd (HB.out.1 h) hdb
                  · exact h)
                subst hkm
                clear HB HC HF
                go_wp2_with fail
                refine hdig.mono ?_
                rintro e w1 ⟨rfl, rfl⟩
                go_wp2
                go_meet
                case rel => exact ⟨by rw [HM.out]; go_num, by rw [HM.out, HD.out], rfl⟩
            · have hkm : runN 10 (s.data.toList.drop f) = k := by omega
              have HM : Hid (runN 10 (s.data.toList.drop f) = k) := hkm
              obtain ⟨c, hc⟩ : ∃ c, codeL 10 ((s.data.toList.drop f).take k) = c := ⟨_, rfl⟩
              have HD : Hid (codeL 10 ((s.data.toList.drop f).take k) = c) := hc
              rw [hc]
              clear hc hkm
              go_wp2
              go_meet
              case rel => exact ⟨by rw [HM.out], by rw [HM.out, HD.out], rfl⟩
        · go_wp2_with fail
          go_loopg [5, 8] (s.size - f) (fun g n c wr => ∃ k : Nat, g = s.size - f - k ∧ k ≤ runN 16 (s.data.toList.drop f) ∧ n = .int .i64 (f + k : Nat) ∧ c = .int .i32 (codeL 16 ((s.data.toList.drop f).take k)) ∧ wr = wc)
          case atStart => exact ⟨0, rfl, Nat.zero_le _, rfl, rfl, rfl⟩
          case round =>
            obtain ⟨k, hgk, hk, rfl, rfl, rfl⟩ := hrel
            have hkl := runN_le 16 (s.data.toList.drop f)
            rw [List.length_drop, hl0] at hkl
            have hcl := codeL_le (b := 16) (by omega) ((s.data.toList.drop f).take k)
            by_cases hlt : f + k < s.size
            · have hk' : k < (s.data.toList.drop f).length := by rw [List.length_drop]; omega
              have hel : (s.data.toList.drop f)[k] = s[f + k] := by rw [List.getElem_drop]; rfl
              have hdig := digit_any s[f + k] wr
              have HB : Hid (k + 1 ≤ runN 16 (s.data.toList.drop f) ↔ digV s[f + k] < 16) := by
                constructor
                · intro h
                  have := runN_digit 16 (s.data.toList.drop f) k hk' h
                  rwa [hel] at this
                · intro h
                  rcases Nat.lt_or_ge k (runN 16 (s.data.toList.drop f)) with h1 | h1
                  · exact h1
                  · have he : runN 16 (s.data.toList.drop f) = k := by omega
                    have := runN_stop 16 (s.data.toList.drop f) (by omega)
                    simp only [he] at this
                    rw [hel] at this
                    exact absurd h this
              have HC : Hid (codeL 16 ((s.data.toList.drop f).take (k + 1)) = codeF 16 (codeL 16 ((s.data.toList.drop f).take k)) s[f + k]) := by
                show codeL _ _ = _
                rw [List.take_succ_eq_append_getElem hk', codeL_snoc, hel]
              have hd16 := digV_le s[f + k]
              have HF : Hid (∀ c, codeF 16 c s[f + k] = if c ≤ 1114111 then c * 16 + digV s[f + k] else c) := fun _ => rfl
              obtain ⟨d, hd⟩ : ∃ d, digV s[f + k] = d := ⟨_, rfl⟩
              rw [hd] at hdig HB hd16 HF
              obtain ⟨c, hc⟩ : ∃ c, codeL 16 ((s.data.toList.drop f).take k) = c := ⟨_, rfl⟩
              have HD : Hid (codeL 16 ((s.data.toList.drop f).take k) = c) := hc
              rw [hc] at HC hcl ⊢
              obtain ⟨m, hm⟩ : ∃ m, runN 16 (s.data.toList.drop f) = m := ⟨_, rfl⟩
              have HM : Hid (runN 16 (s.data.toList.drop f) = m) := hm
              rw [hm] at hk hkl HB
              clear hd hc hm hel hk'
              by_cases hdb : d < 16
              · have hk1 := HB.out.2 hdb
                clear HB
                by_cases hcc : c ≤ 1114111
                · have HC2 : Hid (codeL 16 ((s.data.toList.drop f).take (k + 1)) = c * 16 + d) := by
                    show codeL _ _ = _
                    rw [HC.out, HF.out, if_pos hcc]
                  clear HC HF HD
                  go_wp2_with fail
                  refine hdig.mono ?_
                  rintro e w1 ⟨rfl, rfl⟩
                  go_wp2
                  go_roundg (s.size - f - (k + 1))
                  case rel => exact ⟨k + 1, rfl, by rw [HM.out]; omega, by go_num, by rw [HC2.out]; go_num, rfl⟩
                  case measure => omega
                · have HC2 : Hid (codeL 16 ((s.data.toList.drop f).take (k + 1)) = c) := by
                    show codeL _ _ = _
                    rw [HC.out, HF.out, if_neg hcc]
                  clear HC HF HD
                  go_wp2_with fail
                  refine hdig.mono ?_
                  rintro e w1 ⟨rfl, rfl⟩
                  go_wp2
                  go_roundg (s.size - f - (k + 1))
                  case rel => exact ⟨k + 1, rfl, by rw [HM.out]; omega, by go_num, by rw [HC2.out], rfl⟩
                  case measure => omega
              · have hkm : k = m := Nat.le_antisymm hk (by
                  rcases Nat.lt_or_ge k m with h | h
                  · exact absurd (HB.out.1 h) hdb
                  · exact h)
                subst hkm
                clear HB HC HF
                go_wp2_with fail
                refine hdig.mono ?_
                rintro e w1 ⟨rfl, rfl⟩
                go_wp2
                go_meet
                case rel => exact ⟨by rw [HM.out]; go_num, by rw [HM.out, HD.out], rfl⟩
            · have hkm : runN 16 (s.data.toList.drop f) = k := by omega
              have HM : Hid (runN 16 (s.data.toList.drop f) = k) := hkm
              obtain ⟨c, hc⟩ : ∃ c, codeL 16 ((s.data.toList.drop f).take k) = c := ⟨_, rfl⟩
              have HD : Hid (codeL 16 ((s.data.toList.drop f).take k) = c) := hc
              rw [hc]
              clear hc hkm
              go_wp2
              go_meet
              case rel => exact ⟨by rw [HM.out], by rw [HM.out, HD.out], rfl⟩
      case rest =>
        obtain ⟨rfl, rfl, rfl⟩ := hcut
        have hkl := runN_le b (s.data.toList.drop f)
        rw [List.length_drop, hl0] at hkl
        have hcl := codeL_le (b := b) hbl.2 ((s.data.toList.drop f).take (runN b (s.data.toList.drop f)))
        have HR2 : Hid (R = numR x b (s.data.toList.drop f)) := HR1.out.symm
        unfold numR at HR2
        rw [List.drop_drop] at HR2
        obtain ⟨c, hc⟩ : ∃ c, codeL b ((s.data.toList.drop f).take (runN b (s.data.toList.drop f))) = c := ⟨_, rfl⟩
        rw [hc] at HR2 hcl ⊢
        obtain ⟨m, hm⟩ : ∃ m, runN b (s.data.toList.drop f) = m := ⟨_, rfl⟩
        rw [hm] at HR2 hkl ⊢
        clear hc hm HR1
        have hmean := meant_any c hcl wc hT
        have hpre := fun X => pre_any (s.extract (f + m) s.size) ⟨#[59]⟩ X
        have hsemi : preS ⟨#[59]⟩ (s.extract (f + m) s.size) = semi (s.data.toList.drop (f + m)) := by
          unfold preS semi
          rw [extract_list]
          have e1 : s.data.toList.take s.size = s.data.toList := List.take_length
          rw [e1]
        rw [hsemi] at hpre
        obtain ⟨se, hse⟩ : ∃ se, semi (s.data.toList.drop (f + m)) = se := ⟨_, rfl⟩
        rw [hse] at hpre HR2
        have hsl : se = true → f + m < s.size := by
          intro h
          rw [h] at hse
          have := semi_length hse
          rw [List.length_drop, hl0] at this
          omega
        have hx1 : x ≤ 1 := hxl'.2
        clear hsemi hse hT hK hl0 hbl hb2 hxl' h35
        by_cases hm0 : m = 0
        · subst hm0
          have HR3 : Hid (R = none0) := HR2.out.trans (if_pos rfl)
          clear HR2 hpre hmean
          go_wp2
          go_ret3
          exact ⟨tup3 (fields HR3.out), rfl⟩
        · have e0 : (((f + m : Nat) : Int) == (f : Int)) = false := by simp; omega
          have e0' : (((f : Int) + (m : Int)) == (f : Int)) = false := by simp; omega
          have HR3 : Hid (R = ⟨Utf8.encode (meantC c), 2 + x + m + (if se = true then 1 else 0), if meantF c = 0 then (if se = true then 0 else 1) else meantF c⟩) := HR2.out.trans (if_neg hm0)
          clear HR2 hm0
          have hm2 : meantF c = 0 ∨ meantF c = 2 := by
            unfold meantF
            repeat' split
            all_goals simp
          obtain ⟨mc, hmc⟩ : ∃ mc, meantC c = mc := ⟨_, rfl⟩
          obtain ⟨mf, hmf⟩ : ∃ mf, meantF c = mf := ⟨_, rfl⟩
          rw [hmc, hmf] at HR3 hmean
          rw [hmf] at hm2
          clear hmc hmf
          have hfi := HF0.out
          cases se with
          | true =>
            have hsl := hsl rfl
            rcases hm2 with rfl | rfl
            · have HR4 := fields HR3.out
              have HR5 : Hid (R.text = Utf8.encode mc ∧ (R.n : Int) = 1 + ((f : Int) + (m : Int) + 1) ∧ (R.fault : Int) = 0) := ⟨HR4.1, HR4.2.1.trans (by simp; omega), HR4.2.2⟩
              clear HR4 HR3
              go_wp2_with fail
              refine hmean.mono ?_
              rintro e w1 ⟨rfl, rfl⟩
              go_wp2_with fail
              refine (hpre _).mono ?_
              rintro e w1 ⟨rfl, rfl⟩
              go_wp2
              go_ret3
              exact ⟨tup3 HR5.out, rfl⟩
            · have HR4 := fields HR3.out
              have HR5 : Hid (R.text = Utf8.encode mc ∧ (R.n : Int) = 1 + ((f : Int) + (m : Int) + 1) ∧ (R.fault : Int) = 2) := ⟨HR4.1, HR4.2.1.trans (by simp; omega), HR4.2.2⟩
              clear HR4 HR3
              go_wp2_with fail
              refine hmean.mono ?_
              rintro e w1 ⟨rfl, rfl⟩
              go_wp2_with fail
              refine (hpre _).mono ?_
              rintro e w1 ⟨rfl, rfl⟩
              go_wp2
              go_ret3
              exact ⟨tup3 HR5.out, rfl⟩
          | false =>
            clear hsl
            rcases hm2 with rfl | rfl
            · have HR4 := fields HR3.out
              have HR5 : Hid (R.text = Utf8.encode mc ∧ (R.n : Int) = 1 + ((f : Int) + (m : Int)) ∧ (R.fault : Int) = 1) := ⟨HR4.1, HR4.2.1.trans (by simp; omega), HR4.2.2⟩
              clear HR4 HR3
              go_wp2_with fail
              refine hmean.mono ?_
              rintro e w1 ⟨rfl, rfl⟩
              go_wp2_with fail
              refine (hpre _).mono ?_
              rintro e w1 ⟨rfl, rfl⟩
              go_wp2
              go_ret3
              exact ⟨tup3 HR5.out, rfl⟩
            · have HR4 := fields HR3.out
              have HR5 : Hid (R.text = Utf8.encode mc ∧ (R.n : Int) = 1 + ((f : Int) + (m : Int)) ∧ (R.fault : Int) = 2) := ⟨HR4.1, HR4.2.1.trans (by simp; omega), HR4.2.2⟩
              clear HR4 HR3
              go_wp2_with fail
              refine hmean.mono ?_
              rintro e w1 ⟨rfl, rfl⟩
              go_wp2_with fail
              refine (hpre _).mono ?_
              rintro e w1 ⟨rfl, rfl⟩
              go_wp2
              go_ret3
              exact ⟨tup3 HR5.out, rfl⟩
end Go.Proofs.YtncfgahnjakeiaaDoor
