/-
  What the document's numeric answers.
-/
import Derived.Test.YtffllhohlfblnaaLead
import Derived.Deep.QuietTactic
import Derived.BigQuiet
import Derived.Laws.Cover4
namespace Go.Proofs.Ytffllhohlfblnaa
open Go.RowKit

theorem empty_app (a : ByteArray) : ByteArray.empty ++ a = a := by simp
theorem runes_one (z : Int) : runesBytes [z] = Utf8.encode z := by
  unfold runesBytes
  rw [List.foldl_cons, List.foldl_nil]
  exact empty_app _
/-- 'string(r)' of one rune in a row. -/
theorem conv_one (W : World) (a : Addr) (cap : Nat) (z : Int) (h : W.cell? a = some (.int .i32 z)) : (convert 74 9 (.slice (some a) 1 cap)).run Try.prog W = .ok (.string (Utf8.encode z)) W := by
  have := run_convert_runes (P := Try.prog) W 74 9 21 a 1 cap [z] (by simp) Try.underlying74 Try.underlying21 Try.underlying9 (fun j hj => by
    have : j = 0 := by simpa using hj
    subst this
    have e : a.add 0 = a := by simp [Addr.add]
    rw [e, h]
    rfl)
  rw [List.take_of_length_le (by simp), runes_one] at this
  exact this
def ctrlV : Array Value := #[.int .i32 8364, .int .i32 129, .int .i32 8218, .int .i32 402, .int .i32 8222, .int .i32 8230, .int .i32 8224, .int .i32 8225, .int .i32 710, .int .i32 8240, .int .i32 352, .int .i32 8249, .int .i32 338, .int .i32 141, .int .i32 381, .int .i32 143, .int .i32 144, .int .i32 8216, .int .i32 8217, .int .i32 8220, .int .i32 8221, .int .i32 8226, .int .i32 8211, .int .i32 8212, .int .i32 732, .int .i32 8482, .int .i32 353, .int .i32 8250, .int .i32 339, .int .i32 157, .int .i32 382, .int .i32 376]
theorem ctrlV_eq : ctrlV = (ctrl.map fun z : Nat => Value.int .i32 (z : Int)).toArray := rfl
theorem ctrlV_at (j : Nat) (h : j < ctrl.length) : ctrlV[j]? = some (.int .i32 ((ctrl[j] : Nat) : Int)) := by
  rw [ctrlV_eq, List.getElem?_toArray, List.getElem?_map, List.getElem?_eq_getElem h]
  rfl
theorem semi_cons (c : UInt8) (t : List UInt8) : semi (c :: t) = true ↔ c = 59 := by
  show ((59 : UInt8) == c && true) = true ↔ c = 59
  rw [Bool.and_true]
  constructor
  · intro h
    exact (by simpa using h : (59 : UInt8) = c).symm
  · intro h
    rw [h]
    rfl

set_option maxRecDepth 20000 in
set_option maxHeartbeats 4000000 in
theorem numeric_any (s : ByteArray) (q : Nat) (hq : q + 1 < s.size) (K : Nat → Prop) (w : World) (hK : ∀ k, K k → k < w.heap.size) (hs : s.size < 1000000) :
    Calls Try.prog 36 #[.string s, .int .i64 q] w fun e w' => e = .returned (refV (numL (s.data.toList.drop (q + 2)))) ∧ Kept K w w' := by
  obtain ⟨R, hR⟩ : ∃ R, numL (s.data.toList.drop (q + 2)) = R := ⟨_, rfl⟩
  rw [hR]
  have HR : Hid (numL (s.data.toList.drop (q + 2)) = R) := hR
  clear hR
  have hl0 : s.data.toList.length = s.size := rfl
  obtain ⟨x, hx⟩ : ∃ x, hexN (s.data.toList.drop (q + 2)) = x := ⟨_, rfl⟩
  have hxl := hexN_le (s.data.toList.drop (q + 2))
  rw [hx, List.length_drop, hl0] at hxl
  obtain ⟨b, hb⟩ : ∃ b, baseN x = b := ⟨_, rfl⟩
  have hbl := baseN_le x
  rw [hb] at hbl
  have HR1 : Hid (numR x b (s.data.toList.drop (q + 2 + x)) = R) := by
    have := HR.out
    unfold numL at this
    rw [hx, hb, List.drop_drop] at this
    exact this
  clear HR
  go_enter Try.func36, Try.ntmps36
  go_upto_region 3 with fail
  go_cut [30] (fun s30 wc => s30 = .bool (decide (x = 1)) ∧ wc = w)
  case first =>
    clear HR1 hK hbl hb
    by_cases h1 : q + 2 < s.size
    · have e1 : decide ((q : Int) + 2 < (s.size : Int)) = true := by simp; omega
      have hcons := drop_cons h1
      rw [hcons] at hx
      have hx' : (if s[q + 2] = 120 ∨ s[q + 2] = 88 then 1 else 0) = x := hx
      clear hcons hx
      by_cases hA : s[q + 2] = 120
      · have ea : ((s[q + 2].toNat : Int) == 120) = true := by rw [hA]; rfl
        rw [if_pos (.inl hA)] at hx'
        subst hx'
        clear hA
        go_wp2
        go_meet
        case rel => exact ⟨rfl, rfl⟩
      · have ea : ((s[q + 2].toNat : Int) == 120) = false := by
          simp
          intro h
          exact hA (UInt8.toNat_inj.1 (by show s[q + 2].toNat = 120; omega))
        by_cases hB : s[q + 2] = 88
        · have eb : ((s[q + 2].toNat : Int) == 88) = true := by rw [hB]; rfl
          rw [if_pos (.inr hB)] at hx'
          subst hx'
          clear hA hB
          go_wp2
          go_meet
          case rel => exact ⟨rfl, rfl⟩
        · have eb : ((s[q + 2].toNat : Int) == 88) = false := by
            simp
            intro h
            exact hB (UInt8.toNat_inj.1 (by show s[q + 2].toNat = 88; omega))
          rw [if_neg (by simp [hA, hB])] at hx'
          subst hx'
          clear hA hB
          go_wp2
          go_meet
          case rel => exact ⟨rfl, rfl⟩
    · have e1 : decide ((q : Int) + 2 < (s.size : Int)) = false := by simp; omega
      have hx0 : x = 0 := by omega
      subst hx0
      clear hx
      go_wp2
      go_meet
      case rel => exact ⟨rfl, rfl⟩
  case rest =>
    obtain ⟨rfl, rfl⟩ := hcut
    clear hx
    go_upto_if 30 with fail
    go_cut [7, 8] (fun s7 s8 w2 => s7 = .int .i64 (q + 2 + x : Nat) ∧ s8 = .int .i64 b ∧ w2 = wc)
    case first =>
      clear HR1 hK
      have hx1 : x = 0 ∨ x = 1 := by omega
      rcases hx1 with rfl | rfl
      · have hb' : 10 = b := hb
        subst hb'
        go_wp2
        go_meet
        case rel => exact ⟨by first | rfl | go_num, by first | rfl | go_num, rfl⟩
      · have hb' : 16 = b := hb
        subst hb'
        go_wp2
        go_meet
        case rel => exact ⟨by first | rfl | go_num, by first | rfl | go_num, rfl⟩
    case rest =>
      obtain ⟨rfl, rfl, rfl⟩ := hcut
      obtain ⟨f, hf⟩ : ∃ f, q + 2 + x = f := ⟨_, rfl⟩
      rw [hf] at HR1 ⊢
      have hfs : f ≤ s.size := by omega
      have hb2 : b = 10 ∨ b = 16 := by
        rw [← hb]
        unfold baseN
        split
        · exact .inr rfl
        · exact .inl rfl
      have HF0 : Hid (q + 2 + x = f) := hf
      clear hb hf
      go_upto_block 0 with fail
      go_cut [7, 10] (fun s7 s10 w3 => s7 = .int .i64 (f + runN b (s.data.toList.drop f) : Nat) ∧ s10 = .int .i64 (capL b ((s.data.toList.drop f).take (runN b (s.data.toList.drop f)))) ∧ w3 = wc)
      case first =>
        clear HR1 hK
        rcases hb2 with rfl | rfl
        · go_wp2_with fail
          go_loopg [7, 10] (s.size - f) (fun g n c wr => ∃ k : Nat, g = s.size - f - k ∧ k ≤ runN 10 (s.data.toList.drop f) ∧ n = .int .i64 (f + k : Nat) ∧ c = .int .i64 (capL 10 ((s.data.toList.drop f).take k)) ∧ wr = wc)
          case atStart => exact ⟨0, rfl, Nat.zero_le _, rfl, rfl, rfl⟩
          case round =>
            obtain ⟨k, hgk, hk, rfl, rfl, rfl⟩ := hrel
            have hkl := runN_le 10 (s.data.toList.drop f)
            rw [List.length_drop, hl0] at hkl
            have hcl := capL_le 10 ((s.data.toList.drop f).take k)
            by_cases hlt : f + k < s.size
            · have hk' : k < (s.data.toList.drop f).length := by rw [List.length_drop]; omega
              have hel : (s.data.toList.drop f)[k] = s[f + k] := by rw [List.getElem_drop]; rfl
              have hdig := rdigit10_any s[f + k] wr
              have HB : Hid (k + 1 ≤ runN 10 (s.data.toList.drop f) ↔ digV s[f + k] < 10) := by
                constructor
                · intro h
                  have := runN_digit 10 (s.data.toList.drop f) k hk' h
                  rwa [hel] at this
                · intro h
                  rcases Nat.lt_or_ge k (runN 10 (s.data.toList.drop f)) with h1 | h1
                  · exact h1
                  · have he : runN 10 (s.data.toList.drop f) = k := by omega
                    have := runN_stop 10 (s.data.toList.drop f) (by omega)
                    simp only [he] at this
                    rw [hel] at this
                    exact absurd h this
              have HC : Hid (capL 10 ((s.data.toList.drop f).take (k + 1)) = capF 10 (capL 10 ((s.data.toList.drop f).take k)) s[f + k]) := by
                show capL _ _ = _
                rw [List.take_succ_eq_append_getElem hk', capL_snoc, hel]
              have hd16 := digV_le s[f + k]
              have HF : Hid (∀ c, capF 10 c s[f + k] = min (c * 10 + digV s[f + k]) 1114112) := fun _ => rfl
              unfold rdig at hdig
              obtain ⟨d, hd⟩ : ∃ d, digV s[f + k] = d := ⟨_, rfl⟩
              rw [hd] at hdig HB hd16 HF
              obtain ⟨c, hc⟩ : ∃ c, capL 10 ((s.data.toList.drop f).take k) = c := ⟨_, rfl⟩
              have HD : Hid (capL 10 ((s.data.toList.drop f).take k) = c) := hc
              rw [hc] at HC hcl ⊢
              obtain ⟨m, hm⟩ : ∃ m, runN 10 (s.data.toList.drop f) = m := ⟨_, rfl⟩
              have HM : Hid (runN 10 (s.data.toList.drop f) = m) := hm
              rw [hm] at hk hkl HB
              clear hd hc hm hel hk'
              by_cases hdb : d < 10
              · have hk1 := HB.out.2 hdb
                rw [if_pos hdb] at hdig
                clear HB
                by_cases hcc : c * 10 + d ≤ 1114112
                · have HC2 : Hid (capL 10 ((s.data.toList.drop f).take (k + 1)) = c * 10 + d) := by
                    show capL _ _ = _
                    rw [HC.out, HF.out, Nat.min_eq_left hcc]
                  clear HC HF HD
                  go_wp2_with fail
                  refine hdig.mono ?_
                  rintro e w1 ⟨rfl, rfl⟩
                  go_wp2_with fail
                  refine hdig.mono ?_
                  rintro e w1 ⟨rfl, rfl⟩
                  go_wp2
                  go_roundg (s.size - f - (k + 1))
                  case rel => exact ⟨k + 1, rfl, by rw [HM.out]; omega, by go_num, by rw [HC2.out]; go_num, rfl⟩
                  case measure => omega
                · have HC2 : Hid (capL 10 ((s.data.toList.drop f).take (k + 1)) = 1114112) := by
                    show capL _ _ = _
                    rw [HC.out, HF.out, Nat.min_eq_right (by omega)]
                  clear HC HF HD
                  go_wp2_with fail
                  refine hdig.mono ?_
                  rintro e w1 ⟨rfl, rfl⟩
                  go_wp2_with fail
                  refine hdig.mono ?_
                  rintro e w1 ⟨rfl, rfl⟩
                  go_wp2
                  go_roundg (s.size - f - (k + 1))
                  case rel => exact ⟨k + 1, rfl, by rw [HM.out]; omega, by go_num, by rw [HC2.out]; first | rfl | go_num, rfl⟩
                  case measure => omega
              · have hkm : k = m := Nat.le_antisymm hk (by
                  rcases Nat.lt_or_ge k m with h | h
                  · exact absurd (HB.out.1 h) hdb
                  · exact h)
                rw [if_neg hdb] at hdig
                subst hkm
                clear HB HC HF
                go_wp2_with fail
                refine hdig.mono ?_
                rintro e w1 ⟨rfl, rfl⟩
                go_wp2
                go_meet
                case rel => exact ⟨by rw [HM.out]; go_num, by rw [HM.out, HD.out], rfl⟩
            · have hkm : runN 10 (s.data.toList.drop f) = k := by omega
              have HM : Hid (runN 10 (s.data.toList.drop f) = k) := hkm
              obtain ⟨c, hc⟩ : ∃ c, capL 10 ((s.data.toList.drop f).take k) = c := ⟨_, rfl⟩
              have HD : Hid (capL 10 ((s.data.toList.drop f).take k) = c) := hc
              rw [hc]
              clear hc hkm
              go_wp2
              go_meet
              case rel => exact ⟨by rw [HM.out]; go_num, by rw [HM.out, HD.out], rfl⟩
        · go_wp2_with fail
          go_loopg [7, 10] (s.size - f) (fun g n c wr => ∃ k : Nat, g = s.size - f - k ∧ k ≤ runN 16 (s.data.toList.drop f) ∧ n = .int .i64 (f + k : Nat) ∧ c = .int .i64 (capL 16 ((s.data.toList.drop f).take k)) ∧ wr = wc)
          case atStart => exact ⟨0, rfl, Nat.zero_le _, rfl, rfl, rfl⟩
          case round =>
            obtain ⟨k, hgk, hk, rfl, rfl, rfl⟩ := hrel
            have hkl := runN_le 16 (s.data.toList.drop f)
            rw [List.length_drop, hl0] at hkl
            have hcl := capL_le 16 ((s.data.toList.drop f).take k)
            by_cases hlt : f + k < s.size
            · have hk' : k < (s.data.toList.drop f).length := by rw [List.length_drop]; omega
              have hel : (s.data.toList.drop f)[k] = s[f + k] := by rw [List.getElem_drop]; rfl
              have hdig := rdigit16_any s[f + k] wr
              have HB : Hid (k + 1 ≤ runN 16 (s.data.toList.drop f) ↔ digV s[f + k] < 16) := by
                constructor
                · intro h
                  have := runN_digit 16 (s.data.toList.drop f) k hk' h
                  rwa [hel] at this
                · intro h
                  rcases Nat.lt_or_ge k (runN 16 (s.data.toList.drop f)) with h1 | h1
                  · exact h1
                  · have he : runN 16 (s.data.toList.drop f) = k := by omega
                    have := runN_stop 16 (s.data.toList.drop f) (by omega)
                    simp only [he] at this
                    rw [hel] at this
                    exact absurd h this
              have HC : Hid (capL 16 ((s.data.toList.drop f).take (k + 1)) = capF 16 (capL 16 ((s.data.toList.drop f).take k)) s[f + k]) := by
                show capL _ _ = _
                rw [List.take_succ_eq_append_getElem hk', capL_snoc, hel]
              have hd16 := digV_le s[f + k]
              have HF : Hid (∀ c, capF 16 c s[f + k] = min (c * 16 + digV s[f + k]) 1114112) := fun _ => rfl
              unfold rdig at hdig
              obtain ⟨d, hd⟩ : ∃ d, digV s[f + k] = d := ⟨_, rfl⟩
              rw [hd] at hdig HB hd16 HF
              obtain ⟨c, hc⟩ : ∃ c, capL 16 ((s.data.toList.drop f).take k) = c := ⟨_, rfl⟩
              have HD : Hid (capL 16 ((s.data.toList.drop f).take k) = c) := hc
              rw [hc] at HC hcl ⊢
              obtain ⟨m, hm⟩ : ∃ m, runN 16 (s.data.toList.drop f) = m := ⟨_, rfl⟩
              have HM : Hid (runN 16 (s.data.toList.drop f) = m) := hm
              rw [hm] at hk hkl HB
              clear hd hc hm hel hk'
              by_cases hdb : d < 16
              · have hk1 := HB.out.2 hdb
                rw [if_pos hdb] at hdig
                clear HB
                by_cases hcc : c * 16 + d ≤ 1114112
                · have HC2 : Hid (capL 16 ((s.data.toList.drop f).take (k + 1)) = c * 16 + d) := by
                    show capL _ _ = _
                    rw [HC.out, HF.out, Nat.min_eq_left hcc]
                  clear HC HF HD
                  go_wp2_with fail
                  refine hdig.mono ?_
                  rintro e w1 ⟨rfl, rfl⟩
                  go_wp2_with fail
                  refine hdig.mono ?_
                  rintro e w1 ⟨rfl, rfl⟩
                  go_wp2
                  go_roundg (s.size - f - (k + 1))
                  case rel => exact ⟨k + 1, rfl, by rw [HM.out]; omega, by go_num, by rw [HC2.out]; go_num, rfl⟩
                  case measure => omega
                · have HC2 : Hid (capL 16 ((s.data.toList.drop f).take (k + 1)) = 1114112) := by
                    show capL _ _ = _
                    rw [HC.out, HF.out, Nat.min_eq_right (by omega)]
                  clear HC HF HD
                  go_wp2_with fail
                  refine hdig.mono ?_
                  rintro e w1 ⟨rfl, rfl⟩
                  go_wp2_with fail
                  refine hdig.mono ?_
                  rintro e w1 ⟨rfl, rfl⟩
                  go_wp2
                  go_roundg (s.size - f - (k + 1))
                  case rel => exact ⟨k + 1, rfl, by rw [HM.out]; omega, by go_num, by rw [HC2.out]; first | rfl | go_num, rfl⟩
                  case measure => omega
              · have hkm : k = m := Nat.le_antisymm hk (by
                  rcases Nat.lt_or_ge k m with h | h
                  · exact absurd (HB.out.1 h) hdb
                  · exact h)
                rw [if_neg hdb] at hdig
                subst hkm
                clear HB HC HF
                go_wp2_with fail
                refine hdig.mono ?_
                rintro e w1 ⟨rfl, rfl⟩
                go_wp2
                go_meet
                case rel => exact ⟨by rw [HM.out]; go_num, by rw [HM.out, HD.out], rfl⟩
            · have hkm : runN 16 (s.data.toList.drop f) = k := by omega
              have HM : Hid (runN 16 (s.data.toList.drop f) = k) := hkm
              obtain ⟨c, hc⟩ : ∃ c, capL 16 ((s.data.toList.drop f).take k) = c := ⟨_, rfl⟩
              have HD : Hid (capL 16 ((s.data.toList.drop f).take k) = c) := hc
              rw [hc]
              clear hc hkm
              go_wp2
              go_meet
              case rel => exact ⟨by rw [HM.out]; go_num, by rw [HM.out, HD.out], rfl⟩
      case rest =>
        obtain ⟨rfl, rfl, rfl⟩ := hcut
        have hkl := runN_le b (s.data.toList.drop f)
        rw [List.length_drop, hl0] at hkl
        have HR2 : Hid (R = numR x b (s.data.toList.drop f)) := HR1.out.symm
        unfold numR at HR2
        rw [List.drop_drop] at HR2
        have hcap := capL_eq (b := b) (by omega) ((s.data.toList.drop f).take (runN b (s.data.toList.drop f)))
        obtain ⟨c, hc⟩ : ∃ c, codeL b ((s.data.toList.drop f).take (runN b (s.data.toList.drop f))) = c := ⟨_, rfl⟩
        rw [hc] at HR2 hcap
        obtain ⟨hmc, hmf⟩ := meant_cap c
        obtain ⟨n, hn⟩ : ∃ n, capL b ((s.data.toList.drop f).take (runN b (s.data.toList.drop f))) = n := ⟨_, rfl⟩
        rw [hn] at hcap ⊢
        rw [← hcap] at hmc hmf
        have hn2 : n ≤ 1114112 := by omega
        obtain ⟨m, hm⟩ : ∃ m, runN b (s.data.toList.drop f) = m := ⟨_, rfl⟩
        rw [hm] at HR2 hkl ⊢
        rw [← hmc, ← hmf] at HR2
        clear hc hm HR1 hn hcap hmc hmf
        obtain ⟨se, hse⟩ : ∃ se, semi (s.data.toList.drop (f + m)) = se := ⟨_, rfl⟩
        rw [hse] at HR2
        have hsemi : se = true ↔ ∃ h : f + m < s.size, s[f + m] = 59 := by
          rw [← hse]
          by_cases hlt : f + m < s.size
          · rw [drop_cons hlt]
            constructor
            · intro h
              exact ⟨hlt, (semi_cons _ _).1 h⟩
            · rintro ⟨_, h⟩
              rw [h]
              rfl
          · rw [List.drop_eq_nil_of_le (by omega)]
            constructor
            · intro h
              cases h
            · rintro ⟨h, _⟩
              exact absurd h hlt
        have hkk : ∀ o, Kept K wc (wc.alloc o) := fun o => (Kept.refl K wc).alloc hK o
        have hx1 : x ≤ 1 := hxl.2
        clear hse hl0 hbl hb2 hxl
        by_cases hm0 : m = 0
        · subst hm0
          have HR3 : Hid (R = none0) := HR2.out.trans (if_pos rfl)
          clear HR2 hsemi hkk
          go_wp2
          go_ret3
          exact ⟨tup3 (fields HR3.out), Kept.refl _ _⟩
        · have e0 : (((f + m : Nat) : Int) == (f : Int)) = false := by simp; omega
          have e0' : (((f : Int) + (m : Int)) == (f : Int)) = false := by simp; omega
          have HR3 : Hid (R = ⟨Utf8.encode (meantC n), 2 + x + m + (if se = true then 1 else 0), if meantF n = 0 then (if se = true then 0 else 1) else meantF n⟩) := HR2.out.trans (if_neg hm0)
          clear HR2 hm0
          have hfi := HF0.out
          have hcls : n = 0 ∨ n = 1114112 ∨ (55296 ≤ n ∧ n ≤ 57343) ∨ (128 ≤ n ∧ n ≤ 159) ∨ (1 ≤ n ∧ n < 128) ∨ (159 < n ∧ n < 55296) ∨ (57343 < n ∧ n ≤ 1114111) := by omega
          have hsc : (se = true ∧ ∃ h : f + m < s.size, s[f + m] = 59) ∨ (se = false ∧ ∃ h : f + m < s.size, ¬ s[f + m] = 59) ∨ (se = false ∧ ¬ f + m < s.size) := by
            cases se with
            | true => exact .inl ⟨rfl, hsemi.1 rfl⟩
            | false =>
              by_cases hlt : f + m < s.size
              · exact .inr (.inl ⟨rfl, hlt, fun h => by have := hsemi.2 ⟨hlt, h⟩; cases this⟩)
              · exact .inr (.inr ⟨rfl, hlt⟩)
          clear hsemi
          rcases hsc with ⟨rfl, hlt, h59⟩ | ⟨rfl, hlt, h59⟩ | ⟨rfl, hlt⟩
          · have es : decide (((f + m : Nat) : Int) < (s.size : Int)) = true := by simp; omega
            have es' : decide ((f : Int) + (m : Int) < (s.size : Int)) = true := by simp; omega
            have e59 : ((s[f + m].toNat : Int) == 59) = true := by rw [h59]; rfl
            rcases hcls with rfl | rfl | hc | hc | hc | hc | hc
            · have hw : wrongC 0 = true := by unfold wrongC; simp
              have hC : meantC 0 = 65533 := by unfold meantC; rw [if_pos hw]
              have hF : meantF 0 = 2 := by unfold meantF; rw [if_pos hw]
              have he : Utf8.encode ((65533 : Nat) : Int) = ⟨#[239, 191, 189]⟩ := by decide
              have HR4 := fields HR3.out
              rw [hC, hF] at HR4
              rw [he] at HR4
              have HR5 : Hid (R.text = ⟨#[239, 191, 189]⟩ ∧ (R.n : Int) = (f : Int) + (m : Int) + 1 - (q : Int) ∧ (R.fault : Int) = 2) := ⟨HR4.1, HR4.2.1.trans (by simp; omega), HR4.2.2.trans (by simp)⟩
              clear hC hF HR4 HR3 hw he
              go_wp2
              go_ret3
              exact ⟨tup3 HR5.out, Kept.refl _ _⟩
            · have hw : wrongC 1114112 = true := by unfold wrongC; simp
              have hC : meantC 1114112 = 65533 := by unfold meantC; rw [if_pos hw]
              have hF : meantF 1114112 = 2 := by unfold meantF; rw [if_pos hw]
              have he : Utf8.encode ((65533 : Nat) : Int) = ⟨#[239, 191, 189]⟩ := by decide
              have HR4 := fields HR3.out
              rw [hC, hF] at HR4
              rw [he] at HR4
              have HR5 : Hid (R.text = ⟨#[239, 191, 189]⟩ ∧ (R.n : Int) = (f : Int) + (m : Int) + 1 - (q : Int) ∧ (R.fault : Int) = 2) := ⟨HR4.1, HR4.2.1.trans (by simp; omega), HR4.2.2.trans (by simp)⟩
              clear hC hF HR4 HR3 hw he
              go_wp2
              go_ret3
              exact ⟨tup3 HR5.out, Kept.refl _ _⟩
            · have hw : wrongC n = true := by unfold wrongC; simp; omega
              have hC : meantC n = 65533 := by unfold meantC; rw [if_pos hw]
              have hF : meantF n = 2 := by unfold meantF; rw [if_pos hw]
              have he : Utf8.encode ((65533 : Nat) : Int) = ⟨#[239, 191, 189]⟩ := by decide
              have HR4 := fields HR3.out
              rw [hC, hF] at HR4
              rw [he] at HR4
              have HR5 : Hid (R.text = ⟨#[239, 191, 189]⟩ ∧ (R.n : Int) = (f : Int) + (m : Int) + 1 - (q : Int) ∧ (R.fault : Int) = 2) := ⟨HR4.1, HR4.2.1.trans (by simp; omega), HR4.2.2.trans (by simp)⟩
              clear hC hF HR4 HR3 hw he
              have t0 : ((n : Int) == 0) = false := by simp; omega
              have t1 : decide ((n : Int) > 1114111) = false := by simp; omega
              have t2 : decide ((n : Int) ≥ 55296) = true := by simp; omega
              have t3 : decide ((n : Int) ≤ 57343) = true := by simp; omega
              go_wp2
              go_ret3
              exact ⟨tup3 HR5.out, Kept.refl _ _⟩
            · have hw : ¬ wrongC n = true := by unfold wrongC; simp; omega
              have hcc : ctrlC n = true := by unfold ctrlC; simp; omega
              have hC : meantC n = ctrl.getD (n - 128) 0 := by unfold meantC; rw [if_neg hw, if_pos hcc]
              have hF : meantF n = 2 := by unfold meantF; rw [if_neg hw, if_pos hcc]
              have hj32 : n - 128 < ctrl.length := by show n - 128 < 32; omega
              obtain ⟨z, hz⟩ : ∃ z : Nat, ctrl[n - 128] = z := ⟨_, rfl⟩
              have hg : ctrl.getD (n - 128) 0 = z := by rw [List.getD_eq_getElem?_getD, List.getElem?_eq_getElem hj32, ← hz]; rfl
              rw [hg] at hC
              have hcell : (wc.alloc (.cells ctrlV 21)).cell? ⟨wc.heap.size, n - 128, none⟩ = some (.int .i32 (z : Nat)) := by
                rw [cell_block (heap_alloc_new wc _), ctrlV_at (n - 128) hj32, hz]
              have h1 : n - 127 - (n - 128) = 1 := by omega
              have hcv := fun cap => conv_one _ ⟨wc.heap.size, n - 128, none⟩ cap _ hcell
              rw [← h1] at hcv
              unfold ctrlV at hcv
              have HR4 := fields HR3.out
              rw [hC, hF] at HR4
              have HR5 : Hid (R.text = Utf8.encode (z : Int) ∧ (R.n : Int) = (f : Int) + (m : Int) + 1 - (q : Int) ∧ (R.fault : Int) = 2) := ⟨HR4.1, HR4.2.1.trans (by simp; omega), HR4.2.2.trans (by simp)⟩
              clear hC hF HR4 HR3 hw hcc hg hz hcell hj32 h1
              have t0 : ((n : Int) == 0) = false := by simp; omega
              have t1 : decide ((n : Int) > 1114111) = false := by simp; omega
              have t2 : decide ((n : Int) ≥ 55296) = false := by simp; omega
              have t4 : decide ((n : Int) ≥ 128) = true := by simp; omega
              have t5 : decide ((n : Int) ≤ 159) = true := by simp; omega
              go_wp2
              go_ret3
              exact ⟨tup3 HR5.out, hkk _⟩
            · have hw : ¬ wrongC n = true := by unfold wrongC; simp; omega
              have hcc : ¬ ctrlC n = true := by unfold ctrlC; simp; omega
              have hC : meantC n = n := by unfold meantC; rw [if_neg hw, if_neg hcc]
              have hF : meantF n = 0 := by unfold meantF; rw [if_neg hw, if_neg hcc]
              have hcell : (wc.alloc (.cells #[.int .i32 (n : Int)] 21)).cell? ⟨wc.heap.size, 0, none⟩ = some (.int .i32 (n : Int)) := by
                rw [cell_block (heap_alloc_new wc _)]; rfl
              have hcv := fun cap => conv_one _ ⟨wc.heap.size, 0, none⟩ cap _ hcell
              have HR4 := fields HR3.out
              rw [hC, hF] at HR4
              have HR5 : Hid (R.text = Utf8.encode (n : Int) ∧ (R.n : Int) = (f : Int) + (m : Int) + 1 - (q : Int) ∧ (R.fault : Int) = 0) := ⟨HR4.1, HR4.2.1.trans (by simp; omega), HR4.2.2.trans (by simp)⟩
              clear hC hF HR4 HR3 hw hcc hcell
              have t0 : ((n : Int) == 0) = false := by simp; omega
              have t1 : decide ((n : Int) > 1114111) = false := by simp; omega
              have t2 : decide ((n : Int) ≥ 55296) = false := by simp; omega
              have t4 : decide ((n : Int) ≥ 128) = false := by simp; omega
              go_wp2
              go_ret3
              exact ⟨tup3 HR5.out, hkk _⟩
            · have hw : ¬ wrongC n = true := by unfold wrongC; simp; omega
              have hcc : ¬ ctrlC n = true := by unfold ctrlC; simp; omega
              have hC : meantC n = n := by unfold meantC; rw [if_neg hw, if_neg hcc]
              have hF : meantF n = 0 := by unfold meantF; rw [if_neg hw, if_neg hcc]
              have hcell : (wc.alloc (.cells #[.int .i32 (n : Int)] 21)).cell? ⟨wc.heap.size, 0, none⟩ = some (.int .i32 (n : Int)) := by
                rw [cell_block (heap_alloc_new wc _)]; rfl
              have hcv := fun cap => conv_one _ ⟨wc.heap.size, 0, none⟩ cap _ hcell
              have HR4 := fields HR3.out
              rw [hC, hF] at HR4
              have HR5 : Hid (R.text = Utf8.encode (n : Int) ∧ (R.n : Int) = (f : Int) + (m : Int) + 1 - (q : Int) ∧ (R.fault : Int) = 0) := ⟨HR4.1, HR4.2.1.trans (by simp; omega), HR4.2.2.trans (by simp)⟩
              clear hC hF HR4 HR3 hw hcc hcell
              have t0 : ((n : Int) == 0) = false := by simp; omega
              have t1 : decide ((n : Int) > 1114111) = false := by simp; omega
              have t2 : decide ((n : Int) ≥ 55296) = false := by simp; omega
              have t4 : decide ((n : Int) ≥ 128) = true := by simp; omega
              have t5 : decide ((n : Int) ≤ 159) = false := by simp; omega
              go_wp2
              go_ret3
              exact ⟨tup3 HR5.out, hkk _⟩
            · have hw : ¬ wrongC n = true := by unfold wrongC; simp; omega
              have hcc : ¬ ctrlC n = true := by unfold ctrlC; simp; omega
              have hC : meantC n = n := by unfold meantC; rw [if_neg hw, if_neg hcc]
              have hF : meantF n = 0 := by unfold meantF; rw [if_neg hw, if_neg hcc]
              have hcell : (wc.alloc (.cells #[.int .i32 (n : Int)] 21)).cell? ⟨wc.heap.size, 0, none⟩ = some (.int .i32 (n : Int)) := by
                rw [cell_block (heap_alloc_new wc _)]; rfl
              have hcv := fun cap => conv_one _ ⟨wc.heap.size, 0, none⟩ cap _ hcell
              have HR4 := fields HR3.out
              rw [hC, hF] at HR4
              have HR5 : Hid (R.text = Utf8.encode (n : Int) ∧ (R.n : Int) = (f : Int) + (m : Int) + 1 - (q : Int) ∧ (R.fault : Int) = 0) := ⟨HR4.1, HR4.2.1.trans (by simp; omega), HR4.2.2.trans (by simp)⟩
              clear hC hF HR4 HR3 hw hcc hcell
              have t0 : ((n : Int) == 0) = false := by simp; omega
              have t1 : decide ((n : Int) > 1114111) = false := by simp; omega
              have t2 : decide ((n : Int) ≥ 55296) = true := by simp; omega
              have t3 : decide ((n : Int) ≤ 57343) = false := by simp; omega
              have t4 : decide ((n : Int) ≥ 128) = true := by simp; omega
              have t5 : decide ((n : Int) ≤ 159) = false := by simp; omega
              go_wp2
              go_ret3
              exact ⟨tup3 HR5.out, hkk _⟩
          · have es : decide (((f + m : Nat) : Int) < (s.size : Int)) = true := by simp; omega
            have es' : decide ((f : Int) + (m : Int) < (s.size : Int)) = true := by simp; omega
            have e59 : ((s[f + m].toNat : Int) == 59) = false := by
              simp
              intro h
              exact h59 (UInt8.toNat_inj.1 (by show s[f + m].toNat = 59; omega))
            rcases hcls with rfl | rfl | hc | hc | hc | hc | hc
            · have hw : wrongC 0 = true := by unfold wrongC; simp
              have hC : meantC 0 = 65533 := by unfold meantC; rw [if_pos hw]
              have hF : meantF 0 = 2 := by unfold meantF; rw [if_pos hw]
              have he : Utf8.encode ((65533 : Nat) : Int) = ⟨#[239, 191, 189]⟩ := by decide
              have HR4 := fields HR3.out
              rw [hC, hF] at HR4
              rw [he] at HR4
              have HR5 : Hid (R.text = ⟨#[239, 191, 189]⟩ ∧ (R.n : Int) = (f : Int) + (m : Int) - (q : Int) ∧ (R.fault : Int) = 2) := ⟨HR4.1, HR4.2.1.trans (by simp; omega), HR4.2.2.trans (by simp)⟩
              clear hC hF HR4 HR3 hw he
              go_wp2
              go_ret3
              exact ⟨tup3 HR5.out, Kept.refl _ _⟩
            · have hw : wrongC 1114112 = true := by unfold wrongC; simp
              have hC : meantC 1114112 = 65533 := by unfold meantC; rw [if_pos hw]
              have hF : meantF 1114112 = 2 := by unfold meantF; rw [if_pos hw]
              have he : Utf8.encode ((65533 : Nat) : Int) = ⟨#[239, 191, 189]⟩ := by decide
              have HR4 := fields HR3.out
              rw [hC, hF] at HR4
              rw [he] at HR4
              have HR5 : Hid (R.text = ⟨#[239, 191, 189]⟩ ∧ (R.n : Int) = (f : Int) + (m : Int) - (q : Int) ∧ (R.fault : Int) = 2) := ⟨HR4.1, HR4.2.1.trans (by simp; omega), HR4.2.2.trans (by simp)⟩
              clear hC hF HR4 HR3 hw he
              go_wp2
              go_ret3
              exact ⟨tup3 HR5.out, Kept.refl _ _⟩
            · have hw : wrongC n = true := by unfold wrongC; simp; omega
              have hC : meantC n = 65533 := by unfold meantC; rw [if_pos hw]
              have hF : meantF n = 2 := by unfold meantF; rw [if_pos hw]
              have he : Utf8.encode ((65533 : Nat) : Int) = ⟨#[239, 191, 189]⟩ := by decide
              have HR4 := fields HR3.out
              rw [hC, hF] at HR4
              rw [he] at HR4
              have HR5 : Hid (R.text = ⟨#[239, 191, 189]⟩ ∧ (R.n : Int) = (f : Int) + (m : Int) - (q : Int) ∧ (R.fault : Int) = 2) := ⟨HR4.1, HR4.2.1.trans (by simp; omega), HR4.2.2.trans (by simp)⟩
              clear hC hF HR4 HR3 hw he
              have t0 : ((n : Int) == 0) = false := by simp; omega
              have t1 : decide ((n : Int) > 1114111) = false := by simp; omega
              have t2 : decide ((n : Int) ≥ 55296) = true := by simp; omega
              have t3 : decide ((n : Int) ≤ 57343) = true := by simp; omega
              go_wp2
              go_ret3
              exact ⟨tup3 HR5.out, Kept.refl _ _⟩
            · have hw : ¬ wrongC n = true := by unfold wrongC; simp; omega
              have hcc : ctrlC n = true := by unfold ctrlC; simp; omega
              have hC : meantC n = ctrl.getD (n - 128) 0 := by unfold meantC; rw [if_neg hw, if_pos hcc]
              have hF : meantF n = 2 := by unfold meantF; rw [if_neg hw, if_pos hcc]
              have hj32 : n - 128 < ctrl.length := by show n - 128 < 32; omega
              obtain ⟨z, hz⟩ : ∃ z : Nat, ctrl[n - 128] = z := ⟨_, rfl⟩
              have hg : ctrl.getD (n - 128) 0 = z := by rw [List.getD_eq_getElem?_getD, List.getElem?_eq_getElem hj32, ← hz]; rfl
              rw [hg] at hC
              have hcell : (wc.alloc (.cells ctrlV 21)).cell? ⟨wc.heap.size, n - 128, none⟩ = some (.int .i32 (z : Nat)) := by
                rw [cell_block (heap_alloc_new wc _), ctrlV_at (n - 128) hj32, hz]
              have h1 : n - 127 - (n - 128) = 1 := by omega
              have hcv := fun cap => conv_one _ ⟨wc.heap.size, n - 128, none⟩ cap _ hcell
              rw [← h1] at hcv
              unfold ctrlV at hcv
              have HR4 := fields HR3.out
              rw [hC, hF] at HR4
              have HR5 : Hid (R.text = Utf8.encode (z : Int) ∧ (R.n : Int) = (f : Int) + (m : Int) - (q : Int) ∧ (R.fault : Int) = 2) := ⟨HR4.1, HR4.2.1.trans (by simp; omega), HR4.2.2.trans (by simp)⟩
              clear hC hF HR4 HR3 hw hcc hg hz hcell hj32 h1
              have t0 : ((n : Int) == 0) = false := by simp; omega
              have t1 : decide ((n : Int) > 1114111) = false := by simp; omega
              have t2 : decide ((n : Int) ≥ 55296) = false := by simp; omega
              have t4 : decide ((n : Int) ≥ 128) = true := by simp; omega
              have t5 : decide ((n : Int) ≤ 159) = true := by simp; omega
              go_wp2
              go_ret3
              exact ⟨tup3 HR5.out, hkk _⟩
            · have hw : ¬ wrongC n = true := by unfold wrongC; simp; omega
              have hcc : ¬ ctrlC n = true := by unfold ctrlC; simp; omega
              have hC : meantC n = n := by unfold meantC; rw [if_neg hw, if_neg hcc]
              have hF : meantF n = 0 := by unfold meantF; rw [if_neg hw, if_neg hcc]
              have hcell : (wc.alloc (.cells #[.int .i32 (n : Int)] 21)).cell? ⟨wc.heap.size, 0, none⟩ = some (.int .i32 (n : Int)) := by
                rw [cell_block (heap_alloc_new wc _)]; rfl
              have hcv := fun cap => conv_one _ ⟨wc.heap.size, 0, none⟩ cap _ hcell
              have HR4 := fields HR3.out
              rw [hC, hF] at HR4
              have HR5 : Hid (R.text = Utf8.encode (n : Int) ∧ (R.n : Int) = (f : Int) + (m : Int) - (q : Int) ∧ (R.fault : Int) = 1) := ⟨HR4.1, HR4.2.1.trans (by simp; omega), HR4.2.2.trans (by simp)⟩
              clear hC hF HR4 HR3 hw hcc hcell
              have t0 : ((n : Int) == 0) = false := by simp; omega
              have t1 : decide ((n : Int) > 1114111) = false := by simp; omega
              have t2 : decide ((n : Int) ≥ 55296) = false := by simp; omega
              have t4 : decide ((n : Int) ≥ 128) = false := by simp; omega
              go_wp2
              go_ret3
              exact ⟨tup3 HR5.out, hkk _⟩
            · have hw : ¬ wrongC n = true := by unfold wrongC; simp; omega
              have hcc : ¬ ctrlC n = true := by unfold ctrlC; simp; omega
              have hC : meantC n = n := by unfold meantC; rw [if_neg hw, if_neg hcc]
              have hF : meantF n = 0 := by unfold meantF; rw [if_neg hw, if_neg hcc]
              have hcell : (wc.alloc (.cells #[.int .i32 (n : Int)] 21)).cell? ⟨wc.heap.size, 0, none⟩ = some (.int .i32 (n : Int)) := by
                rw [cell_block (heap_alloc_new wc _)]; rfl
              have hcv := fun cap => conv_one _ ⟨wc.heap.size, 0, none⟩ cap _ hcell
              have HR4 := fields HR3.out
              rw [hC, hF] at HR4
              have HR5 : Hid (R.text = Utf8.encode (n : Int) ∧ (R.n : Int) = (f : Int) + (m : Int) - (q : Int) ∧ (R.fault : Int) = 1) := ⟨HR4.1, HR4.2.1.trans (by simp; omega), HR4.2.2.trans (by simp)⟩
              clear hC hF HR4 HR3 hw hcc hcell
              have t0 : ((n : Int) == 0) = false := by simp; omega
              have t1 : decide ((n : Int) > 1114111) = false := by simp; omega
              have t2 : decide ((n : Int) ≥ 55296) = false := by simp; omega
              have t4 : decide ((n : Int) ≥ 128) = true := by simp; omega
              have t5 : decide ((n : Int) ≤ 159) = false := by simp; omega
              go_wp2
              go_ret3
              exact ⟨tup3 HR5.out, hkk _⟩
            · have hw : ¬ wrongC n = true := by unfold wrongC; simp; omega
              have hcc : ¬ ctrlC n = true := by unfold ctrlC; simp; omega
              have hC : meantC n = n := by unfold meantC; rw [if_neg hw, if_neg hcc]
              have hF : meantF n = 0 := by unfold meantF; rw [if_neg hw, if_neg hcc]
              have hcell : (wc.alloc (.cells #[.int .i32 (n : Int)] 21)).cell? ⟨wc.heap.size, 0, none⟩ = some (.int .i32 (n : Int)) := by
                rw [cell_block (heap_alloc_new wc _)]; rfl
              have hcv := fun cap => conv_one _ ⟨wc.heap.size, 0, none⟩ cap _ hcell
              have HR4 := fields HR3.out
              rw [hC, hF] at HR4
              have HR5 : Hid (R.text = Utf8.encode (n : Int) ∧ (R.n : Int) = (f : Int) + (m : Int) - (q : Int) ∧ (R.fault : Int) = 1) := ⟨HR4.1, HR4.2.1.trans (by simp; omega), HR4.2.2.trans (by simp)⟩
              clear hC hF HR4 HR3 hw hcc hcell
              have t0 : ((n : Int) == 0) = false := by simp; omega
              have t1 : decide ((n : Int) > 1114111) = false := by simp; omega
              have t2 : decide ((n : Int) ≥ 55296) = true := by simp; omega
              have t3 : decide ((n : Int) ≤ 57343) = false := by simp; omega
              have t4 : decide ((n : Int) ≥ 128) = true := by simp; omega
              have t5 : decide ((n : Int) ≤ 159) = false := by simp; omega
              go_wp2
              go_ret3
              exact ⟨tup3 HR5.out, hkk _⟩
          · have es : decide (((f + m : Nat) : Int) < (s.size : Int)) = false := by simp; omega
            have es' : decide ((f : Int) + (m : Int) < (s.size : Int)) = false := by simp; omega
            rcases hcls with rfl | rfl | hc | hc | hc | hc | hc
            · have hw : wrongC 0 = true := by unfold wrongC; simp
              have hC : meantC 0 = 65533 := by unfold meantC; rw [if_pos hw]
              have hF : meantF 0 = 2 := by unfold meantF; rw [if_pos hw]
              have he : Utf8.encode ((65533 : Nat) : Int) = ⟨#[239, 191, 189]⟩ := by decide
              have HR4 := fields HR3.out
              rw [hC, hF] at HR4
              rw [he] at HR4
              have HR5 : Hid (R.text = ⟨#[239, 191, 189]⟩ ∧ (R.n : Int) = (f : Int) + (m : Int) - (q : Int) ∧ (R.fault : Int) = 2) := ⟨HR4.1, HR4.2.1.trans (by simp; omega), HR4.2.2.trans (by simp)⟩
              clear hC hF HR4 HR3 hw he
              go_wp2
              go_ret3
              exact ⟨tup3 HR5.out, Kept.refl _ _⟩
            · have hw : wrongC 1114112 = true := by unfold wrongC; simp
              have hC : meantC 1114112 = 65533 := by unfold meantC; rw [if_pos hw]
              have hF : meantF 1114112 = 2 := by unfold meantF; rw [if_pos hw]
              have he : Utf8.encode ((65533 : Nat) : Int) = ⟨#[239, 191, 189]⟩ := by decide
              have HR4 := fields HR3.out
              rw [hC, hF] at HR4
              rw [he] at HR4
              have HR5 : Hid (R.text = ⟨#[239, 191, 189]⟩ ∧ (R.n : Int) = (f : Int) + (m : Int) - (q : Int) ∧ (R.fault : Int) = 2) := ⟨HR4.1, HR4.2.1.trans (by simp; omega), HR4.2.2.trans (by simp)⟩
              clear hC hF HR4 HR3 hw he
              go_wp2
              go_ret3
              exact ⟨tup3 HR5.out, Kept.refl _ _⟩
            · have hw : wrongC n = true := by unfold wrongC; simp; omega
              have hC : meantC n = 65533 := by unfold meantC; rw [if_pos hw]
              have hF : meantF n = 2 := by unfold meantF; rw [if_pos hw]
              have he : Utf8.encode ((65533 : Nat) : Int) = ⟨#[239, 191, 189]⟩ := by decide
              have HR4 := fields HR3.out
              rw [hC, hF] at HR4
              rw [he] at HR4
              have HR5 : Hid (R.text = ⟨#[239, 191, 189]⟩ ∧ (R.n : Int) = (f : Int) + (m : Int) - (q : Int) ∧ (R.fault : Int) = 2) := ⟨HR4.1, HR4.2.1.trans (by simp; omega), HR4.2.2.trans (by simp)⟩
              clear hC hF HR4 HR3 hw he
              have t0 : ((n : Int) == 0) = false := by simp; omega
              have t1 : decide ((n : Int) > 1114111) = false := by simp; omega
              have t2 : decide ((n : Int) ≥ 55296) = true := by simp; omega
              have t3 : decide ((n : Int) ≤ 57343) = true := by simp; omega
              go_wp2
              go_ret3
              exact ⟨tup3 HR5.out, Kept.refl _ _⟩
            · have hw : ¬ wrongC n = true := by unfold wrongC; simp; omega
              have hcc : ctrlC n = true := by unfold ctrlC; simp; omega
              have hC : meantC n = ctrl.getD (n - 128) 0 := by unfold meantC; rw [if_neg hw, if_pos hcc]
              have hF : meantF n = 2 := by unfold meantF; rw [if_neg hw, if_pos hcc]
              have hj32 : n - 128 < ctrl.length := by show n - 128 < 32; omega
              obtain ⟨z, hz⟩ : ∃ z : Nat, ctrl[n - 128] = z := ⟨_, rfl⟩
              have hg : ctrl.getD (n - 128) 0 = z := by rw [List.getD_eq_getElem?_getD, List.getElem?_eq_getElem hj32, ← hz]; rfl
              rw [hg] at hC
              have hcell : (wc.alloc (.cells ctrlV 21)).cell? ⟨wc.heap.size, n - 128, none⟩ = some (.int .i32 (z : Nat)) := by
                rw [cell_block (heap_alloc_new wc _), ctrlV_at (n - 128) hj32, hz]
              have h1 : n - 127 - (n - 128) = 1 := by omega
              have hcv := fun cap => conv_one _ ⟨wc.heap.size, n - 128, none⟩ cap _ hcell
              rw [← h1] at hcv
              unfold ctrlV at hcv
              have HR4 := fields HR3.out
              rw [hC, hF] at HR4
              have HR5 : Hid (R.text = Utf8.encode (z : Int) ∧ (R.n : Int) = (f : Int) + (m : Int) - (q : Int) ∧ (R.fault : Int) = 2) := ⟨HR4.1, HR4.2.1.trans (by simp; omega), HR4.2.2.trans (by simp)⟩
              clear hC hF HR4 HR3 hw hcc hg hz hcell hj32 h1
              have t0 : ((n : Int) == 0) = false := by simp; omega
              have t1 : decide ((n : Int) > 1114111) = false := by simp; omega
              have t2 : decide ((n : Int) ≥ 55296) = false := by simp; omega
              have t4 : decide ((n : Int) ≥ 128) = true := by simp; omega
              have t5 : decide ((n : Int) ≤ 159) = true := by simp; omega
              go_wp2
              go_ret3
              exact ⟨tup3 HR5.out, hkk _⟩
            · have hw : ¬ wrongC n = true := by unfold wrongC; simp; omega
              have hcc : ¬ ctrlC n = true := by unfold ctrlC; simp; omega
              have hC : meantC n = n := by unfold meantC; rw [if_neg hw, if_neg hcc]
              have hF : meantF n = 0 := by unfold meantF; rw [if_neg hw, if_neg hcc]
              have hcell : (wc.alloc (.cells #[.int .i32 (n : Int)] 21)).cell? ⟨wc.heap.size, 0, none⟩ = some (.int .i32 (n : Int)) := by
                rw [cell_block (heap_alloc_new wc _)]; rfl
              have hcv := fun cap => conv_one _ ⟨wc.heap.size, 0, none⟩ cap _ hcell
              have HR4 := fields HR3.out
              rw [hC, hF] at HR4
              have HR5 : Hid (R.text = Utf8.encode (n : Int) ∧ (R.n : Int) = (f : Int) + (m : Int) - (q : Int) ∧ (R.fault : Int) = 1) := ⟨HR4.1, HR4.2.1.trans (by simp; omega), HR4.2.2.trans (by simp)⟩
              clear hC hF HR4 HR3 hw hcc hcell
              have t0 : ((n : Int) == 0) = false := by simp; omega
              have t1 : decide ((n : Int) > 1114111) = false := by simp; omega
              have t2 : decide ((n : Int) ≥ 55296) = false := by simp; omega
              have t4 : decide ((n : Int) ≥ 128) = false := by simp; omega
              go_wp2
              go_ret3
              exact ⟨tup3 HR5.out, hkk _⟩
            · have hw : ¬ wrongC n = true := by unfold wrongC; simp; omega
              have hcc : ¬ ctrlC n = true := by unfold ctrlC; simp; omega
              have hC : meantC n = n := by unfold meantC; rw [if_neg hw, if_neg hcc]
              have hF : meantF n = 0 := by unfold meantF; rw [if_neg hw, if_neg hcc]
              have hcell : (wc.alloc (.cells #[.int .i32 (n : Int)] 21)).cell? ⟨wc.heap.size, 0, none⟩ = some (.int .i32 (n : Int)) := by
                rw [cell_block (heap_alloc_new wc _)]; rfl
              have hcv := fun cap => conv_one _ ⟨wc.heap.size, 0, none⟩ cap _ hcell
              have HR4 := fields HR3.out
              rw [hC, hF] at HR4
              have HR5 : Hid (R.text = Utf8.encode (n : Int) ∧ (R.n : Int) = (f : Int) + (m : Int) - (q : Int) ∧ (R.fault : Int) = 1) := ⟨HR4.1, HR4.2.1.trans (by simp; omega), HR4.2.2.trans (by simp)⟩
              clear hC hF HR4 HR3 hw hcc hcell
              have t0 : ((n : Int) == 0) = false := by simp; omega
              have t1 : decide ((n : Int) > 1114111) = false := by simp; omega
              have t2 : decide ((n : Int) ≥ 55296) = false := by simp; omega
              have t4 : decide ((n : Int) ≥ 128) = true := by simp; omega
              have t5 : decide ((n : Int) ≤ 159) = false := by simp; omega
              go_wp2
              go_ret3
              exact ⟨tup3 HR5.out, hkk _⟩
            · have hw : ¬ wrongC n = true := by unfold wrongC; simp; omega
              have hcc : ¬ ctrlC n = true := by unfold ctrlC; simp; omega
              have hC : meantC n = n := by unfold meantC; rw [if_neg hw, if_neg hcc]
              have hF : meantF n = 0 := by unfold meantF; rw [if_neg hw, if_neg hcc]
              have hcell : (wc.alloc (.cells #[.int .i32 (n : Int)] 21)).cell? ⟨wc.heap.size, 0, none⟩ = some (.int .i32 (n : Int)) := by
                rw [cell_block (heap_alloc_new wc _)]; rfl
              have hcv := fun cap => conv_one _ ⟨wc.heap.size, 0, none⟩ cap _ hcell
              have HR4 := fields HR3.out
              rw [hC, hF] at HR4
              have HR5 : Hid (R.text = Utf8.encode (n : Int) ∧ (R.n : Int) = (f : Int) + (m : Int) - (q : Int) ∧ (R.fault : Int) = 1) := ⟨HR4.1, HR4.2.1.trans (by simp; omega), HR4.2.2.trans (by simp)⟩
              clear hC hF HR4 HR3 hw hcc hcell
              have t0 : ((n : Int) == 0) = false := by simp; omega
              have t1 : decide ((n : Int) > 1114111) = false := by simp; omega
              have t2 : decide ((n : Int) ≥ 55296) = true := by simp; omega
              have t3 : decide ((n : Int) ≤ 57343) = false := by simp; omega
              have t4 : decide ((n : Int) ≥ 128) = true := by simp; omega
              have t5 : decide ((n : Int) ≤ 159) = false := by simp; omega
              go_wp2
              go_ret3
              exact ⟨tup3 HR5.out, hkk _⟩
end Go.Proofs.Ytffllhohlfblnaa
