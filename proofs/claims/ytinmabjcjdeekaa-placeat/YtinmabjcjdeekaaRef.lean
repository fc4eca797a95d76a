/-
  What the document's answer for layer 2 does as a Go text: portiereref02.At and Of.
-/
import Derived.Test.YtinmabjcjdeekaaFacts
namespace Go.Proofs.Ytinmabjcjdeekaa
open Go.RowKit

set_option maxRecDepth 20000 in
set_option maxHeartbeats 1000000 in
theorem refAt_any (s : ByteArray) (i : Int) (w : World) (hs : s.size ≤ 100000) :
    Calls Try.prog 12 #[.string s, .int .i64 i] w fun e w' => e = .returned (.tuple #[.int .i64 ((spot (s.data.toList.take (clip s i))).1 : Int), .int .i64 ((spot (s.data.toList.take (clip s i))).2 : Int)]) ∧ w' = w := by
  obtain ⟨n, hn⟩ : ∃ n, n = clip s i := ⟨_, rfl⟩
  rw [← hn]
  have hns : n ≤ s.size := by rw [hn]; unfold clip; omega
  have HN : Hid (n = clip s i) := hn
  clear hn
  go_enter Try.func12, Try.ntmps12
  go_upto_region 1 with fail
  go_cut [1] (fun s1 wc => s1 = .int .i64 (n : Int) ∧ wc = w)
  case first =>
    have hn := HN.out
    unfold clip at hn
    by_cases h1 : i < 0
    · obtain rfl : n = 0 := by omega
      clear hn
      go_wp2
      go_meet
      case rel => exact ⟨rfl, rfl⟩
    · by_cases h2 : (s.size : Int) < i
      · obtain rfl : n = s.size := by omega
        clear hn
        go_wp2
        go_meet
        case rel => exact ⟨rfl, rfl⟩
      · obtain rfl : i = (n : Int) := by omega
        clear hn
        go_wp2
        go_meet
        case rel => exact ⟨rfl, rfl⟩
  case rest =>
    obtain ⟨rfl, rfl⟩ := hcut
    go_wp2
    go_loop [8, 6, 7] (fun kv lv cv => ∃ k l c : Nat, k ≤ n ∧ kv = .int .i64 k ∧ lv = .int .i64 l ∧ cv = .int .i64 c ∧ Hid (spot (s.data.toList.take k) = (l, c))) (fun kv _ _ => n - (intOf kv).toNat)
    case atStart => exact ⟨0, 1, 1, by omega, rfl, rfl, rfl, rfl⟩
    case round =>
      obtain ⟨k, l, c, hkn, rfl, rfl, rfl, HS⟩ := hrel
      by_cases hlt : k < n
      · have e1 : (k : Int) < (n : Int) := by omega
        have e2 : (k : Int) < (s.size : Int) := by omega
        have e3 : k < s.size := by omega
        have HS' : Hid (spot (s.data.toList.take (k + 1)) = past (l, c) s[k]) := by rw [spot_step s k e3, HS.out]; exact rfl
        have hll : l < 1000000 ∧ c < 1000000 := by
          have h := spot_le (s.data.toList.take k)
          rw [HS.out] at h
          have : (s.data.toList.take k).length ≤ s.size := by simp; omega
          simp only at h
          omega
        obtain ⟨hl1, hl2⟩ := hll
        clear HS
        by_cases g1 : s[k].toNat = 10
        · have HP : Hid (spot (s.data.toList.take (k + 1)) = (l + 1, 1)) := HS'.out.trans (by simp [past, g1])
          have e4 : ((s[k].toNat : Int) == 10) = true := by simp; omega
          clear HS' g1
          go_wp2
          go_round
          case rel => exact ⟨k + 1, l + 1, 1, by omega, by go_num, by go_num, rfl, HP⟩
          case measure => simp [intOf]; omega
        · have e4 : ((s[k].toNat : Int) == 10) = false := by simp; omega
          by_cases g2 : 128 ≤ s[k].toNat
          · have e5 : decide ((s[k].toNat : Int) < 128) = false := by simp; omega
            by_cases g3 : s[k].toNat ≤ 191
            · have e6 : decide ((s[k].toNat : Int) > 191) = false := by simp; omega
              have HP : Hid (spot (s.data.toList.take (k + 1)) = (l, c)) := HS'.out.trans (by simp [past, g1, g2, g3])
              clear HS' g1 g2 g3
              go_wp2
              go_round
              case rel => exact ⟨k + 1, l, c, by omega, by go_num, rfl, rfl, HP⟩
              case measure => simp [intOf]; omega
            · have e6 : decide ((s[k].toNat : Int) > 191) = true := by simp; omega
              have HP : Hid (spot (s.data.toList.take (k + 1)) = (l, c + 1)) := HS'.out.trans (by simp [past, g1, g2, g3])
              clear HS' g1 g2 g3
              go_wp2
              go_round
              case rel => exact ⟨k + 1, l, c + 1, by omega, by go_num, rfl, by go_num, HP⟩
              case measure => simp [intOf]; omega
          · have e5 : decide ((s[k].toNat : Int) < 128) = true := by simp; omega
            have HP : Hid (spot (s.data.toList.take (k + 1)) = (l, c + 1)) := HS'.out.trans (by simp [past, g1, g2])
            clear HS' g1 g2
            go_wp2
            go_round
            case rel => exact ⟨k + 1, l, c + 1, by omega, by go_num, rfl, by go_num, HP⟩
            case measure => simp [intOf]; omega
      · obtain rfl : k = n := by omega
        go_wp2
        go_ret2
        exact ⟨by rw [HS.out]; rfl, rfl⟩


set_option maxRecDepth 20000 in
set_option maxHeartbeats 1000000 in
theorem refOf_any (s : ByteArray) (line col : Int) (w : World) (hs : s.size ≤ 100000) :
    Calls Try.prog 13 #[.string s, .int .i64 line, .int .i64 col] w fun e w' => e = .returned (ofV (ofS s line col)) ∧ w' = w := by
  obtain ⟨R, hR⟩ : ∃ R, R = ofS s line col := ⟨_, rfl⟩
  rw [← hR]
  have HR : Hid (R = ofS s line col) := hR
  clear hR
  go_enter Try.func13, Try.ntmps13
  go_wp2
  go_loopw [8] (fun kv wr => ∃ k : Nat, k ≤ s.size + 1 ∧ kv = .int .i64 k ∧ Hid (∀ j, j < k → hit s line col j = false) ∧ wr = w) (fun kv _ => s.size + 1 - (intOf kv).toNat)
  case atStart => exact ⟨0, by omega, rfl, fun j hj => absurd hj (Nat.not_lt_zero j), rfl⟩
  case round =>
    obtain ⟨k, hkn, rfl, HF, rfl⟩ := hrel
    by_cases hlt : k ≤ s.size
    · have e1 : (k : Int) ≤ (s.size : Int) := by omega
      have hat := refAt_any s k wr hs
      rw [clip_le hlt] at hat
      obtain ⟨⟨l, c⟩, hS⟩ : ∃ q, q = spot (s.data.toList.take k) := ⟨_, rfl⟩
      rw [← hS] at hat
      have HS : Hid (spot (s.data.toList.take k) = (l, c)) := hS.symm
      clear hS
      by_cases h1 : (l : Int) = line
      · by_cases h2 : (c : Int) = col
        · have hR : R = some k := HR.out.trans (ofS_some hlt (by simp [hit, HS.out, h1, h2]) HF.out)
          subst h1 h2 hR
          go_wp2_with (go_at_call 12; refine hat.mono ?_; rintro e w1 ⟨rfl, rfl⟩)
          go_ret2
          exact ⟨rfl, rfl⟩
        · have HF' : Hid (∀ j, j < k + 1 → hit s line col j = false) := fun j hj => by
            by_cases h : j < k
            · exact HF.out j h
            · obtain rfl : j = k := by omega
              simp [hit, HS.out, h2]
          have e2 : ((c : Int) == col) = false := by simp; omega
          subst h1
          clear HS HF
          go_wp2_with (go_at_call 12; refine hat.mono ?_; rintro e w1 ⟨rfl, rfl⟩)
          go_roundw
          case rel => exact ⟨k + 1, by omega, by go_num, HF'.out, trivial⟩
          case measure => simp [intOf]; omega
      · have HF' : Hid (∀ j, j < k + 1 → hit s line col j = false) := fun j hj => by
          by_cases h : j < k
          · exact HF.out j h
          · obtain rfl : j = k := by omega
            simp [hit, HS.out, h1]
        have e2 : ((l : Int) == line) = false := by simp; omega
        clear HS HF
        go_wp2_with (go_at_call 12; refine hat.mono ?_; rintro e w1 ⟨rfl, rfl⟩)
        go_roundw
        case rel => exact ⟨k + 1, by omega, by go_num, HF'.out, trivial⟩
        case measure => simp [intOf]; omega
    · obtain rfl : k = s.size + 1 := by omega
      have hR : R = none := HR.out.trans (ofS_none fun j hj => HF.out j (by omega))
      subst hR
      have e1 : ¬ ((s.size + 1 : Nat) : Int) ≤ (s.size : Int) := by omega
      go_wp2
      go_ret2
      exact ⟨rfl, rfl⟩
end Go.Proofs.Ytinmabjcjdeekaa
