/-
  What the document's answer for layer 1 does as a Go text: right.
-/
import Derived.Test.YtnfallgpnoofiaaRefA
import Derived.Deep.QuietTactic
import Derived.BigQuiet
namespace Go.Proofs.Ytnfallgpnoofiaa
open Go.RowKit
set_option maxHeartbeats 2000000 in
theorem right_any (c : UInt8) (r : List UInt8) (g o cap : Nat) (w : World) (hcap : (c :: r).length ≤ cap) (hl : (c :: r).length ≤ 1099511627776)
    (hc : ∀ j (hj : j < (c :: r).length), w.cell? ⟨g, o + j, none⟩ = some (.int .u8 ((c :: r)[j].toNat : Int))) :
    Calls Try.prog 17 #[.slice (some ⟨g, o, none⟩) (c :: r).length cap] w fun e w' => e = .returned (.int .i64 (rgt c (moreZ c) 1 r)) ∧ Kept (fun _ => True) w w' := by
  have hc0 : w.cell? ⟨g, o, none⟩ = some (.int .u8 (c.toNat : Int)) := hc 0 (by simp)
  obtain ⟨n, hn⟩ : ∃ n, n = moreZ c := ⟨_, rfl⟩
  have hmore := more_any c w
  rw [← hn] at hmore ⊢
  obtain ⟨len, hlen⟩ : ∃ len, len = (c :: r).length := ⟨_, rfl⟩
  have hlen0 : 0 < len := by rw [hlen]; simp
  rw [← hlen] at hcap hl ⊢
  obtain ⟨R, hR⟩ : ∃ R, R = rgt c n 1 r := ⟨_, rfl⟩
  rw [← hR]
  have HR : Hid (rgt c n 1 ((c :: r).drop 1) = R) := by rw [hR]; rfl
  have HL : Hid (len = (c :: r).length) := hlen
  have HC : Hid (∀ j (hj : j < (c :: r).length), w.cell? ⟨g, o + j, none⟩ = some (.int .u8 ((c :: r)[j].toNat : Int))) := hc
  have hp0 : (0 : Int) < (len : Int) := by omega
  clear hn hR hlen hc
  go_enter Try.func17, Try.ntmps17
  go_wp2_with (go_at_call 18; refine hmore.mono ?_; rintro e w1 ⟨rfl, rfl⟩)
  clear hmore
  go_loopw [4] (fun kv wr => ∃ k : Nat, 1 ≤ k ∧ k ≤ len ∧ kv = .int .i64 k ∧ Hid (rgt c n k ((c :: r).drop k) = R) ∧ Kept (fun _ => True) w1 wr) (fun kv _ => len - (intOf kv).toNat)
  case atStart => exact ⟨1, by omega, by omega, rfl, HR, Kept.refl _ _⟩
  case round =>
    obtain ⟨k, hk1, hk2, rfl, HK, hkp⟩ := hrel
    have hcr0 : wr.cell? ⟨g, o, none⟩ = some (.int .u8 (c.toNat : Int)) := (hkp.cell trivial).trans hc0
    clear hc0
    by_cases hkn : (k : Int) ≤ n
    · by_cases hkl : k < len
      · have hkl' : (k : Int) < (len : Int) := by omega
        have hkz : (0 : Int) ≤ (k : Int) := by omega
        have hj : k < (c :: r).length := by rw [← HL.out]; exact hkl
        obtain ⟨d, hd⟩ : ∃ d, d = (c :: r)[k] := ⟨_, rfl⟩
        have hcd : wr.cell? ⟨g, o + k, none⟩ = some (.int .u8 (d.toNat : Int)) := by rw [hd]; exact (hkp.cell trivial).trans (HC.out k hj)
        have HK' : Hid ((if folB c d k = true then rgt c n (k + 1) ((c :: r).drop (k + 1)) else k) = R) := by
          have this := HK.out
          rw [List.drop_eq_getElem_cons hj, rgt, ← hd] at this
          simp only [hkn, true_and] at this
          exact this
        clear hd HC HR hj HL
        have hfol := fol_any c d k
        cases hf : folB c d k
        · rw [hf] at hfol HK'
          have HK2 : Hid (k = R) := by have this := HK'.out; simp at this; exact this
          clear HK HK' hf
          go_wp2
          go_region_held3 (fun w' => w'.cell? ⟨g, o, none⟩ = some (.int .u8 (c.toNat : Int)) ∧ w'.cell? ⟨g, o + k, none⟩ = some (.int .u8 (d.toNat : Int))) (go_keep) ((go_at_call 23; refine (hfol _).mono ?_; rintro e w' ⟨rfl, rfl⟩))
          go_wp2
          go_ret
          exact ⟨by rw [HK2.out]; rfl, hkp.drew⟩
        · rw [hf] at hfol HK'
          have HK2 : Hid (rgt c n (k + 1) ((c :: r).drop (k + 1)) = R) := by have this := HK'.out; simp only [if_true] at this; exact this
          clear HK HK' hf
          go_wp2
          go_region_held3 (fun w' => w'.cell? ⟨g, o, none⟩ = some (.int .u8 (c.toNat : Int)) ∧ w'.cell? ⟨g, o + k, none⟩ = some (.int .u8 (d.toNat : Int))) (go_keep) ((go_at_call 23; refine (hfol _).mono ?_; rintro e w' ⟨rfl, rfl⟩))
          go_wp2
          go_roundw
          case rel => exact ⟨k + 1, by omega, by omega, by go_num, HK2, hkp.drew⟩
          case measure => simp [intOf]; omega
      · obtain rfl : k = len := by omega
        have HK2 : Hid (k = R) := by
          have this := HK.out
          rw [List.drop_eq_nil_of_le (by rw [← HL.out]; omega), rgt] at this
          exact this
        clear HC HR HL HK hkl
        go_wp2
        go_quiet (fail)
        go_wp2
        go_ret
        exact ⟨by rw [HK2.out]; rfl, hkp.drewN _⟩
    · have hkn' : decide ((k : Int) ≤ n) = false := by simpa using hkn
      have HK2 : Hid (k = R) := by
        have this := HK.out
        cases hdr : (c :: r).drop k with
        | nil => rw [hdr, rgt] at this; exact this
        | cons x y => rw [hdr, rgt, if_neg (by simp [hkn])] at this; exact this
      clear HC HR HL HK
      go_wp2
      go_quiet (fail)
      go_wp2
      go_ret
      exact ⟨by rw [HK2.out]; rfl, hkp.drewN _⟩
end Go.Proofs.Ytnfallgpnoofiaa
