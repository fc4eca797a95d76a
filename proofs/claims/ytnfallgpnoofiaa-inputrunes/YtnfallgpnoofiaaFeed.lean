/-
  What Feed does to a decoder in memory, for every row of bytes.
-/
import Derived.Test.YtnfallgpnoofiaaFurther
namespace Go.Proofs.Ytnfallgpnoofiaa
open Go.RowKit
/-- The bytes bs lie behind the address, in a block of K. -/
def RowB (K : Nat → Prop) (w : World) (ao : Option Addr) (bs : List UInt8) : Prop :=
  bs = [] ∨ ∃ g o, ao = some ⟨g, o, none⟩ ∧ K g ∧ ∀ j (hj : j < bs.length), w.cell? ⟨g, o + j, none⟩ = some (.int .u8 (bs[j].toNat : Int))

set_option maxHeartbeats 1000000 in
theorem feed_dec {K : Nat → Prop} {w : World} {b : Nat} {s : St} (h : Dec K w b s) (hs : s.Ok) (bs : List UInt8) (ao : Option Addr) (cap : Nat) (hrow : RowB K w ao bs) (hl : s.text.length + 6 * bs.length ≤ 1099511620000) :
    Calls Try.prog 11 #[dptr b, .slice ao bs.length cap] w fun e w' => e = .returned (.tuple #[]) ∧ Dec K w' b (s.feed bs) ∧ Kept K w w' := by
  go_enter Try.func11, Try.ntmps11
  go_wp2
  go_loopw [15] (fun i wr => ∃ k : Nat, k ≤ bs.length ∧ i = .int .i64 k ∧ Dec K wr b (s.feed (bs.take k)) ∧ Kept K w wr) (fun i _ => bs.length - (intOf i).toNat)
  case atStart => exact ⟨0, Nat.zero_le _, rfl, h, Kept.refl K w⟩
  case round =>
    obtain ⟨k, hk, rfl, hd, hkp⟩ := hrel
    by_cases hlt : k < bs.length
    · obtain ⟨ao1, cap1, h1, h2⟩ := hd.blk
      have c2 := cell_block h1 2
      have hok := St.feed_ok hs (bs.take k)
      have htl : (bs.take k).length = k := by simp; omega
      simp [decCells] at c2
      rcases hrow with rfl | ⟨g, o, rfl, hg, hc⟩
      · simp at hlt
      have hck : wr.cell? ⟨g, o + k, none⟩ = some (.int .u8 (bs[k].toNat : Int)) := (hkp.cell hg).trans (hc k hlt)
      obtain ⟨c, hcc⟩ : ∃ c, c = bs[k] := ⟨_, rfl⟩
      rw [← hcc] at hck
      have HS : Hid (s.feed (bs.take (k + 1)) = (s.feed (bs.take k)).feed1 c) := by rw [List.take_succ_eq_append_getElem hlt, St.feed_snoc, hcc]; rfl
      clear hcc
      obtain ⟨s1, hs1⟩ : ∃ s1, s1 = s.feed (bs.take k) := ⟨_, rfl⟩
      rw [← hs1] at hd c2 hok HS
      clear hc h1 h2 hs1
      have hw := hd
      by_cases hcnt : 0 < s1.count
      · have hf1 : s1.feed1 c = s1.further c := by unfold St.feed1; rw [if_pos hcnt]
        have hfur := further_dec hd c (by omega) hcnt hok.1.cnt hok.1.z
        have hcnt' : (0 : Int) < (s1.count : Int) := by omega
        have H1 : Hid (s.feed (bs.take (k + 1)) = s1.further c) := HS.out.trans hf1
        clear hf1 HS hd hw hok
        go_wp2_with (go_at_call 16; refine hfur.mono ?_; rintro e w2 ⟨rfl, hd2, hk2⟩)
        go_roundw
        case rel => exact ⟨k + 1, by omega, by go_num, by rw [H1.out]; exact hd2, hkp.trans hk2⟩
        case measure => simp [intOf]; omega
      · have hf1 : s1.feed1 c = s1.first c := by unfold St.feed1; rw [if_neg hcnt]
        have hfur := first_dec hd c (by omega)
        have hcnt' : ¬ (0 : Int) < (s1.count : Int) := by omega
        have H1 : Hid (s.feed (bs.take (k + 1)) = s1.first c) := HS.out.trans hf1
        clear hf1 HS hd hw hok
        go_wp2_with (go_at_call 15; refine hfur.mono ?_; rintro e w2 ⟨rfl, hd2, hk2⟩)
        go_roundw
        case rel => exact ⟨k + 1, by omega, by go_num, by rw [H1.out]; exact hd2, hkp.trans hk2⟩
        case measure => simp [intOf]; omega
    · have hkl : k = bs.length := by omega
      subst hkl
      go_wp2
      go_end0
      rw [List.take_length] at hd
      exact ⟨rfl, hd, hkp⟩
end Go.Proofs.Ytnfallgpnoofiaa
