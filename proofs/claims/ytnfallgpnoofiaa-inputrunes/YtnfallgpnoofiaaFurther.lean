/-
  What readFurther does to a decoder in memory.
-/
import Derived.Test.YtnfallgpnoofiaaFirst
namespace Go.Proofs.Ytnfallgpnoofiaa
open Go.RowKit
theorem breakOff_len {s : St} (_hok : s.settled ≤ s.text.length) : s.breakOff.text.length ≤ s.text.length + 3 := by
  simp [St.breakOff, St.settle, repB]; omega

set_option maxHeartbeats 1000000 in
theorem further_bad {K : Nat → Prop} {w : World} {b : Nat} {s : St} (h : Dec K w b s) (c : UInt8) (hl : s.text.length ≤ 1099511626000) (hbad : c.toNat < s.low.toNat ∨ s.high.toNat < c.toNat) :
    Calls Try.prog 16 #[dptr b, .int .u8 c.toNat] w fun e w' => e = .returned (.tuple #[]) ∧ Dec K w' b (s.further c) ∧ Kept K w w' := by
  obtain ⟨ao, cap, h1, h2⟩ := h.blk
  have c3 := cell_block h1 3
  have c4 := cell_block h1 4
  have hbl := breakOff_len h.ok
  simp [decCells] at c3 c4
  have hfu : s.further c = s.breakOff.first c := by unfold St.further; rw [if_pos hbad]
  rw [hfu]
  have hbr := breakOff_dec h (by omega)
  by_cases g1 : (c.toNat : Int) < (s.low.toNat : Int)
  · clear hbad hfu h1 h2 h
    go_enter Try.func16, Try.ntmps16
    go_wp2_with (first | (go_at_call 21; refine hbr.mono ?_; rintro e w1 ⟨rfl, hd1, hk1⟩) | (go_at_call 15; refine (first_dec hd1 c (by omega)).mono ?_; rintro e w2 ⟨rfl, hd2, hk2⟩))
    refine bodyPost_ret (results_none rfl _ _ _) rfl ?_
    exact ⟨rfl, hd2, hk1.trans hk2⟩
  · have g2 : (s.high.toNat : Int) < (c.toNat : Int) := by omega
    clear hbad hfu h1 h2 h
    go_enter Try.func16, Try.ntmps16
    go_wp2_with (first | (go_at_call 21; refine hbr.mono ?_; rintro e w1 ⟨rfl, hd1, hk1⟩) | (go_at_call 15; refine (first_dec hd1 c (by omega)).mono ?_; rintro e w2 ⟨rfl, hd2, hk2⟩))
    refine bodyPost_ret (results_none rfl _ _ _) rfl ?_
    exact ⟨rfl, hd2, hk1.trans hk2⟩

set_option maxHeartbeats 1000000 in
theorem further_good {K : Nat → Prop} {w : World} {b : Nat} {s : St} (h : Dec K w b s) (c : UInt8) (hl : s.text.length ≤ 1099511626000) (hgood : ¬ (c.toNat < s.low.toNat ∨ s.high.toNat < c.toNat))
    (hc1 : 0 < s.count) (hc3 : s.count ≤ 3) (hz : s.begun = false → s.settled = 0) :
    Calls Try.prog 16 #[dptr b, .int .u8 c.toNat] w fun e w' => e = .returned (.tuple #[]) ∧ Dec K w' b (s.further c) ∧ Kept K w w' := by
  obtain ⟨ao, cap, h1, h2⟩ := h.blk
  have c0 := cell_block h1 0
  have c2 := cell_block h1 2
  have c3 := cell_block h1 3
  have c4 := cell_block h1 4
  have f := frozen_block h1
  have hbl := lt_block h1
  have hlt := h.lt
  have hnb := h.nb
  obtain ⟨text, settled, count, low, high, begun, returned⟩ := s
  simp [decCells] at c0 c2 c3 c4 hl hgood hc1 hc3 hz
  have H0 : Hid (settled ≤ text.length) := h.ok
  have g1 : ¬ (c.toNat : Int) < (low.toNat : Int) := by omega
  have g2 : ¬ (high.toNat : Int) < (c.toNat : Int) := by omega
  obtain ⟨m, rfl⟩ : ∃ m, count = m + 1 := ⟨count - 1, by omega⟩
  have hfu : St.further ⟨text, settled, m + 1, low, high, begun, returned⟩ c = if m = 0 then (St.dropMark ⟨text ++ [c], settled, m, 128, 191, begun, returned⟩).settle else ⟨text ++ [c], settled, m, 128, 191, begun, returned⟩ := by
    unfold St.further; rw [if_neg (by simp; omega)]; simp
  rw [hfu]
  obtain ⟨i0, hi, hz0, hz1, hz2⟩ := info_parts Try.info5
  have hz3 : i0.bytes ≤ 64 := by omega
  have HZ : Hid (begun = false → settled = 0) := hz
  clear hgood hfu h hz
  go_enter Try.func16, Try.ntmps16
  go_wp2_with (at_builtin; go_must (refine wpList_app1 (K := fun k => K k ∨ k = b) rfl (.tmp 29) (.tmp 31) 23 5 rfl i0 (.int .u8 0) Try.underlying23 hi hz0 hz1 rfl hz3 ao text.length cap (bvs text) rfl (bv c) rfl w.heap.size rfl (by omega) ?_ ?_ ?_ ?_))
  · intro k hk
    rcases hk with hk | rfl
    · exact hlt k hk
    · exact hbl
  · rfl
  · intro ao1 cap1 w1 own1 kept1
    have hb1 := heap_setCell_at ((kept1.block b (.inr rfl)).trans h1) 0 (.slice ao1 (text.length + 1) cap1)
    have hb0 := (kept1.block b (.inr rfl)).trans h1
    have d0 := cell_block hb0 0
    have d2 := cell_block hb0 2
    have d3 := cell_block hb0 3
    have d4 := cell_block hb0 4
    have f1 := frozen_block hb0
    simp [decCells] at d0 d2 d3 d4
    have hnew : Dec K ((((w1.setCell ⟨b, 0, none⟩ (.slice ao1 (text.length + 1) cap1)).setCell ⟨b, 2, none⟩ (.int .i64 m)).setCell ⟨b, 3, none⟩ (.int .u8 128)).setCell ⟨b, 4, none⟩ (.int .u8 191)) b ⟨text ++ [c], settled, m, 128, 191, begun, returned⟩ := by
      refine ⟨hnb, fun k hk => ?_, ?_, ao1, cap1, ?_, ?_⟩
      · have := hlt k hk
        have := kept1.size
        simp at *
        omega
      · have := H0.out
        simp
        omega
      · rw [heap_setCell_at (heap_setCell_at (heap_setCell_at hb1 2 _) 3 _) 4 _]
        simp [decCells]
      · exact ((((own1.cast (by simp) (by simp [bvs])).setCell (.inr rfl) _).setCell (.inr rfl) _).setCell (.inr rfl) _).setCell (.inr rfl) _
    have hkk : Kept K w ((((w1.setCell ⟨b, 0, none⟩ (.slice ao1 (text.length + 1) cap1)).setCell ⟨b, 2, none⟩ (.int .i64 m)).setCell ⟨b, 3, none⟩ (.int .u8 128)).setCell ⟨b, 4, none⟩ (.int .u8 191)) :=
      (((((Kept.refl K w).trans (kept1.mono fun k hk => .inl hk)).setCell hnb _).setCell hnb _).setCell hnb _).setCell hnb _
    clear c0 c2 c3 c4 h1 hb1 hb0 own1 kept1 h2
    by_cases hm : m = 0
    · subst hm
      have hdr := dropMark_dec hnew HZ.out
      go_wp2_with (first | (go_at_call 22; refine hdr.mono ?_; rintro e w2 ⟨rfl, hd2, hk2⟩) | (go_at_call 20; refine (settle_dec hd2).mono ?_; rintro e w3 ⟨rfl, hd3, hk3⟩))
      go_end0
      exact ⟨rfl, hd3, (hkk.trans hk2).trans hk3⟩
    · have hm' : ((m : Int) == 0) = false := by simp; omega
      go_wp2
      go_end0
      exact ⟨rfl, hnew, hkk⟩

theorem further_dec {K : Nat → Prop} {w : World} {b : Nat} {s : St} (h : Dec K w b s) (c : UInt8) (hl : s.text.length ≤ 1099511626000) (hc1 : 0 < s.count) (hc3 : s.count ≤ 3) (hz : s.begun = false → s.settled = 0) :
    Calls Try.prog 16 #[dptr b, .int .u8 c.toNat] w fun e w' => e = .returned (.tuple #[]) ∧ Dec K w' b (s.further c) ∧ Kept K w w' := by
  by_cases hbad : c.toNat < s.low.toNat ∨ s.high.toNat < c.toNat
  · exact further_bad h c hl hbad
  · exact further_good h c hl hbad hc1 hc3 hz
end Go.Proofs.Ytnfallgpnoofiaa
