/-
  What breakOff, dropMark and readFirst do to a decoder in memory.
-/
import Derived.Test.YtnfallgpnoofiaaDec
namespace Go.Proofs.Ytnfallgpnoofiaa
open Go.RowKit
set_option linter.unusedSimpArgs false
def repA : ByteArray := ⟨#[239, 191, 189]⟩
theorem rep_cells : byteCells repA = bvs repB := rfl
set_option maxHeartbeats 1000000 in
theorem breakOff_dec {K : Nat → Prop} {w : World} {b : Nat} {s : St} (h : Dec K w b s) (hl : s.text.length ≤ 1099511627776) :
    Calls Try.prog 21 #[dptr b] w fun e w' => e = .returned (.tuple #[]) ∧ Dec K w' b s.breakOff ∧ Kept K w w' := by
  obtain ⟨ao, cap, h1, h2⟩ := h.blk
  have c0 := cell_block h1 0
  have c1 := cell_block h1 1
  have f := frozen_block h1
  have own := h2.take s.settled h.ok
  have hcap : s.text.length ≤ cap := h2.2.1
  have hok := h.ok
  obtain ⟨i0, hi, hz0, hz1, hz2⟩ := info_parts Try.info5
  have q1 : (0 : Int) ≤ (s.settled : Int) := by omega
  have q2 : (s.settled : Int) ≤ (cap : Int) := by omega
  have hlt := h.lt
  have hbl := lt_block h1
  simp [decCells] at c0 c1
  go_enter Try.func21, Try.ntmps21
  go_wp2
  go_region_law ((refine step_app (K := fun k => K k ∨ k = b) (by rfl) _ _ _ _ 5 (by rfl) i0 (.int .u8 0) Try.underlying23 hi hz0 hz1 rfl ao s.settled cap _ (by simp [Act.eval, Act.put]) own.drew (.string repA) 3 (byteCells repA) (by simp [Act.eval, repA]) (Src.ofString _ Try.underlying9 repA) (by intro k hk; rcases hk with hk | rfl; exact hlt k hk; exact hbl) (by unfold maxLen; omega) (by rw [hz2]; omega) ?_; intro ao1 cap1 w1 own1 kept1 some1; have f1 : ∀ i, w1.frozen? ⟨b, i, none⟩ = false := fun i => (kept1.frozen (.inr rfl)).trans (f i); have e1 : w1.cell? ⟨b, 0, none⟩ = some (.slice ao s.text.length cap) := (kept1.cell (.inr rfl)).trans c0))
  all_goals
    have h1b : (w1.setCell ⟨b, 0, none⟩ (.slice ao1 (s.settled + 3) cap1)).heap[b]? = some (.cells ((decCells ao cap s).setIfInBounds 0 (.slice ao1 (s.settled + 3) cap1)) 39 (0, 0)) := heap_setCell_at ((kept1.block b (.inr rfl)).trans h1) 0 _
    have d2 := cell_block h1b 2
    have d3 := cell_block h1b 3
    have d4 := cell_block h1b 4
    simp [decCells] at d2 d3 d4
    clear c0 c1
    go_wp2_with fail
    have hlen : (s.text.take s.settled ++ repB).length = s.settled + 3 := by simp [repB]; omega
    refine (settle_dec (K := K) (s := { s with text := s.text.take s.settled ++ repB, count := 0, low := 0, high := 0 }) ?qdec).mono ?_
    case qdec =>
      refine ⟨h.nb, fun k hk => ?_, by show s.settled ≤ (s.text.take s.settled ++ repB).length; omega, ao1, cap1, ?_, ((((own1.cast hlen.symm (by simp [bvs_append, bvs_take, rep_cells])).setCell (.inr rfl) _).setCell (.inr rfl) _).setCell (.inr rfl) _).setCell (.inr rfl) _⟩
      · have := hlt k hk
        have := kept1.size
        simp at *
        omega
      · rw [heap_setCell_at (heap_setCell_at (heap_setCell_at h1b 2 _) 3 _) 4 _]
        simp [decCells, hlen, bv]
    rintro e w2 ⟨rfl, hd2, hk2⟩
    go_wp2
    go_end0
    exact ⟨rfl, hd2, ((((((Kept.refl K w).drew.trans (kept1.mono fun k hk => .inl hk)).setCell h.nb _).setCell h.nb _).setCell h.nb _).setCell h.nb _).trans hk2⟩
set_option maxHeartbeats 1000000 in
theorem dropMark_dec {K : Nat → Prop} {w : World} {b : Nat} {s : St} (h : Dec K w b s) (hz : s.begun = false → s.settled = 0) :
    Calls Try.prog 22 #[dptr b] w fun e w' => e = .returned (.tuple #[]) ∧ Dec K w' b s.dropMark ∧ Kept K w w' := by
  obtain ⟨ao, cap, h1, h2⟩ := h.blk
  have c0 := cell_block h1 0
  have c5 := cell_block h1 5
  have f := frozen_block h1
  have hcap : s.text.length ≤ cap := h2.2.1
  have hcv := run_string_own (P := Try.prog) w 23 9 5 Try.underlying23 Try.underlying5 Try.underlying9 h2
  have hown := h2.take 0 (Nat.zero_le _)
  simp [decCells] at c0 c5
  obtain ⟨text, settled, count, low, high, begun, returned⟩ := s
  cases begun
  · by_cases ht : text = markB
    · subst ht
      simp only [] at *
      go_enter Try.func22, Try.ntmps22
      go_wp2
      go_end0
      have hz' := hz trivial
      subst hz'
      refine ⟨rfl, ⟨h.nb, fun k hk => by simpa using h.lt k hk, Nat.zero_le _, ao, cap, ?_, ?_⟩, (Kept.refl K w).setCell h.nb _⟩
      · rw [heap_setCell_at h1 0 _]
        simp [St.dropMark, decCells]
      · simpa [St.dropMark, bvs] using hown.setCell (.inr rfl) _
    · have ht' : (text == [239, 187, 191]) = false := by simpa [markB] using ht
      simp only [] at *
      go_enter Try.func22, Try.ntmps22
      go_wp2
      go_end0
      exact ⟨rfl, by simpa [St.dropMark, ht] using h, Kept.refl K w⟩
  · simp only [] at *
    go_enter Try.func22, Try.ntmps22
    go_wp2
    go_end0
    exact ⟨rfl, by simpa [St.dropMark] using h, Kept.refl K w⟩
/-- the joined line end -/
theorem first_joined {K : Nat → Prop} {w : World} {b : Nat} {s : St} (h : Dec K w b s) (hr : s.returned = true) (c : UInt8) (hc : c.toNat = 10) :
    Calls Try.prog 15 #[dptr b, .int .u8 c.toNat] w fun e w' => e = .returned (.tuple #[]) ∧ Dec K w' b (s.first c) ∧ Kept K w w' := by
  obtain ⟨ao, cap, h1, h2⟩ := h.blk
  have c6 := cell_block h1 6
  have f := frozen_block h1
  obtain ⟨text, settled, count, low, high, begun, returned⟩ := s
  simp only [] at hr
  subst hr
  simp [decCells] at c6
  rw [hc]
  go_enter Try.func15, Try.ntmps15
  go_wp2
  refine bodyPost_ret (results_none rfl _ _ _) rfl ?_
  refine ⟨rfl, ⟨h.nb, fun k hk => by simpa using h.lt k hk, ?_, ao, cap, ?_, ?_⟩, (Kept.refl K w).setCell h.nb _⟩
  · simpa [St.first, hc] using h.ok
  · rw [heap_setCell_at h1 6 _]
    simp [St.first, hc, decCells]
  · simpa [St.first, hc] using h2.setCell (.inr rfl) _

theorem decide_13 (n : Nat) : ((n : Int) == 13) = decide (n = 13) := by
  rw [Bool.eq_iff_iff]; simp; omega
set_option maxHeartbeats 1000000 in
theorem first_more {K : Nat → Prop} {w : World} {b : Nat} {s : St} (h : Dec K w b s) (c : UInt8) (hl : s.text.length ≤ 1099511627776) (hc : 0 < (behindS c).1) (hj : s.returned = false ∨ c.toNat ≠ 10) :
    Calls Try.prog 15 #[dptr b, .int .u8 c.toNat] w fun e w' => e = .returned (.tuple #[]) ∧ Dec K w' b (s.first c) ∧ Kept K w w' := by
  obtain ⟨ao, cap, h1, h2⟩ := h.blk
  have c0 := cell_block h1 0
  have c2 := cell_block h1 2
  have c3 := cell_block h1 3
  have c4 := cell_block h1 4
  have c6 := cell_block h1 6
  have f := frozen_block h1
  have hbl := lt_block h1
  have hlt := h.lt
  have hnb := h.nb
  obtain ⟨text, settled, count, low, high, begun, returned⟩ := s
  simp [decCells] at c0 c2 c3 c4 c6 hl
  obtain ⟨k, lo, hi', hb⟩ : ∃ k lo hi, behindS c = (k, lo, hi) := ⟨_, _, _, rfl⟩
  have hbeh := behind_any c
  unfold behV bv at hbeh
  rw [hb] at hbeh hc
  simp only [] at hbeh hc hj
  have hk : (0 : Int) < (k : Int) := by omega
  have hn10 : returned = true → ((c.toNat : Int) == 10) = false := by
    intro hr
    rcases hj with hj | hj
    · rw [hj] at hr; cases hr
    · simp; omega
  have hfirst : St.first ⟨text, settled, count, low, high, begun, returned⟩ c = ⟨text ++ [c], settled, k, lo, hi', begun, decide (c.toNat = 13)⟩ := by
    unfold St.first
    rw [if_neg (by rcases hj with hj | hj <;> simp [hj]), hb, if_pos hc]
  have H0 : Hid (settled ≤ text.length) := h.ok
  rw [hfirst]
  clear hj hfirst hb h
  obtain ⟨i0, hi, hz0, hz1, hz2⟩ := info_parts Try.info5
  have hz3 : i0.bytes ≤ 64 := by omega
  cases returned
  all_goals
    try simp only [forall_const, Bool.false_eq_true, false_implies] at hn10
    go_enter Try.func15, Try.ntmps15
    go_wp2_with (first | (go_at_call 19; refine (hbeh _).mono ?_; rintro e w' ⟨rfl, o, rfl⟩) | (at_builtin; go_must (refine wpList_app1 (K := fun k => K k ∨ k = b) rfl (.tmp 43) (.tmp 45) 23 5 rfl i0 (.int .u8 0) Try.underlying23 hi hz0 hz1 rfl hz3 ao text.length cap (bvs text) rfl (bv c) rfl (w.heap.size + 1) rfl hl ?_ ?_ ?_ ?_)))
    · exact ((((h2.setCell (.inr rfl) _).setCell (.inr rfl) _).setCell (.inr rfl) _).setCell (.inr rfl) _).alloc _
    · intro k hk
      have : k < w.heap.size := by
        rcases hk with hk | rfl
        · exact hlt k hk
        · exact hbl
      simp
      omega
    · simp
    · intro ao1 cap1 w1 own1 kept1
      have hb1 := (kept1.block b (.inr rfl)).trans (heap_alloc_past (heap_setCell_at (heap_setCell_at (heap_setCell_at (heap_setCell_at h1 6 _) 2 _) 3 _) 4 _) o)
      have d0 := cell_block hb1 0
      have f1 := frozen_block hb1
      simp [decCells] at d0
      clear c0 c2 c3 c4 c6 hbeh
      go_wp2
      refine bodyPost_ret (results_none rfl _ _ _) rfl ?_
      refine ⟨rfl, ⟨hnb, fun k hk => ?_, ?_, ao1, cap1, ?_, ?_⟩, ?_⟩
      · have := hlt k hk
        have := kept1.size
        simp at *
        omega
      · have := H0.out
        simp
        omega
      · rw [heap_setCell_at hb1 0 _]
        simp [decCells, decide_13]
      · exact (own1.cast (by simp) (by simp [bvs])).setCell (.inr rfl) _
      · exact ((((((Kept.refl K w).setCell hnb _).setCell hnb _).setCell hnb _).setCell hnb _).alloc (by simpa using hlt) _ |>.trans (kept1.mono fun k hk => .inl hk)).setCell hnb _
set_option maxHeartbeats 1000000 in
theorem first_cr {K : Nat → Prop} {w : World} {b : Nat} {s : St} (h : Dec K w b s) (c : UInt8) (hl : s.text.length ≤ 1099511627000) (hc : (behindS c).1 = 0) (hj : s.returned = false ∨ c.toNat ≠ 10) (hcr : c.toNat = 13) :
    Calls Try.prog 15 #[dptr b, .int .u8 c.toNat] w fun e w' => e = .returned (.tuple #[]) ∧ Dec K w' b (s.first c) ∧ Kept K w w' := by
  obtain ⟨ao, cap, h1, h2⟩ := h.blk
  have c0 := cell_block h1 0
  have c2 := cell_block h1 2
  have c3 := cell_block h1 3
  have c4 := cell_block h1 4
  have c6 := cell_block h1 6
  have f := frozen_block h1
  have hbl := lt_block h1
  have hlt := h.lt
  have hnb := h.nb
  obtain ⟨text, settled, count, low, high, begun, returned⟩ := s
  simp [decCells] at c0 c2 c3 c4 c6 hl
  obtain ⟨k, lo, hi', hb⟩ : ∃ k lo hi, behindS c = (k, lo, hi) := ⟨_, _, _, rfl⟩
  have hbeh := behind_any c
  unfold behV bv at hbeh
  rw [hb] at hbeh hc
  simp only [] at hbeh hc hj
  subst hc
  have hn10 : returned = true → ((c.toNat : Int) == 10) = false := by
    intro hr
    rcases hj with hj | hj
    · rw [hj] at hr; cases hr
    · simp; omega
  have hfirst : St.first ⟨text, settled, count, low, high, begun, returned⟩ c = St.settle ⟨text ++ [10], settled, 0, lo, hi', begun, true⟩ := by
    unfold St.first
    rw [if_neg (by rcases hj with hj | hj <;> simp [hj]), hb, if_neg (Nat.lt_irrefl 0)]
    simp [addB, hcr]
  have H0 : Hid (settled ≤ text.length) := h.ok
  rw [hfirst]
  rw [hcr]
  rw [hcr] at hbeh hn10
  clear hj hfirst hb h
  obtain ⟨i0, hi, hz0, hz1, hz2⟩ := info_parts Try.info5
  have hz3 : i0.bytes ≤ 64 := by omega
  cases returned
  all_goals
    try simp only [forall_const, Bool.false_eq_true, false_implies] at hn10
    go_enter Try.func15, Try.ntmps15
    go_wp2_with (first | (go_at_call 19; refine (hbeh _).mono ?_; rintro e w' ⟨rfl, o, rfl⟩) | (at_builtin; go_must (refine wpList_app1 (K := fun k => K k ∨ k = b) rfl (.tmp 56) (.tmp 57) 23 5 rfl i0 (.int .u8 0) Try.underlying23 hi hz0 hz1 rfl hz3 ao text.length cap (bvs text) rfl (.int .u8 10) rfl (w.heap.size + 1) rfl (by omega) ?_ ?_ ?_ ?_)))
    · exact ((((h2.setCell (.inr rfl) _).setCell (.inr rfl) _).setCell (.inr rfl) _).setCell (.inr rfl) _).alloc _
    · intro k hk
      have : k < w.heap.size := by
        rcases hk with hk | rfl
        · exact hlt k hk
        · exact hbl
      simp
      omega
    · simp
    · intro ao1 cap1 w1 own1 kept1
      have hb1 := (kept1.block b (.inr rfl)).trans (heap_alloc_past (heap_setCell_at (heap_setCell_at (heap_setCell_at (heap_setCell_at h1 6 _) 2 _) 3 _) 4 _) o)
      have d0 := cell_block hb1 0
      have f1 := frozen_block hb1
      simp [decCells] at d0
      clear c0 c2 c3 c4 c6 hbeh
      go_wp2_with fail
      refine (settle_dec (K := K) (s := ⟨text ++ [10], settled, 0, lo, hi', begun, true⟩) ?_).mono ?_
      · refine ⟨hnb, fun k hk => ?_, ?_, ao1, cap1, ?_, ?_⟩
        · have := hlt k hk
          have := kept1.size
          simp at *
          omega
        · have := H0.out
          simp
          omega
        · rw [heap_setCell_at hb1 0 _]
          simp [decCells]
        · exact (own1.cast (by simp) (by simp [bvs])).setCell (.inr rfl) _
      rintro e w2 ⟨rfl, hd2, hk2⟩
      go_wp2
      go_end0
      refine ⟨rfl, hd2, ?_⟩
      exact (((((((Kept.refl K w).setCell hnb _).setCell hnb _).setCell hnb _).setCell hnb _).alloc (by simpa using hlt) _ |>.trans (kept1.mono fun k hk => .inl hk)).setCell hnb _).trans hk2
set_option maxHeartbeats 1000000 in
theorem first_low {K : Nat → Prop} {w : World} {b : Nat} {s : St} (h : Dec K w b s) (c : UInt8) (hl : s.text.length ≤ 1099511627000) (hc : (behindS c).1 = 0) (hj : s.returned = false ∨ c.toNat ≠ 10) (hcr : c.toNat ≠ 13) (hlow : c.toNat < 128) :
    Calls Try.prog 15 #[dptr b, .int .u8 c.toNat] w fun e w' => e = .returned (.tuple #[]) ∧ Dec K w' b (s.first c) ∧ Kept K w w' := by
  obtain ⟨ao, cap, h1, h2⟩ := h.blk
  have c0 := cell_block h1 0
  have c2 := cell_block h1 2
  have c3 := cell_block h1 3
  have c4 := cell_block h1 4
  have c6 := cell_block h1 6
  have f := frozen_block h1
  have hbl := lt_block h1
  have hlt := h.lt
  have hnb := h.nb
  obtain ⟨text, settled, count, low, high, begun, returned⟩ := s
  simp [decCells] at c0 c2 c3 c4 c6 hl
  obtain ⟨k, lo, hi', hb⟩ : ∃ k lo hi, behindS c = (k, lo, hi) := ⟨_, _, _, rfl⟩
  have hbeh := behind_any c
  unfold behV bv at hbeh
  rw [hb] at hbeh hc
  simp only [] at hbeh hc hj
  subst hc
  have hn10 : returned = true → ((c.toNat : Int) == 10) = false := by
    intro hr
    rcases hj with hj | hj
    · rw [hj] at hr; cases hr
    · simp; omega
  have hfirst : St.first ⟨text, settled, count, low, high, begun, returned⟩ c = St.settle ⟨text ++ [c], settled, 0, lo, hi', begun, false⟩ := by
    unfold St.first
    rw [if_neg (by rcases hj with hj | hj <;> simp [hj]), hb, if_neg (Nat.lt_irrefl 0)]
    simp [addB, hcr, hlow]
  have H0 : Hid (settled ≤ text.length) := h.ok
  rw [hfirst]
  have g1 : ((c.toNat : Int) == 13) = false := by simp; omega
  have g2 : (c.toNat : Int) < 128 := by omega
  clear hj hfirst hb h
  obtain ⟨i0, hi, hz0, hz1, hz2⟩ := info_parts Try.info5
  have hz3 : i0.bytes ≤ 64 := by omega
  cases returned
  all_goals
    try simp only [forall_const, Bool.false_eq_true, false_implies] at hn10
    go_enter Try.func15, Try.ntmps15
    go_wp2_with (first | (go_at_call 19; refine (hbeh _).mono ?_; rintro e w' ⟨rfl, o, rfl⟩) | (at_builtin; go_must (refine wpList_app1 (K := fun k => K k ∨ k = b) rfl (.tmp 68) (.tmp 70) 23 5 rfl i0 (.int .u8 0) Try.underlying23 hi hz0 hz1 rfl hz3 ao text.length cap (bvs text) rfl (bv c) rfl (w.heap.size + 1) rfl (by omega) ?_ ?_ ?_ ?_)))
    · exact ((((h2.setCell (.inr rfl) _).setCell (.inr rfl) _).setCell (.inr rfl) _).setCell (.inr rfl) _).alloc _
    · intro k hk
      have : k < w.heap.size := by
        rcases hk with hk | rfl
        · exact hlt k hk
        · exact hbl
      simp
      omega
    · simp
    · intro ao1 cap1 w1 own1 kept1
      have hb1 := (kept1.block b (.inr rfl)).trans (heap_alloc_past (heap_setCell_at (heap_setCell_at (heap_setCell_at (heap_setCell_at h1 6 _) 2 _) 3 _) 4 _) o)
      have d0 := cell_block hb1 0
      have f1 := frozen_block hb1
      simp [decCells] at d0
      clear c0 c2 c3 c4 c6 hbeh
      go_wp2_with fail
      refine (settle_dec (K := K) (s := ⟨text ++ [c], settled, 0, lo, hi', begun, false⟩) ?_).mono ?_
      · refine ⟨hnb, fun k hk => ?_, ?_, ao1, cap1, ?_, ?_⟩
        · have := hlt k hk
          have := kept1.size
          simp at *
          omega
        · have := H0.out
          simp
          omega
        · rw [heap_setCell_at hb1 0 _]
          simp [decCells]
        · exact (own1.cast (by simp) (by simp [bvs])).setCell (.inr rfl) _
      rintro e w2 ⟨rfl, hd2, hk2⟩
      go_wp2
      go_end0
      refine ⟨rfl, hd2, ?_⟩
      exact (((((((Kept.refl K w).setCell hnb _).setCell hnb _).setCell hnb _).setCell hnb _).alloc (by simpa using hlt) _ |>.trans (kept1.mono fun k hk => .inl hk)).setCell hnb _).trans hk2
set_option maxRecDepth 20000 in
set_option maxHeartbeats 1000000 in
theorem first_bad {K : Nat → Prop} {w : World} {b : Nat} {s : St} (h : Dec K w b s) (c : UInt8) (hl : s.text.length ≤ 1099511627000) (hc : (behindS c).1 = 0) (hj : s.returned = false ∨ c.toNat ≠ 10) (hlow : ¬ c.toNat < 128) :
    Calls Try.prog 15 #[dptr b, .int .u8 c.toNat] w fun e w' => e = .returned (.tuple #[]) ∧ Dec K w' b (s.first c) ∧ Kept K w w' := by
  obtain ⟨ao, cap, h1, h2⟩ := h.blk
  have c0 := cell_block h1 0
  have c2 := cell_block h1 2
  have c3 := cell_block h1 3
  have c4 := cell_block h1 4
  have c6 := cell_block h1 6
  have f := frozen_block h1
  have hbl := lt_block h1
  have hlt := h.lt
  have hnb := h.nb
  obtain ⟨text, settled, count, low, high, begun, returned⟩ := s
  simp [decCells] at c0 c2 c3 c4 c6 hl
  obtain ⟨k, lo, hi', hb⟩ : ∃ k lo hi, behindS c = (k, lo, hi) := ⟨_, _, _, rfl⟩
  have hbeh := behind_any c
  unfold behV bv at hbeh
  rw [hb] at hbeh hc
  simp only [] at hbeh hc hj
  subst hc
  have hn10 : returned = true → ((c.toNat : Int) == 10) = false := by
    intro hr
    rcases hj with hj | hj
    · rw [hj] at hr; cases hr
    · simp; omega
  have hfirst : St.first ⟨text, settled, count, low, high, begun, returned⟩ c = St.settle ⟨text ++ repB, settled, 0, lo, hi', begun, false⟩ := by
    unfold St.first
    rw [if_neg (by rcases hj with hj | hj <;> simp [hj]), hb, if_neg (Nat.lt_irrefl 0)]
    simp [addB, hlow, (show ¬ c.toNat = 13 by omega)]
  have H0 : Hid (settled ≤ text.length) := h.ok
  rw [hfirst]
  have g1 : ((c.toNat : Int) == 13) = false := by simp; omega
  have g2 : ¬ (c.toNat : Int) < 128 := by omega
  clear hj hfirst hb h
  obtain ⟨i0, hi, hz0, hz1, hz2⟩ := info_parts Try.info5
  have hz3 : i0.bytes ≤ 64 := by omega
  cases returned
  all_goals
    try simp only [forall_const, Bool.false_eq_true, false_implies] at hn10
    go_enter Try.func15, Try.ntmps15
    go_wp2_with (first | (go_at_call 19; refine (hbeh _).mono ?_; rintro e w' ⟨rfl, o, rfl⟩) | (at_builtin; go_must (refine wpList_appS (K := fun k => K k ∨ k = b) rfl (.tmp 28) (.const (.string ⟨#[239, 191, 189]⟩)) 23 9 5 rfl i0 (.int .u8 0) Try.underlying23 Try.underlying9 hi hz0 hz1 rfl hz3 ao text.length cap (bvs text) rfl ⟨#[239, 191, 189]⟩ rfl 3 rfl (by omega) ?_ ?_ ?_)))
    · exact ((((h2.setCell (.inr rfl) _).setCell (.inr rfl) _).setCell (.inr rfl) _).setCell (.inr rfl) _).alloc _
    · intro k hk
      have : k < w.heap.size := by
        rcases hk with hk | rfl
        · exact hlt k hk
        · exact hbl
      simp
      omega

    · intro ao1 cap1 w1 own1 kept1
      have hb1 := (kept1.block b (.inr rfl)).trans (heap_alloc_past (heap_setCell_at (heap_setCell_at (heap_setCell_at (heap_setCell_at h1 6 _) 2 _) 3 _) 4 _) o)
      have d0 := cell_block hb1 0
      have f1 := frozen_block hb1
      simp [decCells] at d0
      clear c0 c2 c3 c4 c6 hbeh
      go_wp2_with fail
      refine (settle_dec (K := K) (s := ⟨text ++ repB, settled, 0, lo, hi', begun, false⟩) ?_).mono ?_
      · refine ⟨hnb, fun k hk => ?_, ?_, ao1, cap1, ?_, ?_⟩
        · have := hlt k hk
          have := kept1.size
          simp at *
          omega
        · have := H0.out
          simp
          omega
        · rw [heap_setCell_at hb1 0 _]
          simp [decCells, repB]
        · exact (own1.cast (by simp [repB]) (by simp [bvs, repB])).setCell (.inr rfl) _
      rintro e w2 ⟨rfl, hd2, hk2⟩
      go_wp2
      go_end0
      refine ⟨rfl, hd2, ?_⟩
      exact (((((((Kept.refl K w).setCell hnb _).setCell hnb _).setCell hnb _).setCell hnb _).alloc (by simpa using hlt) _ |>.trans (kept1.mono fun k hk => .inl hk)).setCell hnb _).trans hk2

theorem first_dec {K : Nat → Prop} {w : World} {b : Nat} {s : St} (h : Dec K w b s) (c : UInt8) (hl : s.text.length ≤ 1099511627000) :
    Calls Try.prog 15 #[dptr b, .int .u8 c.toNat] w fun e w' => e = .returned (.tuple #[]) ∧ Dec K w' b (s.first c) ∧ Kept K w w' := by
  by_cases hj : s.returned = true ∧ c.toNat = 10
  · exact first_joined h hj.1 c hj.2
  have hj' : s.returned = false ∨ c.toNat ≠ 10 := by
    cases hr : s.returned
    · exact .inl rfl
    · exact .inr fun hc => hj ⟨hr, hc⟩
  by_cases hc : 0 < (behindS c).1
  · exact first_more h c (by omega) hc hj'
  have hc0 : (behindS c).1 = 0 := by omega
  by_cases h13 : c.toNat = 13
  · exact first_cr h c hl hc0 hj' h13
  by_cases hlow : c.toNat < 128
  · exact first_low h c hl hc0 hj' h13 hlow
  · exact first_bad h c hl hc0 hj' hlow

end Go.Proofs.Ytnfallgpnoofiaa
