/-
  What place.Of answers.
-/
import Derived.Test.YtinmabjcjdeekabAt
namespace Go.Proofs.Ytinmabjcjdeekab
open Go.RowKit

/-- Whether a place has this line and this column. -/
def hit (s : ByteArray) (line col : Int) (i : Nat) : Bool := decide (((spot (s.data.toList.take i)).1 : Int) = line) && decide (((spot (s.data.toList.take i)).2 : Int) = col)
/-- The least place that has them. -/
def ofS (s : ByteArray) (line col : Int) : Option Nat := (List.range (s.size + 1)).find? (hit s line col)
theorem ofS_some {s : ByteArray} {line col : Int} {k : Nat} (hk : k ≤ s.size) (hh : hit s line col k = true) (hf : ∀ j, j < k → hit s line col j = false) : ofS s line col = some k := by
  unfold ofS
  rw [List.find?_range_eq_some]
  refine ⟨hh, by simp; omega, fun j hj => by simp [hf j hj]⟩
theorem ofS_none {s : ByteArray} {line col : Int} (hf : ∀ j, j ≤ s.size → hit s line col j = false) : ofS s line col = none := by
  unfold ofS
  rw [List.find?_range_eq_none]
  intro j hj
  simp [hf j (by omega)]
theorem heap_setCell_other {w : World} {p : Addr} (u : Value) {b : Nat} (h : p.block ≠ b) : (w.setCell p u).heap[b]? = w.heap[b]? :=
  ((Kept.refl (fun k => k = b) w).setCell (p := p) h u).block b rfl
abbrev ofV (o : Option Nat) : Value := .tuple #[.int .i64 ((o.getD 0 : Nat) : Int), .bool o.isSome]

set_option maxRecDepth 20000 in
set_option maxHeartbeats 1000000 in
theorem of_any (s : ByteArray) (line col : Int) (K : Nat → Prop) (w : World) (hK : ∀ k, K k → k < w.heap.size) (hs : s.size ≤ 100000) :
    Calls Try.prog 6 #[.string s, .int .i64 line, .int .i64 col] w fun e w' => e = .returned (ofV (ofS s line col)) ∧ Kept K w w' := by
  obtain ⟨R, hR⟩ : ∃ R, R = ofS s line col := ⟨_, rfl⟩
  rw [← hR]
  have HR : Hid (R = ofS s line col) := hR
  clear hR
  have hk0 : Kept K w ((w.alloc (.cells #[.int .i64 line, .int .i64 col] 30)).alloc (.cells #[.int .i64 1, .int .i64 1] 30)) := ((Kept.refl K w).alloc hK _).alloc (fun k hk => by have := hK k hk; simp; omega) _
  have hb0 : ((w.alloc (.cells #[.int .i64 line, .int .i64 col] 30)).alloc (.cells #[.int .i64 1, .int .i64 1] 30)).heap[w.heap.size + 1]? = some (.cells #[.int .i64 1, .int .i64 1] 30) := heap_alloc2_new _ _ _
  have ht0 : ((w.alloc (.cells #[.int .i64 line, .int .i64 col] 30)).alloc (.cells #[.int .i64 1, .int .i64 1] 30)).heap[w.heap.size]? = some (.cells #[.int .i64 line, .int .i64 col] 30) := heap_alloc_past (heap_alloc_new _ _) _
  go_enter Try.func6, Try.ntmps6
  go_wp2
  go_loopw [17] (fun kv wr => ∃ k l c : Nat, k ≤ s.size ∧ kv = .int .i64 k ∧ Hid (spot (s.data.toList.take k) = (l, c)) ∧ Hid (∀ j, j < k → hit s line col j = false) ∧ wr.heap[w.heap.size + 1]? = some (.cells #[.int .i64 l, .int .i64 c] 30) ∧ wr.heap[w.heap.size]? = some (.cells #[.int .i64 line, .int .i64 col] 30) ∧ Kept K w wr) (fun kv _ => s.size - (intOf kv).toNat)
  case atStart => exact ⟨0, 1, 1, by omega, rfl, rfl, fun j hj => absurd hj (Nat.not_lt_zero j), hb0, ht0, hk0⟩
  case round =>
    clear hk0 hb0 ht0
    obtain ⟨k, l, c, hkn, rfl, HS, HF, hb, ht, hk⟩ := hrel
    have c0 := cell_block hb 0
    have c1 := cell_block hb 1
    have t0 := cell_block ht 0
    have t1 := cell_block ht 1
    simp at c0 c1 t0 t1
    by_cases h1 : (l : Int) = line
    · by_cases h2 : (c : Int) = col
      · have hR : R = some k := HR.out.trans (ofS_some hkn (by simp [hit, HS.out, h1, h2]) HF.out)
        subst h1 h2 hR
        by_cases hlt : k < s.size
        · have e1 : (k : Int) < (s.size : Int) := by omega
          go_wp2
          go_ret2
          exact ⟨rfl, hk⟩
        · obtain rfl : k = s.size := by omega
          go_wp2
          go_ret2
          exact ⟨rfl, hk⟩
      · by_cases hlt : k < s.size
        · have e1 : (k : Int) < (s.size : Int) := by omega
          have e3 : k < s.size := by omega
          have hK' : ∀ j, (K j ∨ j = w.heap.size ∨ j = w.heap.size + 1) → j < wr.heap.size := fun j hj => by
            rcases hj with hj | rfl | rfl
            · exact Nat.lt_of_lt_of_le (hK j hj) hk.size
            · exact lt_block ht
            · exact lt_block hb
          have HS' : Hid (spot (s.data.toList.take (k + 1)) = past (l, c) s[k]) := by rw [spot_step s k e3, HS.out]; exact rfl
          have hll : l < 1000000 ∧ c < 1000000 := by
            have h := spot_le (s.data.toList.take k)
            rw [HS.out] at h
            have : (s.data.toList.take k).length ≤ s.size := by simp; omega
            simp only at h
            omega
          have hpast := past_any l c s[k] (fun j => K j ∨ j = w.heap.size ∨ j = w.heap.size + 1) wr.drew hK' hll.1 hll.2
          have HF' : Hid (∀ j, j < k + 1 → hit s line col j = false) := fun j hj => by
            by_cases h : j < k
            · exact HF.out j h
            · obtain rfl : j = k := by omega
              simp [hit, HS.out, h2]
          clear HS HF
          subst h1
          go_wp2
          go_region_with (go_at_call 7; refine hpast.mono ?_; rintro e w1 ⟨rfl, hk1⟩; have hb1 := (hk1.block _ (.inr (.inr rfl))).trans hb; have ht1 := (hk1.block _ (.inr (.inl rfl))).trans ht; have d0 := cell_block hb1 0; have d1 := cell_block hb1 1; have f := frozen_block hb1)
          all_goals
            have hb2 := heap_setCell_at (heap_setCell_at hb1 0 (.int .i64 ((past (l, c) s[k]).1 : Int))) 1 (.int .i64 ((past (l, c) s[k]).2 : Int))
            have ht2 := (heap_setCell_other (w := (w1.setCell ⟨w.heap.size + 1, 0, none⟩ (.int .i64 ((past (l, c) s[k]).1 : Int)))) (p := ⟨w.heap.size + 1, 1, none⟩) (.int .i64 ((past (l, c) s[k]).2 : Int)) (b := w.heap.size) (by simp)).trans ((heap_setCell_other (w := w1) (p := ⟨w.heap.size + 1, 0, none⟩) (.int .i64 ((past (l, c) s[k]).1 : Int)) (b := w.heap.size) (by simp)).trans ht1)
            have hk2 : Kept K w ((w1.setCell ⟨w.heap.size + 1, 0, none⟩ (.int .i64 ((past (l, c) s[k]).1 : Int))).setCell ⟨w.heap.size + 1, 1, none⟩ (.int .i64 ((past (l, c) s[k]).2 : Int))) :=
              ((hk.drew.trans (hk1.mono fun _ h => .inl h)).setCell (fun h => Nat.not_succ_lt_self (hK _ h)) _).setCell (fun h => Nat.not_succ_lt_self (hK _ h)) _
            clear c0 c1 t0 t1 d0 d1 f hb1 ht1 hk1 hpast
            go_wp2
            go_roundw
            case rel => exact ⟨k + 1, _, _, by omega, by go_num, HS'.out, HF'.out, hb2, ht2, hk2⟩
            case measure => simp [intOf]; omega
        · obtain rfl : k = s.size := by omega
          have hR : R = none := HR.out.trans (ofS_none fun j hj => by
            by_cases h : j < s.size
            · exact HF.out j h
            · obtain rfl : j = s.size := by omega
              simp [hit, HS.out, h2])
          subst h1 hR
          go_wp2
          go_ret2
          exact ⟨rfl, hk⟩
    · by_cases hlt : k < s.size
      · have e1 : (k : Int) < (s.size : Int) := by omega
        have e3 : k < s.size := by omega
        have hK' : ∀ j, (K j ∨ j = w.heap.size ∨ j = w.heap.size + 1) → j < wr.heap.size := fun j hj => by
          rcases hj with hj | rfl | rfl
          · exact Nat.lt_of_lt_of_le (hK j hj) hk.size
          · exact lt_block ht
          · exact lt_block hb
        have HS' : Hid (spot (s.data.toList.take (k + 1)) = past (l, c) s[k]) := by rw [spot_step s k e3, HS.out]; exact rfl
        have hll : l < 1000000 ∧ c < 1000000 := by
          have h := spot_le (s.data.toList.take k)
          rw [HS.out] at h
          have : (s.data.toList.take k).length ≤ s.size := by simp; omega
          simp only at h
          omega
        have hpast := past_any l c s[k] (fun j => K j ∨ j = w.heap.size ∨ j = w.heap.size + 1) wr.drew hK' hll.1 hll.2
        have HF' : Hid (∀ j, j < k + 1 → hit s line col j = false) := fun j hj => by
          by_cases h : j < k
          · exact HF.out j h
          · obtain rfl : j = k := by omega
            simp [hit, HS.out, h1]
        clear HS HF
        go_wp2
        go_region_with (go_at_call 7; refine hpast.mono ?_; rintro e w1 ⟨rfl, hk1⟩; have hb1 := (hk1.block _ (.inr (.inr rfl))).trans hb; have ht1 := (hk1.block _ (.inr (.inl rfl))).trans ht; have d0 := cell_block hb1 0; have d1 := cell_block hb1 1; have f := frozen_block hb1)
        all_goals
          have hb2 := heap_setCell_at (heap_setCell_at hb1 0 (.int .i64 ((past (l, c) s[k]).1 : Int))) 1 (.int .i64 ((past (l, c) s[k]).2 : Int))
          have ht2 := (heap_setCell_other (w := (w1.setCell ⟨w.heap.size + 1, 0, none⟩ (.int .i64 ((past (l, c) s[k]).1 : Int)))) (p := ⟨w.heap.size + 1, 1, none⟩) (.int .i64 ((past (l, c) s[k]).2 : Int)) (b := w.heap.size) (by simp)).trans ((heap_setCell_other (w := w1) (p := ⟨w.heap.size + 1, 0, none⟩) (.int .i64 ((past (l, c) s[k]).1 : Int)) (b := w.heap.size) (by simp)).trans ht1)
          have hk2 : Kept K w ((w1.setCell ⟨w.heap.size + 1, 0, none⟩ (.int .i64 ((past (l, c) s[k]).1 : Int))).setCell ⟨w.heap.size + 1, 1, none⟩ (.int .i64 ((past (l, c) s[k]).2 : Int))) :=
            ((hk.drew.trans (hk1.mono fun _ h => .inl h)).setCell (fun h => Nat.not_succ_lt_self (hK _ h)) _).setCell (fun h => Nat.not_succ_lt_self (hK _ h)) _
          clear c0 c1 t0 t1 d0 d1 f hb1 ht1 hk1 hpast
          go_wp2
          go_roundw
          case rel => exact ⟨k + 1, _, _, by omega, by go_num, HS'.out, HF'.out, hb2, ht2, hk2⟩
          case measure => simp [intOf]; omega
      · obtain rfl : k = s.size := by omega
        have hR : R = none := HR.out.trans (ofS_none fun j hj => by
          by_cases h : j < s.size
          · exact HF.out j h
          · obtain rfl : j = s.size := by omega
            simp [hit, HS.out, h1])
        subst hR
        go_wp2
        go_ret2
        exact ⟨rfl, hk⟩
end Go.Proofs.Ytinmabjcjdeekab
