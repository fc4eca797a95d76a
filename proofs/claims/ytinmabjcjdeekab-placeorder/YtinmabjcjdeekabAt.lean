/-
  What place.At answers.
-/
import Derived.Test.YtinmabjcjdeekabPast
import Derived.Deep.DeepCutAuto
import Derived.Deep.DeepCutAuto
namespace Go.Proofs.Ytinmabjcjdeekab
open Go.RowKit

/-- The line and the column behind these bytes. -/
def spot (l : List UInt8) : Nat × Nat := l.foldl past (1, 1)
theorem spot_snoc (l : List UInt8) (b : UInt8) : spot (l ++ [b]) = past (spot l) b := by simp [spot]
theorem past_le (p : Nat × Nat) (b : UInt8) : (past p b).1 ≤ p.1 + 1 ∧ (past p b).2 ≤ p.2 + 1 := by
  unfold past; split
  · simp
  · split <;> simp
theorem foldl_le (l : List UInt8) : ∀ p : Nat × Nat, (l.foldl past p).1 ≤ p.1 + l.length ∧ (l.foldl past p).2 ≤ p.2 + l.length := by
  induction l with
  | nil => simp
  | cons b l ih => intro p; have := ih (past p b); have := past_le p b; simp; omega
theorem spot_le (l : List UInt8) : (spot l).1 ≤ 1 + l.length ∧ (spot l).2 ≤ 1 + l.length := foldl_le l (1, 1)
/-- The place that a number names. -/
def clip (s : ByteArray) (i : Int) : Nat := min i.toNat s.size
theorem spot_step (s : ByteArray) (k : Nat) (hk : k < s.size) : spot (s.data.toList.take (k + 1)) = past (spot (s.data.toList.take k)) s[k] := by
  rw [← spot_snoc]
  congr 1
  have : k < s.data.toList.length := by simpa using hk
  rw [List.take_succ_eq_append_getElem this]
  rfl

set_option maxRecDepth 20000 in
set_option maxHeartbeats 1000000 in
theorem at_any (s : ByteArray) (i : Int) (K : Nat → Prop) (w : World) (hK : ∀ k, K k → k < w.heap.size) (hs : s.size ≤ 100000) :
    Calls Try.prog 5 #[.string s, .int .i64 i] w fun e w' => e = .returned (.tuple #[.int .i64 ((spot (s.data.toList.take (clip s i))).1 : Int), .int .i64 ((spot (s.data.toList.take (clip s i))).2 : Int)]) ∧ Kept K w w' := by
  obtain ⟨n, hn⟩ : ∃ n, n = clip s i := ⟨_, rfl⟩
  rw [← hn]
  have hns : n ≤ s.size := by rw [hn]; unfold clip; omega
  have HN : Hid (n = clip s i) := hn
  clear hn
  go_enter Try.func5, Try.ntmps5
  go_upto_region 2 with fail
  go_cut [13, 14] (fun s13 s14 wc => s13 = .int .i64 (n : Int) ∧ s14 = .int .i64 0 ∧ wc = w.alloc (.cells #[.int .i64 1, .int .i64 1] 30))
  case first =>
    have hn := HN.out
    unfold clip at hn
    by_cases h1 : i < 0
    · obtain rfl : n = 0 := by omega
      clear hn
      go_wp2
      go_meet
      case rel => exact ⟨rfl, rfl, rfl⟩
    · by_cases h2 : (s.size : Int) < i
      · obtain rfl : n = s.size := by omega
        clear hn
        go_wp2
        go_meet
        case rel => exact ⟨rfl, rfl, rfl⟩
      · obtain rfl : i = (n : Int) := by omega
        clear hn
        go_wp2
        go_meet
        case rel => exact ⟨rfl, rfl, rfl⟩
  case rest =>
    obtain ⟨rfl, rfl, rfl⟩ := hcut
    have hk0 : Kept K w (w.alloc (.cells #[.int .i64 1, .int .i64 1] 30)) := (Kept.refl K w).alloc hK _
    have hb0 : (w.alloc (.cells #[.int .i64 1, .int .i64 1] 30)).heap[w.heap.size]? = some (.cells #[.int .i64 1, .int .i64 1] 30) := heap_alloc_new _ _
    go_wp2
    go_loopw [14] (fun kv wr => ∃ k l c : Nat, k ≤ n ∧ kv = .int .i64 k ∧ Hid (spot (s.data.toList.take k) = (l, c)) ∧ wr.heap[w.heap.size]? = some (.cells #[.int .i64 l, .int .i64 c] 30) ∧ Kept K w wr) (fun kv _ => n - (intOf kv).toNat)
    case atStart => exact ⟨0, 1, 1, by omega, rfl, rfl, hb0, hk0⟩
    case round =>
      clear hk0 hb0
      obtain ⟨k, l, c, hkn, rfl, HS, hb, hk⟩ := hrel
      by_cases hlt : k < n
      · have e1 : (k : Int) < (n : Int) := by omega
        have e2 : (k : Int) < (s.size : Int) := by omega
        have e3 : k < s.size := by omega
        have c0 := cell_block hb 0
        have c1 := cell_block hb 1
        simp at c0 c1
        have hK' : ∀ j, (K j ∨ j = w.heap.size) → j < wr.heap.size := fun j hj => by
          rcases hj with hj | rfl
          · exact Nat.lt_of_lt_of_le (hK j hj) hk.size
          · exact lt_block hb
        have HS' : Hid (spot (s.data.toList.take (k + 1)) = past (l, c) s[k]) := by rw [spot_step s k e3, HS.out]; exact rfl
        have hll : l < 1000000 ∧ c < 1000000 := by
          have h := spot_le (s.data.toList.take k)
          rw [HS.out] at h
          have : (s.data.toList.take k).length ≤ s.size := by simp; omega
          simp only at h
          omega
        have hpast := past_any l c s[k] (fun j => K j ∨ j = w.heap.size) wr.drew hK' hll.1 hll.2
        clear HS
        go_wp2
        go_region_with (go_at_call 7; refine hpast.mono ?_; rintro e w1 ⟨rfl, hk1⟩; have hb1 := (hk1.block _ (.inr rfl)).trans hb; have d0 := cell_block hb1 0; have d1 := cell_block hb1 1; have f := frozen_block hb1)
        all_goals
          have hb2 := heap_setCell_at (heap_setCell_at hb1 0 (.int .i64 ((past (l, c) s[k]).1 : Int))) 1 (.int .i64 ((past (l, c) s[k]).2 : Int))
          have hk2 : Kept K w ((w1.setCell ⟨w.heap.size, 0, none⟩ (.int .i64 ((past (l, c) s[k]).1 : Int))).setCell ⟨w.heap.size, 1, none⟩ (.int .i64 ((past (l, c) s[k]).2 : Int))) :=
            ((hk.drew.trans (hk1.mono fun _ h => .inl h)).setCell (fun h => Nat.lt_irrefl _ (hK _ h)) _).setCell (fun h => Nat.lt_irrefl _ (hK _ h)) _
          clear c0 c1 d0 d1 f hb1 hk1 hpast
          go_wp2
          go_roundw
          case rel => exact ⟨k + 1, _, _, by omega, by go_num, HS'.out, hb2, hk2⟩
          case measure => simp [intOf]; omega
      · obtain rfl : k = n := by omega
        have c0 := cell_block hb 0
        have c1 := cell_block hb 1
        simp at c0 c1
        go_wp2
        go_quiet (fail)
        go_wp2
        go_ret2
        exact ⟨by rw [HS.out]; rfl, hk.drewN _⟩
end Go.Proofs.Ytinmabjcjdeekab
