/-
  What strings.Builder does: copyCheck, WriteString, String, of a builder that a call has made itself.
-/
import Derived.Test.YteccdijjpmeeaaaEa
import Derived.Lib.Builder
import Derived.Lib.UnsafeStr
import Derived.Laws.Externs
import Derived.Laws.StandIn
namespace Go.Proofs.Yteccdijjpmeeaaa
open Go.RowKit
set_option linter.unusedVariables false
set_option maxRecDepth 100000
set_option maxHeartbeats 4000000
/-- The block b is a strings.Builder that holds the bytes l, in memory of its own, outside K. -/
def Bld (K : Nat → Prop) (w : World) (b : Nat) (l : List UInt8) : Prop :=
  ¬ K b ∧ ∃ p ao cap, w.heap[b]? = some (.cells #[.pointer p, .slice ao l.length cap] 78 (0, 0)) ∧ (p = none ∨ p = some ⟨b, 0, none⟩) ∧ Own (fun k => K k ∨ k = b) w 5 ao l.length cap (bvs l)
theorem infoB : (Try.prog.info? 78).map (·.size) = some 2 := by kernel_rfl
theorem liesB : liesAt Try.prog Try.prog.depth 78 (2 / Try.prog.cellsOf 78) 0 78 1 = true := by kernel_rfl
theorem infoY : (Try.prog.info? 5).map (fun i => (i.zero, i.size, i.bytes)) = some (some (.int .u8 0), 1, 1) := by kernel_rfl
theorem cellsY : Try.prog.cellsOf 5 = 1 := by kernel_rfl
theorem ccUsed (b : Nat) (w : World) (h0 : w.cell? ⟨b, 0, none⟩ = some (.pointer (some ⟨b, 0, none⟩))) :
    Calls Try.prog 72 #[.pointer (some ⟨b, 0, none⟩)] w fun e w' => e = .returned (.tuple #[]) ∧ w' = w := by
  obtain ⟨j, hj, _⟩ := Option.map_eq_some_iff.1 infoB
  go_enter Try.func72, Try.ntmps72
  go_wp2
  rw [Lib.run_neq_ptr_same w _ Try.underlying76 hj]
  go_wp2
  go_end0
  exact ⟨rfl, rfl⟩
theorem ccFresh (b : Nat) (w : World) (h0 : w.cell? ⟨b, 0, none⟩ = some (.pointer none)) (hsh : w.shape? b = some (78, 2)) (hfz : w.frozen? ⟨b, 0, none⟩ = false) :
    Calls Try.prog 72 #[.pointer (some ⟨b, 0, none⟩)] w fun e w' => e = .returned (.tuple #[]) ∧ w' = w.setCell ⟨b, 0, none⟩ (.pointer (some ⟨b, 0, none⟩)) := by
  obtain ⟨j, hj, hjs⟩ := Option.map_eq_some_iff.1 infoB
  go_enter Try.func72, Try.ntmps72
  go_wp2
  rw [Lib.run_to_unsafe w ⟨b, 0, none⟩ Try.underlying76 Try.underlying123 hj (by rw [hjs]; decide) hsh (Nat.zero_lt_succ 1)]
  simp only [Result.andThen]
  rw [Oper.upon_value]
  go_wp2
  rw [run_callFunc_extern Try.func76 (by kernel_rfl) (by kernel_rfl) (by kernel_rfl) (e := Extern.AbiNoEscape.same) (by kernel_rfl)]
  rw [Lib.run_noEscape]
  simp only [Result.andThen]
  rw [Oper.upon_value]
  go_wp2
  rw [Lib.run_from_unsafe w ⟨b, 0, none⟩ Try.underlying123 Try.underlying76 hj hsh liesB]
  simp only [Result.andThen]
  rw [Oper.upon_value]
  go_wp2
  go_end0
  exact ⟨rfl, rfl⟩
theorem cc_any (K : Nat → Prop) (b : Nat) (l : List UInt8) (w : World) (h : Bld K w b l) :
    Calls Try.prog 72 #[.pointer (some ⟨b, 0, none⟩)] w fun e w' => e = .returned (.tuple #[]) ∧
      (∃ ao cap, w'.heap[b]? = some (.cells #[.pointer (some ⟨b, 0, none⟩), .slice ao l.length cap] 78 (0, 0)) ∧ Own (fun k => K k ∨ k = b) w' 5 ao l.length cap (bvs l)) ∧ Kept K w w' := by
  obtain ⟨hKb, p, ao, cap, hb, hp, hown⟩ := h
  rcases hp with rfl | rfl
  · refine (ccFresh b w (by rw [cell_block hb]; rfl) (by simp [World.shape?, hb]) (frozen_block hb 0)).mono ?_
    rintro e w1 ⟨rfl, rfl⟩
    exact ⟨rfl, ⟨ao, cap, heap_setCell_at hb 0 _, hown.setCell (p := ⟨b, 0, none⟩) (.inr rfl) _⟩, (Kept.refl K w).setCell (p := ⟨b, 0, none⟩) hKb _⟩
  · refine (ccUsed b w (by rw [cell_block hb]; rfl)).mono ?_
    rintro e w1 ⟨rfl, rfl⟩
    exact ⟨rfl, ⟨ao, cap, hb, hown⟩, Kept.refl K w1⟩
set_option maxRecDepth 20000 in
set_option maxHeartbeats 1000000 in
theorem write_any (K : Nat → Prop) (b : Nat) (l : List UInt8) (s : ByteArray) (w : World) (h : Bld K w b l) (hK : ∀ k, K k → k < w.heap.size) (hl : l.length + s.size ≤ 1099511627776) :
    Calls Try.prog 64 #[.pointer (some ⟨b, 0, none⟩), .string s] w fun e w' => e = .returned (.tuple #[.int .i64 s.size, .nilIface]) ∧ Bld K w' b (l ++ s.data.toList) ∧ Kept K w w' := by
  obtain ⟨i0, hi, hz0, hz1, hz2⟩ := info_parts infoY
  have hz3 : i0.bytes ≤ 64 := by omega
  have hcc := cc_any K b l w h
  have hKb : ¬ K b := h.1
  clear h
  go_enter Try.func64, Try.ntmps64
  go_wp2_with fail
  refine hcc.mono ?_
  rintro e w1 ⟨rfl, ⟨ao, cap, hb, hown⟩, hk1⟩
  have c1 : w1.cell? ⟨b, 1, none⟩ = some (.slice ao l.length cap) := by rw [cell_block hb]; rfl
  have hK1 : ∀ k, (K k ∨ k = b) → k < w1.heap.size := by
    rintro k (hk | rfl)
    · exact Nat.lt_of_lt_of_le (hK k hk) hk1.size
    · exact lt_block hb
  obtain ⟨K', hK'⟩ : ∃ K' : Nat → Prop, (fun k => K k ∨ k = b) = K' := ⟨_, rfl⟩
  have hKK : ∀ k, K k → K' k := fun k hk => by rw [← hK']; exact .inl hk
  have hKb' : K' b := by rw [← hK']; exact .inr rfl
  have HKe : Hid ((fun k => K k ∨ k = b) = K') := hK'
  rw [hK'] at hown
  have hK2 : ∀ k, K' k → k < w1.heap.size := fun k hk => hK1 k (by rw [← hK'] at hk; exact hk)
  clear hcc hK' hK1
  obtain ⟨n, hn⟩ : ∃ n, l.length = n := ⟨_, rfl⟩
  rw [hn] at hl c1 hown hb
  go_wp2_with (at_builtin; refine wpList_appS (K := K') rfl (.tmp 12) (.tmp 13) 42 9 5 rfl i0 (.int .u8 0) Try.underlying42 Try.underlying9 hi hz0 hz1 rfl hz3 ao n cap (bvs l) rfl s rfl s.size rfl hl hown hK2 ?_)
  intro ao2 cap2 w2 own2 kept2
  have hb2 : w2.heap[b]? = some (.cells #[.pointer (some ⟨b, 0, none⟩), .slice ao n cap] 78 (0, 0)) := by rw [kept2.block b hKb']; exact hb
  have d1 : w2.cell? ⟨b, 1, none⟩ = some (.slice ao n cap) := by rw [cell_block hb2]; rfl
  have f1 : w2.frozen? ⟨b, 1, none⟩ = false := frozen_block hb2 1
  clear c1
  go_wp2
  go_ret2
  refine ⟨rfl, ⟨hKb, some ⟨b, 0, none⟩, ao2, cap2, ?_, .inr rfl, ?_⟩, ?_⟩
  · rw [heap_setCell_at hb2, List.length_append, hn]
    rfl
  · rw [HKe.out]
    refine Own.setCell (p := ⟨b, 1, none⟩) ?_ hKb' _
    refine own2.cast ?_ ?_
    · rw [List.length_append, hn]; rfl
    · rw [bvs_append]
  · exact (hk1.trans (kept2.mono hKK)).setCell (p := ⟨b, 1, none⟩) hKb _
theorem Kept.freeze {K : Nat → Prop} {a w : World} (h : Kept K a w) {p : Addr} (hp : ¬ K p.block) (n : Nat) : Kept K a (w.freeze p n) := by
  refine h.trans ?_
  unfold World.freeze
  split
  · exact Kept.refl K w
  · exact ⟨rfl, rfl, rfl, by simp, fun k hk => by
      simp only [Array.getElem?_modify]
      rw [if_neg (fun (e : p.block = k) => hp (by rw [e]; exact hk))]⟩
set_option maxRecDepth 20000 in
set_option maxHeartbeats 1000000 in
theorem string_any (K : Nat → Prop) (b : Nat) (l : List UInt8) (w : World) (h : Bld K w b l) (hK : ∀ k, K k → k < w.heap.size) (hl : l.length ≤ 1099511627776) :
    Calls Try.prog 30 #[.pointer (some ⟨b, 0, none⟩)] w fun e w' => e = .returned (.string ⟨l.toArray⟩) ∧ Kept K w w' := by
  obtain ⟨hKb, p, ao, cap, hbk, _, hown⟩ := h
  have hUS0 := fun (W : World) (q : Option Addr) => Lib.run_unsafeString_none (P := Try.prog) W 98 3 9 q
  rcases hown.2.2.2 with ⟨rfl, rfl⟩ | ⟨g, cur, rfl, hKg, hg, hcs, htk⟩
  · have hl0 : l = [] := List.eq_nil_of_length_eq_zero (by have := hown.2.1; omega)
    subst hl0
    have c1 : w.drew.cell? ⟨b, 1, none⟩ = some (.slice none 0 0) := by
      have : w.drew.heap[b]? = some (.cells #[.pointer p, .slice none 0 0] 78 (0, 0)) := hbk
      rw [cell_block this]; rfl
    have hSD : (Builtin.unsafeSliceData_ #[42] 98 #[.slice none 0 0]).run Try.prog w.drew = .ok (.pointer none) w.drew := rfl
    have hUS := hUS0 w.drew none
    clear hUS0 hown hbk hl
    go_enter Try.func30, Try.ntmps30
    go_wp2
    go_region
    all_goals (go_wp2; go_ret; exact ⟨rfl, (Kept.refl K w).drew⟩)
  · have hKg' : ¬ K g := fun hk => hKg (.inl hk)
    by_cases h0 : l = []
    · subst h0
      by_cases hc0 : cap = 0
      · subst hc0
        have c1 : w.drew.cell? ⟨b, 1, none⟩ = some (.slice (some ⟨g, 0, none⟩) 0 0) := by
          have : w.drew.heap[b]? = some (.cells #[.pointer p, .slice (some ⟨g, 0, none⟩) 0 0] 78 (0, 0)) := hbk
          rw [cell_block this]; rfl
        have hSD : (Builtin.unsafeSliceData_ #[42] 98 #[.slice (some ⟨g, 0, none⟩) 0 0]).run Try.prog w.drew = .ok (.pointer (some ⟨w.drew.heap.size, 0, none⟩)) (w.drew.alloc (.view ⟨g, 0, none⟩ 5)) :=
          Lib.run_unsafeSliceData_zero w.drew _ _ 5 Try.underlying98 ⟨g, 0, none⟩ 0 (5, cur.size) (by have hg' : w.drew.heap[g]? = some (.cells cur 5 (0, 0)) := hg; simp [World.shape?, hg'])
        have c2 : (w.alloc (.view ⟨g, 0, none⟩ 5)).cell? ⟨b, 1, none⟩ = some (.slice (some ⟨g, 0, none⟩) 0 0) := by
          have : (w.alloc (.view ⟨g, 0, none⟩ 5)).heap[b]? = _ := heap_alloc_past hbk _
          rw [cell_block this]; rfl
        have c3 : (w.alloc (.view ⟨g, 0, none⟩ 5)).drew.cell? ⟨b, 1, none⟩ = some (.slice (some ⟨g, 0, none⟩) 0 0) := c2
        have c0 : w.cell? ⟨b, 1, none⟩ = some (.slice (some ⟨g, 0, none⟩) 0 0) := c1
        have hUS := hUS0
        have hkk : ∀ o, Kept K w (w.alloc o).drew := fun o => ((Kept.refl K w).alloc hK o).drew
        clear hUS0 hown hbk hl hg hcs htk hKg hKg'
        go_enter Try.func30, Try.ntmps30
        go_wp2
        go_region
        all_goals (go_wp2; go_ret; exact ⟨rfl, hkk _⟩)
      · have c1 : w.drew.cell? ⟨b, 1, none⟩ = some (.slice (some ⟨g, 0, none⟩) 0 cap) := by
          have : w.drew.heap[b]? = some (.cells #[.pointer p, .slice (some ⟨g, 0, none⟩) 0 cap] 78 (0, 0)) := hbk
          rw [cell_block this]; rfl
        have hSD : (Builtin.unsafeSliceData_ #[42] 98 #[.slice (some ⟨g, 0, none⟩) 0 cap]).run Try.prog w.drew = .ok (.pointer (some ⟨g, 0, none⟩)) w.drew :=
          Lib.run_unsafeSliceData_row _ _ _ _ _ _ hc0
        have hUS := hUS0 w.drew (some ⟨g, 0, none⟩)
        clear hUS0 hown hbk hl hg hcs htk hKg hKg' hc0
        go_enter Try.func30, Try.ntmps30
        go_wp2
        go_region
        all_goals (go_wp2; go_ret; exact ⟨rfl, (Kept.refl K w).drew⟩)
    · have hn0 : l.length ≠ 0 := by simpa using h0
      have hlc : l.length ≤ cap := hown.2.1
      have c1 : w.drew.cell? ⟨b, 1, none⟩ = some (.slice (some ⟨g, 0, none⟩) l.length cap) := by
        have : w.drew.heap[b]? = some (.cells #[.pointer p, .slice (some ⟨g, 0, none⟩) l.length cap] 78 (0, 0)) := hbk
        rw [cell_block this]; rfl
      have hSD : (Builtin.unsafeSliceData_ #[42] 98 #[.slice (some ⟨g, 0, none⟩) l.length cap]).run Try.prog w.drew = .ok (.pointer (some ⟨g, 0, none⟩)) w.drew :=
        Lib.run_unsafeSliceData_row _ _ _ _ _ _ (by omega)
      have hUS : (Builtin.unsafeString_ #[98, 3] 9 #[.pointer (some ⟨g, 0, none⟩), .int .i64 l.length]).run Try.prog w.drew = .ok (.string ⟨l.toArray⟩) (w.drew.freeze ⟨g, 0, none⟩ l.length) := by
        refine Lib.run_unsafeString_row w.drew 98 3 9 5 Try.underlying98 cellsY g cur.size (by have hg' : w.drew.heap[g]? = some (.cells cur 5 (0, 0)) := hg; simp [World.shape?, hg']) l h0 (by omega) (by omega) ?_
        intro j x hx
        rcases hown.cells with ⟨ha, _⟩ | ⟨g', ha, _, _, hc, _⟩
        · cases ha
        · injection ha with ha
          injection ha with ha
          subst ha
          have := hc j (bv x) (by simp [bvs, hx])
          rw [Addr.add_lit, Nat.zero_add]
          exact this
      have hkk : Kept K w (w.drew.freeze ⟨g, 0, none⟩ l.length) := ((Kept.refl K w).drew).freeze (p := ⟨g, 0, none⟩) hKg' _
      clear hUS0 hown hbk hl hg hcs htk hKg hKg' h0 hn0 hlc
      go_enter Try.func30, Try.ntmps30
      go_wp2
      go_region
      all_goals (go_wp2; go_ret; exact ⟨rfl, hkk⟩)
end Go.Proofs.Yteccdijjpmeeaaa
