/-
  The builder within the reader: Len, WriteString, String, Reset; addText, endText, add.
-/
import Derived.Test.YtncfgahnjakeiaaDoorTkA
import Derived.Test.YtncfgahnjakeiaaDoorBld
import Derived.Deep.RegionLaw
namespace Go.Proofs.YtncfgahnjakeiaaDoor
open Go.RowKit

theorem liesT : liesAt Tryd.prog Tryd.prog.depth 47 (7 / Tryd.prog.cellsOf 47) 4 45 1 = true := by kernel_rfl

set_option maxRecDepth 20000 in
theorem ccUsedT (b : Nat) (w : World) (h0 : w.cell? ⟨b, 4, none⟩ = some (.pointer (some ⟨b, 4, none⟩))) :
    Calls Tryd.prog 81 #[.pointer (some ⟨b, 4, none⟩)] w fun e w' => e = .returned (.tuple #[]) ∧ w' = w := by
  obtain ⟨j, hj, _⟩ := Option.map_eq_some_iff.1 infoB
  go_enter Tryd.func81, Tryd.ntmps81
  go_wp2
  rw [Lib.run_neq_ptr_same w _ Tryd.underlying43 hj]
  go_wp2
  go_end0
  exact ⟨rfl, rfl⟩

set_option maxRecDepth 20000 in
theorem ccFreshT (b : Nat) (w : World) (h0 : w.cell? ⟨b, 4, none⟩ = some (.pointer none)) (hsh : w.shape? b = some (47, 7)) (hfz : w.frozen? ⟨b, 4, none⟩ = false) :
    Calls Tryd.prog 81 #[.pointer (some ⟨b, 4, none⟩)] w fun e w' => e = .returned (.tuple #[]) ∧ w' = w.setCell ⟨b, 4, none⟩ (.pointer (some ⟨b, 4, none⟩)) := by
  obtain ⟨j, hj, hjs⟩ := Option.map_eq_some_iff.1 infoB
  go_enter Tryd.func81, Tryd.ntmps81
  go_wp2
  rw [Lib.run_to_unsafe w ⟨b, 4, none⟩ Tryd.underlying43 Tryd.underlying97 hj (by rw [hjs]; decide) hsh (show 4 < 7 by omega)]
  simp only [Result.andThen]
  rw [Oper.upon_value]
  go_wp2
  rw [run_callFunc_extern Tryd.func100 (by kernel_rfl) (by kernel_rfl) (by kernel_rfl) (e := Extern.AbiNoEscape.same) (by kernel_rfl)]
  rw [Lib.run_noEscape]
  simp only [Result.andThen]
  rw [Oper.upon_value]
  go_wp2
  rw [Lib.run_from_unsafe w ⟨b, 4, none⟩ Tryd.underlying97 Tryd.underlying43 hj hsh liesT]
  simp only [Result.andThen]
  rw [Oper.upon_value]
  go_wp2
  go_end0
  exact ⟨rfl, rfl⟩

theorem lenT_any (K A : Nat → Prop) (p : Nat) (st : TS) (w : World) (h : TK K A w p st) :
    Calls Tryd.prog 32 #[.pointer (some ⟨p, 4, none⟩)] w fun e w' => e = .returned (.int .i64 (st.text.length : Int)) ∧ w' = w := by
  obtain ⟨_, _, ta, tc, tcs, fa, fc, bp, ba, bc, hb, _⟩ := h
  have c5 : w.cell? ⟨p, 5, none⟩ = some (.slice ba st.text.length bc) := by rw [cell_block hb]; rfl
  clear hb
  go_enter Tryd.func32, Tryd.ntmps32
  go_wp2
  go_ret
  exact ⟨rfl, rfl⟩

set_option maxRecDepth 20000 in
set_option maxHeartbeats 1000000 in
theorem writeT_any (K A : Nat → Prop) (p : Nat) (st : TS) (w : World) (h : TK K A w p st) (hKl : ∀ k, K k → k < w.heap.size) (s : List UInt8) (hn : st.text.length + s.length ≤ 1000000000) :
    Calls Tryd.prog 55 #[.pointer (some ⟨p, 4, none⟩), sv s] w fun e w' => e = .returned (.tuple #[.int .i64 (s.length : Int), .nilIface]) ∧ TK K A w' p { st with text := st.text ++ s } ∧ Kept K w w' := by
  obtain ⟨i0, hi, hz0, hz1, hz2⟩ := info_parts infoY
  have hz3 : i0.bytes ≤ 64 := by omega
  obtain ⟨h1, hA, ta, tc, tcs, fa, fc, bp, ba, bc, hb, hp, h2, h3, h4, h5⟩ := h
  have hcc : Calls Tryd.prog 81 #[.pointer (some ⟨p, 4, none⟩)] w fun e w' => e = .returned (.tuple #[]) ∧ w'.heap[p]? = some (.cells #[sv st.rest, .int .i64 (st.pl : Int), .slice ta st.toks.length tc, .slice fa st.flts.length fc, .pointer (some ⟨p, 4, none⟩), .slice ba st.text.length bc, .int .i64 (st.tat : Int)] 47 (0, 0)) ∧ Kept (fun k => k ≠ p) w w' := by
    rcases hp with rfl | rfl
    · refine (ccFreshT p w (by rw [cell_block hb]; rfl) (by simp [World.shape?, hb]) (frozen_block hb 4)).mono ?_
      rintro e w1 ⟨rfl, rfl⟩
      exact ⟨rfl, heap_setCell_at hb 4 _, (Kept.refl _ w).setCell (p := ⟨p, 4, none⟩) (fun h => h rfl) _⟩
    · refine (ccUsedT p w (by rw [cell_block hb]; rfl)).mono ?_
      rintro e w1 ⟨rfl, rfl⟩
      exact ⟨rfl, hb, Kept.refl _ w1⟩
  have hS : ∀ g, (K g ∨ g = p ∨ blkOf ta g ∨ blkOf fa g) → g < w.heap.size := by
    rintro g (hg | rfl | hg | hg)
    · exact hKl g hg
    · exact lt_block hb
    · exact (h2.out hg).2
    · exact (h4.out hg).2
  obtain ⟨K', hK'⟩ : ∃ K' : Nat → Prop, (fun k => K k ∨ k = p ∨ blkOf ta k ∨ blkOf fa k) = K' := ⟨_, rfl⟩
  have HE : Hid ((fun k => K k ∨ k = p ∨ blkOf ta k ∨ blkOf fa k) = K') := hK'
  have hKp : K' p := by rw [← hK']; exact .inr (.inl rfl)
  have H5 : Hid (∀ X, Kept (fun k => k ≠ p) w X → Own K' X 5 ba st.text.length bc (bvs st.text)) := by
    intro X hX
    rw [← hK']
    exact h5.to (fun g hg => (h5.out hg).1) (fun g hg => hX.block g (fun e => (h5.out hg).1 (.inr (.inl e))))
  have hSK : ∀ g, K' g → g < w.heap.size := fun g hg => by rw [← hK'] at hg; exact hS g hg
  obtain ⟨n, hne⟩ : ∃ n, st.text.length = n := ⟨_, rfl⟩
  rw [hne] at hcc hn H5
  have hsz := sv_size s
  clear hb hp h5 hS hK'
  go_enter Tryd.func55, Tryd.ntmps55
  go_wp2_with fail
  refine hcc.mono ?_
  rintro e w1 ⟨rfl, hb1, hk1⟩
  have c5 : w1.cell? ⟨p, 5, none⟩ = some (.slice ba n bc) := by rw [cell_block hb1]; rfl
  have own := H5.out w1 hk1
  have hK2 : ∀ k, K' k → k < w1.heap.size := fun k hk => Nat.lt_of_lt_of_le (hSK k hk) hk1.size
  clear hcc
  have hb9 : n + s.length ≤ 1099511627776 := by omega
  go_wp2_with (at_builtin; refine wpList_appS (K := K') rfl (.tmp 12) (.tmp 13) 34 9 5 rfl i0 (.int .u8 0) Tryd.underlying34 Tryd.underlying9 hi hz0 hz1 rfl hz3 ba n bc (bvs st.text) rfl ⟨s.toArray⟩ rfl s.length hsz hb9 own hK2 ?_)
  intro ba2 bc2 w2 own2 kept2
  have hb2 := (kept2.block p hKp).trans hb1
  have d5 : w2.cell? ⟨p, 5, none⟩ = some (.slice ba n bc) := by rw [cell_block hb2]; rfl
  have f5 : w2.frozen? ⟨p, 5, none⟩ = false := frozen_block hb2 5
  clear c5
  go_wp2
  go_ret2
  have oth : ∀ g v, g ≠ p → (w2.setCell ⟨p, 5, none⟩ v).heap[g]? = w2.heap[g]? := fun g v hg => Below.heap_setCell _ _ _ _ (fun e => hg e)
  have hall : ∀ g v, (K g ∨ blkOf ta g ∨ blkOf fa g) → g ≠ p → (w2.setCell ⟨p, 5, none⟩ v).heap[g]? = w.heap[g]? := fun g v hg hgp => by
    rw [oth g v hgp, kept2.block g (by rw [← HE.out]; rcases hg with hg | hg | hg; exact .inl hg; exact .inr (.inr (.inl hg)); exact .inr (.inr (.inr hg)))]
    exact hk1.block g hgp
  rw [← HE.out] at own2
  refine ⟨?_, ⟨h1, hA, ta, tc, tcs, fa, fc, some ⟨p, 4, none⟩, ba2, bc2, ?_, .inr rfl, ?_, ?_, ?_, ?_⟩, ?_⟩
  · rfl
  · rw [heap_setCell_at hb2, List.length_append, hne]
    rfl
  · refine h2.to (fun g hg => ?_) (fun g hg => hall g _ (.inr (.inl hg)) (fun e => (h2.out hg).1 (.inr (.inl e))))
    rintro (hh | rfl | hh | hh)
    · exact (h2.out hg).1 (.inl hh)
    · exact (h2.out hg).1 (.inr (.inl rfl))
    · exact (h2.out hg).1 (.inr (.inr (.inl hh)))
    · exact (own2.out hh).1 (.inr (.inr (.inl hg)))
  · refine TokRep.kept (K := A) ?_ (fun _ h => h) h3
    exact (((hk1.mono fun k hk (e : k = p) => h1 (e ▸ hk)).trans (kept2.mono fun k hk => by rw [← HE.out]; exact .inl hk)).setCell (p := ⟨p, 5, none⟩) h1 _).mono hA
  · refine h4.to (fun g hg => ?_) (fun g hg => hall g _ (.inr (.inr hg)) (fun e => (h4.out hg).1 (.inr (.inl e))))
    rintro (hh | rfl | hh | hh)
    · exact (h4.out hg).1 (.inl hh)
    · exact (h4.out hg).1 (.inr (.inl rfl))
    · exact (h4.out hg).1 (.inr (.inr (.inl hh)))
    · exact (own2.out hh).1 (.inr (.inr (.inr hg)))
  · have e1 : (st.text ++ s).length = n + s.length := by rw [List.length_append, hne]
    show Own _ _ _ _ (st.text ++ s).length _ (bvs (st.text ++ s))
    rw [e1, bvs_append]
    exact own2.to (fun g hg => (own2.out hg).1) (fun g hg => oth g _ fun e => (own2.out hg).1 (.inr (.inl e)))
  · exact ((hk1.mono fun k hk (e : k = p) => h1 (e ▸ hk)).trans (kept2.mono fun k hk => by rw [← HE.out]; exact .inl hk)).setCell (p := ⟨p, 5, none⟩) h1 _

theorem addText_any (K A : Nat → Prop) (p : Nat) (st : TS) (w : World) (h : TK K A w p st) (hKl : ∀ k, K k → k < w.heap.size) (s : List UInt8) (a : Nat) (hn : st.text.length + s.length ≤ 1000000000) :
    Calls Tryd.prog 29 #[.pointer (some ⟨p, 0, none⟩), sv s, .int .i64 a] w fun e w' => e = .returned (.tuple #[]) ∧ TK K A w' p (st.addT s a) ∧ Kept K w w' := by
  by_cases hs : s = []
  · subst hs
    have H : Hid (TK K A w p st) := h
    clear h
    go_enter Tryd.func29, Tryd.ntmps29
    go_wp2
    refine bodyPost_ret (results_none rfl _ _ _) rfl ?_
    exact ⟨rfl, H.out, Kept.refl _ _⟩
  · have hlen := lenT_any K A p st w h
    have hse : s.isEmpty = false := by cases s with | nil => exact absurd rfl hs | cons => rfl
    by_cases ht : st.text = []
    · have H6 : Hid (TK K A (w.setCell ⟨p, 6, none⟩ (.int .i64 (a : Int))) p { st with tat := a }) := h.set 6 _ rfl rfl rfl (fun _ _ _ _ _ => rfl) rfl
      have hw := writeT_any K A p { st with tat := a } _ H6.out (fun k hk => by have := hKl k hk; simpa using this) s hn
      have HR : Hid (st.addT s a = { st with tat := a, text := st.text ++ s }) := by
        show TS.addT _ _ _ = _
        unfold TS.addT
        rw [if_neg hs, if_pos ht]
      obtain ⟨_, _, _, _, _, _, f6⟩ := h.cells
      have hp := h.1
      obtain ⟨_, _, ta, tc, tcs, fa, fc, bp, ba, bc, hb, _⟩ := h
      have c6 : w.cell? ⟨p, 6, none⟩ = some (.int .i64 (st.tat : Int)) := by rw [cell_block hb]; rfl
      have hk0 : Kept K w (w.setCell ⟨p, 6, none⟩ (.int .i64 (a : Int))) := (Kept.refl K w).setCell (p := ⟨p, 6, none⟩) hp _
      rw [ht] at hlen
      clear hb ht hs hn
      go_enter Tryd.func29, Tryd.ntmps29
      go_wp2_with fail
      refine hlen.mono ?_
      rintro e w1 ⟨rfl, rfl⟩
      go_wp2_with fail
      refine hw.mono ?_
      rintro e w2 ⟨rfl, ht2, hk2⟩
      go_wp2
      go_end0
      refine ⟨rfl, ?_, hk0.trans hk2⟩
      rw [HR.out]
      exact ht2
    · have hw := writeT_any K A p st _ h hKl s hn
      have HR : Hid (st.addT s a = { st with text := st.text ++ s }) := by
        show TS.addT _ _ _ = _
        unfold TS.addT
        rw [if_neg hs, if_neg ht]
      have hl0 : (((st.text.length : Nat) : Int) == 0) = false := by
        have : 0 < st.text.length := List.length_pos_iff.2 ht
        simp
        intro e
        exact ht e
      clear h ht hs hn
      go_enter Tryd.func29, Tryd.ntmps29
      go_wp2_with fail
      refine hlen.mono ?_
      rintro e w1 ⟨rfl, rfl⟩
      go_wp2_with fail
      refine hw.mono ?_
      rintro e w2 ⟨rfl, ht2, hk2⟩
      go_wp2
      go_end0
      refine ⟨rfl, ?_, hk2⟩
      rw [HR.out]
      exact ht2
end Go.Proofs.YtncfgahnjakeiaaDoor
