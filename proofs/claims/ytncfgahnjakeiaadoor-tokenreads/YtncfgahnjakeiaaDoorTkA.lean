/-
  What the program's reader does: atEnd, cut, cutIf, fault.
-/
import Derived.Test.YtncfgahnjakeiaaDoorTkM
import Derived.Test.YtncfgahnjakeiaaDoorLeaf
namespace Go.Proofs.YtncfgahnjakeiaaDoor
open Go.RowKit

theorem sv_size (l : List UInt8) : (⟨l.toArray⟩ : ByteArray).size = l.length := by
  show l.toArray.size = l.length
  simp
theorem sv_extract (l : List UInt8) (a b : Nat) : (⟨l.toArray⟩ : ByteArray).extract a b = ⟨((l.take b).drop a).toArray⟩ := by
  apply ByteArray.ext
  rw [ByteArray.data_extract]
  simp [List.drop_take]

/-- One cell of the reader's own is written. -/
theorem TK.set {K A : Nat → Prop} {w : World} {p : Nat} {st st' : TS} (h : TK K A w p st) (i : Nat) (v : Value) (ht : st'.toks = st.toks) (hf : st'.flts = st.flts) (hx : st'.text = st.text)
    (hv : ∀ a b c d e, (#[sv st.rest, .int .i64 (st.pl : Int), a, b, c, d, e] : Array Value).setIfInBounds i v = #[sv st'.rest, .int .i64 (st'.pl : Int), a, b, c, d, if i = 6 then v else e])
    (he : (if i = 6 then v else .int .i64 (st.tat : Int)) = .int .i64 (st'.tat : Int)) : TK K A (w.setCell ⟨p, i, none⟩ v) p st' := by
  obtain ⟨h1, hA, ta, tc, tcs, fa, fc, bp, ba, bc, hb, hp, h2, h3, h4, h5⟩ := h
  have oth : ∀ g, g ≠ p → (w.setCell ⟨p, i, none⟩ v).heap[g]? = w.heap[g]? := fun g hg => Below.heap_setCell _ _ _ _ (fun e => hg e)
  refine ⟨h1, hA, ta, tc, tcs, fa, fc, bp, ba, bc, ?_, hp, ?_, ?_, ?_, ?_⟩
  · rw [heap_setCell_at hb, hv, he, ht, hf, hx]
  · rw [ht]; exact h2.to (fun g hg => (h2.out hg).1) (fun g hg => oth g fun e => (h2.out hg).1 (.inr (.inl e)))
  · rw [ht]; exact h3.kept (((Kept.refl K w).setCell (p := ⟨p, i, none⟩) h1 v).mono hA) (fun _ h => h)
  · rw [hf]; exact h4.to (fun g hg => (h4.out hg).1) (fun g hg => oth g fun e => (h4.out hg).1 (.inr (.inl e)))
  · rw [hx]; exact h5.to (fun g hg => (h5.out hg).1) (fun g hg => oth g fun e => (h5.out hg).1 (.inr (.inl e)))

theorem atEnd_any (K A : Nat → Prop) (p : Nat) (st : TS) (w : World) (h : TK K A w p st) :
    Calls Tryd.prog 15 #[.pointer (some ⟨p, 0, none⟩)] w fun e w' => e = .returned (.bool st.rest.isEmpty) ∧ w' = w := by
  obtain ⟨c0, _⟩ := h.cells
  clear h
  go_enter Tryd.func15, Tryd.ntmps15
  go_wp2
  go_ret
  exact ⟨rfl, rfl⟩

theorem cut_any (K A : Nat → Prop) (p : Nat) (st : TS) (w : World) (h : TK K A w p st) (n : Nat) (hn : n ≤ st.rest.length) (hs : st.pl + st.rest.length ≤ 1000000) :
    Calls Tryd.prog 28 #[.pointer (some ⟨p, 0, none⟩), .int .i64 n] w fun e w' => e = .returned (sv (st.rest.take n)) ∧ TK K A w' p (st.cut n) ∧ Kept K w w' := by
  obtain ⟨c0, c1, f0, f1, _⟩ := h.cells
  have H : Hid (TK K A w p st) := h
  have HK : Hid (¬ K p) := h.1
  clear h
  go_enter Tryd.func28, Tryd.ntmps28
  go_wp2
  go_ret
  have e1 := sv_extract st.rest 0 n
  have e2 := sv_extract st.rest n st.rest.length
  rw [List.drop_zero] at e1
  rw [List.take_length] at e2
  refine ⟨?_, ?_, ?_⟩
  · exact congrArg (fun s => Ending.returned (.string s)) e1
  · rw [e2]
    exact (H.out.set (st' := ⟨st.rest.drop n, st.pl, st.toks, st.flts, st.text, st.tat⟩) 0 _ rfl rfl rfl (fun _ _ _ _ _ => rfl) rfl).set (st' := st.cut n) 1 _ rfl rfl rfl (fun _ _ _ _ _ => rfl) rfl
  · exact ((Kept.refl K w).setCell (p := ⟨p, 0, none⟩) HK.out _).setCell (p := ⟨p, 1, none⟩) HK.out _

theorem cutIf_any (K A : Nat → Prop) (p : Nat) (st : TS) (w : World) (h : TK K A w p st) (f : List UInt8) (hs : st.pl + st.rest.length ≤ 1000000) :
    Calls Tryd.prog 47 #[.pointer (some ⟨p, 0, none⟩), sv f] w fun e w' => e = .returned (.bool (pre f st.rest)) ∧ TK K A w' p (st.cutIf f) ∧ Kept K w w' := by
  obtain ⟨c0, c1, f0, f1, _⟩ := h.cells
  have H : Hid (TK K A w p st) := h
  have hp := pre_any ⟨st.rest.toArray⟩ ⟨f.toArray⟩ w
  have e1 : preS ⟨f.toArray⟩ ⟨st.rest.toArray⟩ = pre f st.rest := rfl
  rw [e1] at hp
  have hq : pre f st.rest = true → f.length ≤ st.rest.length := pre_length
  have hcut := fun hn => cut_any K A p st w h f.length hn hs
  have HC : Hid (st.cutIf f = if pre f st.rest = true then st.cut f.length else st) := rfl
  obtain ⟨q, hqe⟩ : ∃ q, pre f st.rest = q := ⟨_, rfl⟩
  rw [hqe] at hp hq HC ⊢
  clear h hqe e1
  cases q with
  | true =>
    have hcut := hcut (hq rfl)
    clear hq
    go_enter Tryd.func47, Tryd.ntmps47
    go_wp2_with fail
    refine hp.mono ?_
    rintro e w1 ⟨rfl, rfl⟩
    go_wp2_with fail
    refine hcut.mono ?_
    rintro e w1 ⟨rfl, ht, hk⟩
    go_wp2
    go_ret
    refine ⟨rfl, ?_, hk⟩
    rw [HC.out]
    exact ht
  | false =>
    clear hcut hq
    go_enter Tryd.func47, Tryd.ntmps47
    go_wp2_with fail
    refine hp.mono ?_
    rintro e w1 ⟨rfl, rfl⟩
    go_wp2
    go_ret
    refine ⟨rfl, ?_, Kept.refl _ _⟩
    rw [HC.out]
    exact H.out

theorem infoF : (Tryd.prog.info? 32).map (fun i => (i.zero, i.size, i.bytes)) = some (some (.agg #[.int .u8 0, .int .i64 0]), 2, 16) := by kernel_rfl
theorem infoT : (Tryd.prog.info? 29).map (fun i => (i.zero, i.size, i.bytes)) = some (some (.agg #[.int .u8 0, .string ⟨#[]⟩, .slice none 0 0, .bool false, .string ⟨#[]⟩, .int .i64 0]), 6, 80) := by kernel_rfl
theorem infoA : (Tryd.prog.info? 36).map (fun i => (i.zero, i.size, i.bytes)) = some (some (.agg #[.string ⟨#[]⟩, .string ⟨#[]⟩]), 2, 32) := by kernel_rfl

/-- A fault is appended: the reader's row of faults, anew. -/
theorem TK.appF {K A : Nat → Prop} {w : World} {p : Nat} {st : TS} (h : TK K A w p st) (hKl : ∀ k, K k → k < w.heap.size) (hn : st.flts.length ≤ 1000000000) (k a : Nat) :
    ∃ fa fc, w.cell? ⟨p, 3, none⟩ = some (.slice fa st.flts.length fc) ∧ ∃ fa' fc' w', (Builtin.append_ #[24, 24] 24 #[.slice fa st.flts.length fc, .slice (some ⟨w.heap.size, 0, none⟩) 1 1]).run Tryd.prog (w.alloc (.cells #[.int .u8 (k : Int), .int .i64 (a : Int)] 32)) = .ok (.slice fa' (st.flts.length + 1) fc') w' ∧
      w'.cell? ⟨p, 3, none⟩ = some (.slice fa st.flts.length fc) ∧ w'.frozen? ⟨p, 3, none⟩ = false ∧ TK K A (w'.setCell ⟨p, 3, none⟩ (.slice fa' (st.flts.length + 1) fc')) p (st.flt k a) ∧ Kept K w (w'.setCell ⟨p, 3, none⟩ (.slice fa' (st.flts.length + 1) fc')) := by
  obtain ⟨h1, hA, ta, tc, tcs, fa, fc, bp, ba, bc, hb, hp, h2, h3, h4, h5⟩ := h
  refine ⟨fa, fc, by rw [cell_block hb]; rfl, ?_⟩
  obtain ⟨i, hi, hip⟩ := Option.map_eq_some_iff.1 infoF
  have hz : i.zero = some (.agg #[.int .u8 0, .int .i64 0]) := congrArg (·.1) hip
  have hsz : i.size = 2 := congrArg (·.2.1) hip
  have hby : i.bytes = 16 := congrArg (·.2.2) hip
  obtain ⟨W, hW⟩ : ∃ W, w.alloc (.cells #[.int .u8 (k : Int), .int .i64 (a : Int)] 32) = W := ⟨_, rfl⟩
  rw [hW]
  have hsrc : Src Tryd.prog 2 24 (.slice (some ⟨w.heap.size, 0, none⟩) 1 1) 1 [.int .u8 (k : Int), .int .i64 (a : Int)] W := by
    rw [← hW]
    exact src_newZ w w.heap.size [.int .u8 (k : Int), .int .i64 (a : Int)] _ Tryd.underlying24 (by intro u hu; simp at hu; rcases hu with rfl | rfl <;> rfl) rfl rfl
  have keep : ∀ g, g < w.heap.size → W.heap[g]? = w.heap[g]? := fun g hg => by rw [← hW]; exact Below.heap_alloc _ _ _ hg
  have hsW : w.heap.size ≤ W.heap.size := by rw [← hW]; simp
  have hS : ∀ g, (K g ∨ g = p ∨ blkOf ta g ∨ blkOf ba g) → g < w.heap.size := by
    rintro g (hg | rfl | hg | hg)
    · exact hKl g hg
    · exact lt_block hb
    · exact (h2.out hg).2
    · exact (h5.out hg).2
  obtain ⟨fa', fc', w', hr, ho, hk⟩ := run_appZ (P := Tryd.prog) W 24 24 24 32 i _ Tryd.underlying24 hi hz 2 hsz rfl (by omega)
    (h4.to (w' := W) (fun g hg => (h4.out hg).1) (fun g hg => keep g (h4.out hg).2)) _ _ hsrc (fun g hg => Nat.lt_of_lt_of_le (hS g hg) hsW) hn
  have hk2 : Kept (fun k => K k ∨ k = p ∨ blkOf ta k ∨ blkOf ba k) w w' := by
    refine Kept.trans ?_ hk
    rw [← hW]
    exact (Kept.refl _ w).alloc hS _
  have hb' : w'.heap[p]? = some (.cells _ 47 (0, 0)) := (hk2.block p (.inr (.inl rfl))).trans hb
  refine ⟨fa', fc', w', hr, by rw [cell_block hb']; rfl, frozen_block hb' _, ?_, ?_⟩
  · have oth : ∀ g v, g ≠ p → (w'.setCell ⟨p, 3, none⟩ v).heap[g]? = w'.heap[g]? := fun g v hg => Below.heap_setCell _ _ _ _ (fun e => hg e)
    refine ⟨h1, hA, ta, tc, tcs, fa', fc', bp, ba, bc, ?_, hp, ?_, ?_, ?_, ?_⟩
    · rw [heap_setCell_at hb']
      simp only [TS.flt, List.length_append, List.length_cons, List.length_nil]
      rfl
    · refine h2.to (fun g hg => ?_) (fun g hg => ?_)
      · rintro (hh | rfl | hh | hh)
        · exact (h2.out hg).1 (.inl hh)
        · exact (h2.out hg).1 (.inr (.inl rfl))
        · exact (ho.out hh).1 (.inr (.inr (.inl hg)))
        · exact (h2.out hg).1 (.inr (.inr (.inr hh)))
      · rw [oth g _ (fun e => (h2.out hg).1 (.inr (.inl e)))]
        exact hk2.block g (.inr (.inr (.inl hg)))
    · refine TokRep.kept (K := A) ?_ (fun _ h => h) h3
      exact ((hk2.mono fun _ h => .inl h).setCell (p := ⟨p, 3, none⟩) h1 _).mono hA
    · have : (st.flt k a).flts.length = st.flts.length + 1 := by simp [TS.flt]
      rw [this]
      have e : fltCells (st.flt k a).flts = fltCells st.flts ++ [.int .u8 (k : Int), .int .i64 (a : Int)] := by
        simp only [TS.flt, fltCells_append]
        rfl
      rw [e]
      exact ho.to (fun g hg => (ho.out hg).1) (fun g hg => oth g _ fun e => (ho.out hg).1 (.inr (.inl e)))
    · refine h5.to (fun g hg => ?_) (fun g hg => ?_)
      · rintro (hh | rfl | hh | hh)
        · exact (h5.out hg).1 (.inl hh)
        · exact (h5.out hg).1 (.inr (.inl rfl))
        · exact (h5.out hg).1 (.inr (.inr (.inl hh)))
        · exact (ho.out hh).1 (.inr (.inr (.inr hg)))
      · rw [oth g _ (fun e => (h5.out hg).1 (.inr (.inl e)))]
        exact hk2.block g (.inr (.inr (.inr hg)))
  · exact (hk2.mono fun _ h => .inl h).setCell (p := ⟨p, 3, none⟩) h1 _

theorem fault_any (K A : Nat → Prop) (p : Nat) (st : TS) (w : World) (h : TK K A w p st) (hKl : ∀ k, K k → k < w.heap.size) (hn : pot st ≤ 1000000000) (k a : Nat) :
    Calls Tryd.prog 27 #[.pointer (some ⟨p, 0, none⟩), .int .u8 k, .int .i64 a] w fun e w' => e = .returned (.tuple #[]) ∧ TK K A w' p (st.flt k a) ∧ Kept K w w' := by
  obtain ⟨fa, fc, c3, fa', fc', w', hr, d3, f3, ht, hk⟩ := h.appF hKl (by unfold pot at hn; omega) k a
  have HT : Hid (TK K A (w'.setCell ⟨p, 3, none⟩ (.slice fa' (st.flts.length + 1) fc')) p (st.flt k a)) := ht
  clear h hn ht
  obtain ⟨n, hne⟩ : ∃ n, st.flts.length = n := ⟨_, rfl⟩
  rw [hne] at c3 d3 hr HT hk
  clear hne
  go_enter Tryd.func27, Tryd.ntmps27
  go_wp2_with (at_builtin; refine wpList_appR (w' := w') rfl (.tmp 10) (.tmp 14) 24 24 rfl _ _ (.slice fa' (n + 1) fc') rfl rfl hr ?_)
  go_wp2
  go_end0
  exact ⟨rfl, HT.out, hk⟩
end Go.Proofs.YtncfgahnjakeiaaDoor
