/-
  The reader apart from K, with the attributes of its tokens in memory of its own (TX); add, addComment.
-/
import Derived.Test.YtncfgahnjakeiaaDoorTkE
import Derived.Test.YtncfgahnjakeiaaDoorClean
namespace Go.Proofs.YtncfgahnjakeiaaDoor
open Go.RowKit

theorem TK.weaken {K K' A : Nat → Prop} {w : World} {p : Nat} {st : TS} (h : TK K A w p st) (hs : ∀ k, K' k → K k) (hA : ∀ k, A k → K' k) : TK K' A w p st := by
  obtain ⟨h1, _, ta, tc, tcs, fa, fc, bp, ba, bc, hb, hp, h2, h3, h4, h5⟩ := h
  refine ⟨fun h => h1 (hs _ h), hA, ta, tc, tcs, fa, fc, bp, ba, bc, hb, hp, h2.to (fun g hg => ?_) (fun _ _ => rfl), h3, h4.to (fun g hg => ?_) (fun _ _ => rfl), h5.to (fun g hg => ?_) (fun _ _ => rfl)⟩
  · rintro (hh | hh)
    · exact (h2.out hg).1 (.inl (hs _ hh))
    · exact (h2.out hg).1 (.inr hh)
  · rintro (hh | hh)
    · exact (h4.out hg).1 (.inl (hs _ hh))
    · exact (h4.out hg).1 (.inr hh)
  · rintro (hh | hh)
    · exact (h5.out hg).1 (.inl (hs _ hh))
    · exact (h5.out hg).1 (.inr hh)
/-- More that is kept: blocks that did not lie there. -/
theorem TK.more {K K' A : Nat → Prop} {w : World} {p : Nat} {st : TS} (h : TK K A w p st) (hs : ∀ k, K' k → K k ∨ w.heap.size ≤ k) (hA : ∀ k, A k → K' k) : TK K' A w p st := by
  obtain ⟨h1, _, ta, tc, tcs, fa, fc, bp, ba, bc, hb, hp, h2, h3, h4, h5⟩ := h
  refine ⟨fun h => ?_, hA, ta, tc, tcs, fa, fc, bp, ba, bc, hb, hp, h2.to (fun g hg => ?_) (fun _ _ => rfl), h3, h4.to (fun g hg => ?_) (fun _ _ => rfl), h5.to (fun g hg => ?_) (fun _ _ => rfl)⟩
  · rcases hs _ h with hh | hh
    · exact h1 hh
    · have := lt_block hb
      omega
  · rintro (hh | hh)
    · rcases hs _ hh with hh | hh
      · exact (h2.out hg).1 (.inl hh)
      · have := (h2.out hg).2
        omega
    · exact (h2.out hg).1 (.inr hh)
  · rintro (hh | hh)
    · rcases hs _ hh with hh | hh
      · exact (h4.out hg).1 (.inl hh)
      · have := (h4.out hg).2
        omega
    · exact (h4.out hg).1 (.inr hh)
  · rintro (hh | hh)
    · rcases hs _ hh with hh | hh
      · exact (h5.out hg).1 (.inl hh)
      · have := (h5.out hg).2
        omega
    · exact (h5.out hg).1 (.inr hh)

theorem TK.keptA {K A : Nat → Prop} {w w' : World} {p : Nat} {st : TS} (h : TK K A w p st) (hk : Kept (fun k => k < w.heap.size) w w') (hAl : ∀ k, A k → k < w.heap.size) : TK K A w' p st := by
  obtain ⟨h1, hA, ta, tc, tcs, fa, fc, bp, ba, bc, hb, hp, ht, hr, hf, ho⟩ := h
  refine ⟨h1, hA, ta, tc, tcs, fa, fc, bp, ba, bc, ?_, hp, ?_, ?_, ?_, ?_⟩
  · rw [hk.block p (lt_block hb)]; exact hb
  · exact ht.to (fun g hg => (ht.out hg).1) (fun g hg => hk.block g (ht.out hg).2)
  · exact hr.kept (hk.mono hAl) (fun _ h => h)
  · exact hf.to (fun g hg => (hf.out hg).1) (fun g hg => hk.block g (hf.out hg).2)
  · exact ho.to (fun g hg => (ho.out hg).1) (fun g hg => hk.block g (ho.out hg).2)
theorem endT_pot {st : TS} {b : Nat} (h : pot st ≤ b) : pot st.endT ≤ b := by
  unfold TS.endT
  split
  · exact h
  · rename_i ht
    have : 0 < st.text.length := List.length_pos_iff.2 ht
    unfold pot at h ⊢
    simp only [List.length_append, List.length_cons, List.length_nil]
    omega

set_option maxRecDepth 20000 in
set_option maxHeartbeats 1000000 in
theorem add_any (K A : Nat → Prop) (p : Nat) (st : TS) (w : World) (h : TK K A w p st) (hKl : ∀ k, K k → k < w.heap.size) (hn : pot st ≤ 1000000000) (t : Tk) (aa : Option Addr) (ac : Nat) (ha : AtsIn A w aa t.attrs) :
    Calls Tryd.prog 73 #[.pointer (some ⟨p, 0, none⟩), .agg #[.int .u8 (t.kind : Int), sv t.name, .slice aa t.attrs.length ac, .bool t.self, sv t.data, .int .i64 (t.pl : Int)]] w fun e w' => e = .returned (.tuple #[]) ∧ TK K A w' p (st.add t) ∧ Kept K w w' := by
  obtain ⟨W, hW⟩ : ∃ W, w.alloc (.cells (tokCells t aa ac).toArray 29) = W := ⟨_, rfl⟩
  obtain ⟨N, hN⟩ : ∃ N, w.heap.size = N := ⟨_, rfl⟩
  have hWN : W.heap.size = N + 1 := by rw [← hW, ← hN]; simp
  have hkW : Kept K w W := by rw [← hW]; exact (Kept.refl K w).alloc hKl _
  have hcW : ∀ i u, (tokCells t aa ac)[i]? = some u → W.cell? ⟨N, i, none⟩ = some u := by
    intro i u hi
    rw [← hW, ← hN, cell_block (heap_alloc_new w _), ← Array.getElem?_toList]
    exact hi
  have hA := h.2.1
  have hKW : ∀ k, (K k ∨ k = N) → k < W.heap.size := by
    rintro k (hk | rfl)
    · have := hKl k hk; omega
    · omega
  have hTW : TK (fun k => K k ∨ k = N) A W p st := by
    have h1 : TK (fun k => K k ∨ k = N) A w p st := h.more (fun k hk => by rcases hk with hk | rfl; exact .inl hk; exact .inr (by omega)) (fun k hk => .inl (hA k hk))
    refine h1.keptA ?_ (fun k hk => hKl k (hA k hk))
    rw [← hW]
    exact (Kept.refl _ w).alloc (fun _ h => h) _
  have hend := endText_any (fun k => K k ∨ k = N) A p st W hTW hKW hn
  have haW : AtsIn A W aa t.attrs := ha.kept (hkW.mono hA) (fun _ h => h)
  have hn2 : st.endT.toks.length ≤ 1000000000 := by have := endT_pot hn; unfold pot at this; omega
  have HA : Hid (∀ X, TK (fun k => K k ∨ k = N) A X p st.endT → Kept (fun k => K k ∨ k = N) W X → ∃ ta tc, X.drew.cell? ⟨p, 2, none⟩ = some (.slice ta st.endT.toks.length tc) ∧ (∀ i u, (tokCells t aa ac)[i]? = some u → X.drew.cell? ⟨N, i, none⟩ = some u) ∧
      (X.drew.alloc (.cells (tokCells t aa ac).toArray 29)).cell? ⟨p, 2, none⟩ = some (.slice ta st.endT.toks.length tc) ∧ ∃ ta' tc' w', (Builtin.append_ #[23, 23] 23 #[.slice ta st.endT.toks.length tc, .slice (some ⟨X.drew.heap.size, 0, none⟩) 1 1]).run Tryd.prog (X.drew.alloc (.cells (tokCells t aa ac).toArray 29)) = .ok (.slice ta' (st.endT.toks.length + 1) tc') w' ∧
      w'.cell? ⟨p, 2, none⟩ = some (.slice ta st.endT.toks.length tc) ∧ w'.frozen? ⟨p, 2, none⟩ = false ∧ TK K A (w'.setCell ⟨p, 2, none⟩ (.slice ta' (st.endT.toks.length + 1) tc')) p (st.add t) ∧ Kept K w (w'.setCell ⟨p, 2, none⟩ (.slice ta' (st.endT.toks.length + 1) tc'))) := by
    intro X hX hkX
    have hKX : ∀ k, (K k ∨ k = N) → k < X.drew.heap.size := fun k hk => Nat.lt_of_lt_of_le (hKW k hk) hkX.size
    have hXd : TK (fun k => K k ∨ k = N) A X.drew p st.endT := hX.drew hKX
    obtain ⟨bp, ba, bc, ho, hp, how⟩ := hXd.apart
    obtain ⟨ta, tc, q1, ta', tc', w', r1, r2, r3, r4, r5, r6⟩ := ho.appT hKX (fun g hg => (how.out hg).2) hn2 t aa ac (haW.kept ((hkX.drew).mono fun k hk => .inl (hA k hk)) (fun _ h => h))
    have hcX : ∀ i u, (tokCells t aa ac)[i]? = some u → X.drew.cell? ⟨N, i, none⟩ = some u := fun i u hi => by
      rw [hkX.drew.cell (p := ⟨N, i, none⟩) (.inr rfl)]
      exact hcW i u hi
    have hpl := hXd.lt
    refine ⟨ta, tc, q1, hcX, ?_, ta', tc', w', r1, r2, r3, ?_, (hkW.trans (hkX.drew.mono fun _ h => .inl h)).trans (r5.mono fun _ h => .inl h)⟩
    · rw [World.cell?_of_block (w := X.drew) (Below.heap_alloc _ _ _ hpl)]
      exact q1
    · have : TK (fun k => K k ∨ k = N) A (w'.setCell ⟨p, 2, none⟩ (.slice ta' (st.endT.toks.length + 1) tc')) p (st.add t) := by
        refine TKo.join (bp := bp) (ba := ba) (bc := bc) r4 hp (how.to (fun g hg => (how.out hg).1) (fun g hg => r6 g hg fun e => (how.out hg).1 (.inr e)))
      exact this.weaken (fun _ h => .inl h) hA
  obtain ⟨n, hne⟩ : ∃ n, st.endT.toks.length = n := ⟨_, rfl⟩
  rw [hne] at HA
  rw [← hW] at hend HA
  clear h ha hKl hn hkW hcW hWN haW hn2 hTW hKW hA hne hW
  go_enter Tryd.func73, Tryd.ntmps73
  go_wp2_with fail
  refine hend.mono ?_
  rintro e w1 ⟨rfl, ht1, hk1⟩
  obtain ⟨ta, tc, d2, dN, d2a, ta', tc', w3, hrun, e2, g2, hto, hkf⟩ := HA.out w1 ht1 hk1
  have n0 := dN 0 _ rfl
  have n1 := dN 1 _ rfl
  have n2 := dN 2 _ rfl
  have n3 := dN 3 _ rfl
  have n4 := dN 4 _ rfl
  have n5 := dN 5 _ rfl
  have d2b : (w1.alloc (.cells #[.int .u8 (t.kind : Int), sv t.name, .slice aa t.attrs.length ac, .bool t.self, sv t.data, .int .i64 (t.pl : Int)] 29)).drew.cell? ⟨p, 2, none⟩ = some (.slice ta n tc) := d2a
  have d2c : (w1.alloc (.cells #[.int .u8 (t.kind : Int), sv t.name, .slice aa t.attrs.length ac, .bool t.self, sv t.data, .int .i64 (t.pl : Int)] 29)).cell? ⟨p, 2, none⟩ = some (.slice ta n tc) := d2a
  clear dN HA hend hk1 d2a
  go_wp2_with fail
  go_region_law (refine step_appR (w' := w3) rfl (.tmp 10) (.tmp 12) 23 23 rfl _ _ (.slice ta' (n + 1) tc') rfl rfl hrun ?_)
  all_goals
    go_wp2
    go_end0
    exact ⟨rfl, hto, hkf⟩
end Go.Proofs.YtncfgahnjakeiaaDoor
