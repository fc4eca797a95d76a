/-
  A row of attributes beside the reader: it is read (has), and grows.
-/
import Derived.Test.YtncfgahnjakeiaaDoorTkK
namespace Go.Proofs.YtncfgahnjakeiaaDoor
open Go.RowKit

theorem TK.move {K K' A : Nat → Prop} {w w' : World} {p : Nat} {st : TS} (h : TK K A w p st) (hb : ∀ g, g < w.heap.size → ¬ K g → w'.heap[g]? = w.heap[g]?) (hK : ∀ g, K' g → g < w.heap.size → K g) (hA : ∀ k, A k → K' k) (hk : Kept A w w') : TK K' A w' p st := by
  obtain ⟨h1, _, ta, tc, tcs, fa, fc, bp, ba, bc, hp, hq, h2, h3, h4, h5⟩ := h
  refine ⟨fun hh => h1 (hK _ hh (lt_block hp)), hA, ta, tc, tcs, fa, fc, bp, ba, bc, ?_, hq, ?_, h3.kept hk (fun _ h => h), ?_, ?_⟩
  · rw [hb p (lt_block hp) h1]; exact hp
  · refine h2.to (fun g hg => ?_) (fun g hg => hb g (h2.out hg).2 fun hh => (h2.out hg).1 (.inl hh))
    rintro (hh | hh)
    · exact (h2.out hg).1 (.inl (hK _ hh (h2.out hg).2))
    · exact (h2.out hg).1 (.inr hh)
  · refine h4.to (fun g hg => ?_) (fun g hg => hb g (h4.out hg).2 fun hh => (h4.out hg).1 (.inl hh))
    rintro (hh | hh)
    · exact (h4.out hg).1 (.inl (hK _ hh (h4.out hg).2))
    · exact (h4.out hg).1 (.inr hh)
  · refine h5.to (fun g hg => ?_) (fun g hg => hb g (h5.out hg).2 fun hh => (h5.out hg).1 (.inl hh))
    rintro (hh | hh)
    · exact (h5.out hg).1 (.inl (hK _ hh (h5.out hg).2))
    · exact (h5.out hg).1 (.inr hh)

theorem OwnZ.ats {K : Nat → Prop} {w : World} {aa : Option Addr} {ac : Nat} {attrs : List Atr} (ho : OwnZ K w 36 2 aa attrs.length ac (atrCells attrs)) : AtsIn (fun k => K k ∨ blkOf aa k) w aa attrs := by
  intro j hj
  obtain ⟨g1, g2⟩ := atrCells_get attrs j hj
  obtain ⟨g, e1, c1⟩ := ho.cell g1
  obtain ⟨g', e2, c2⟩ := ho.cell g2
  rw [e1] at e2
  injection e2 with e2
  injection e2 with e2
  subst e2
  exact ⟨g, e1, .inr e1, c1, c2⟩

/-- An attribute is appended. -/
theorem TX.appA {K : Nat → Prop} {w : World} {p : Nat} {st : TS} {aa : Option Addr} {ac : Nat} {attrs : List Atr} (h : TX (fun k => K k ∨ blkOf aa k) w p st) (ho : OwnZ K w 36 2 aa attrs.length ac (atrCells attrs)) (hn : attrs.length ≤ 100) (h0 : K 0) (h1 : K 1) (a : Atr) :
    ∃ aa' ac' w', (Builtin.append_ #[27, 27] 27 #[.slice aa attrs.length ac, .slice (some ⟨w.heap.size, 0, none⟩) 1 1]).run Tryd.prog (w.alloc (.cells #[sv a.name, sv a.value] 36)) = .ok (.slice aa' (attrs.length + 1) ac') w' ∧
      TX (fun k => K k ∨ blkOf aa' k) w' p st ∧ OwnZ K w' 36 2 aa' (attrs.length + 1) ac' (atrCells (attrs ++ [a])) ∧ Kept K w w' := by
  obtain ⟨i, hi, hip⟩ := Option.map_eq_some_iff.1 infoA
  have hz : i.zero = some (.agg #[.string ⟨#[]⟩, .string ⟨#[]⟩]) := congrArg (·.1) hip
  have hsz : i.size = 2 := congrArg (·.2.1) hip
  have hby : i.bytes = 32 := congrArg (·.2.2) hip
  obtain ⟨W, hW⟩ : ∃ W, w.alloc (.cells #[sv a.name, sv a.value] 36) = W := ⟨_, rfl⟩
  rw [hW]
  have hsrc : Src Tryd.prog 2 27 (.slice (some ⟨w.heap.size, 0, none⟩) 1 1) 1 [sv a.name, sv a.value] W := by
    rw [← hW]
    exact src_newZ w w.heap.size [sv a.name, sv a.value] _ Tryd.underlying27 (by intro u hu; simp at hu; rcases hu with rfl | rfl <;> rfl) rfl rfl
  have keep : ∀ g, g < w.heap.size → W.heap[g]? = w.heap[g]? := fun g hg => by rw [← hW]; exact Below.heap_alloc _ _ _ hg
  have hsW : w.heap.size ≤ W.heap.size := by rw [← hW]; simp
  obtain ⟨aa', ac', w', hr, ho', hk⟩ := run_appZ (P := Tryd.prog) (K := fun k => k < w.heap.size ∧ ¬ blkOf aa k) W 27 27 27 36 i _ Tryd.underlying27 hi hz 2 hsz rfl (by omega)
    (ho.to (w' := W) (fun g hg hh => hh.2 hg) (fun g hg => keep g (ho.out hg).2)) _ _ hsrc (fun g hg => Nat.lt_of_lt_of_le hg.1 hsW) (by omega)
  have hk2 : Kept (fun k => k < w.heap.size ∧ ¬ blkOf aa k) w w' := by
    refine Kept.trans ?_ hk
    rw [← hW]
    exact (Kept.refl _ w).alloc (fun _ h => h.1) _
  obtain ⟨⟨t1, _, _⟩, l1, A, l2, l3⟩ := h
  have hKa : ∀ k, K k → k < w.heap.size ∧ ¬ blkOf aa k := fun k hk => ⟨l1 k (.inl hk), fun hh => (ho.out hh).1 hk⟩
  have hAa : ∀ k, A k → k < w.heap.size ∧ ¬ blkOf aa k := fun k hk => ⟨(l2 k hk).1, fun hh => (l2 k hk).2 (.inr hh)⟩
  have hnew : ∀ g, blkOf aa' g → g < w.heap.size → blkOf aa g := fun g hg hl => by
    have := (ho'.out hg).1
    exact Classical.byContradiction fun hh => this ⟨hl, hh⟩
  refine ⟨aa', ac', w', hr, ⟨⟨t1.kept hk2 (hKa 0 h0) (hKa 1 h1), .inl h0, .inl h1⟩, ?_, A, ?_, ?_⟩, ?_, hk2.mono hKa⟩
  · rintro k (hh | hh)
    · exact Nat.lt_of_lt_of_le (hKa k hh).1 hk2.size
    · exact (ho'.out hh).2
  · intro k hk'
    refine ⟨Nat.lt_of_lt_of_le (hAa k hk').1 hk2.size, ?_⟩
    rintro (hh | hh)
    · exact (l2 k hk').2 (.inl hh)
    · exact (hAa k hk').2 (hnew k hh (hAa k hk').1)
  · refine l3.move (fun g hg hn => hk2.block g ⟨hg, fun hh => hn (.inl (.inr hh))⟩) ?_ (fun k hk => .inr hk) (hk2.mono hAa)
    rintro g ((hh | hh) | hh) hl
    · exact .inl (.inl hh)
    · exact .inl (.inr (hnew g hh hl))
    · exact .inr hh
  · have e : atrCells (attrs ++ [a]) = atrCells attrs ++ [sv a.name, sv a.value] := by rw [atrCells_append]; rfl
    rw [e]
    refine ho'.to (fun g hg hh => ?_) (fun _ _ => rfl)
    exact (ho.out (hnew g hg (hKa g hh).1)).1 hh

theorem allX (K : Nat → Prop) (p : Nat) (st : TS) (w : World) (h : TX K w p st) (s : List UInt8) (attr : Bool) (hs : s.length < 1000000) :
    Calls Tryd.prog 92 #[sv s, .bool attr] w fun e w' => e = .returned (sv (allL attr s)) ∧ TX K w' p st ∧ Kept K w w' := by
  have := all_any ⟨s.toArray⟩ attr (fun k => k < w.heap.size) w (fun _ h => h) (by rw [sv_size]; exact hs) h.tab (h.lt 0 h.1.2.1) (h.lt 1 h.1.2.2)
  refine this.mono ?_
  rintro e w' ⟨rfl, hk⟩
  exact ⟨rfl, h.kept hk, hk.mono h.lt⟩
theorem hasX (K : Nat → Prop) (p : Nat) (st : TS) (w : World) (h : TX K w p st) (attrs : List Atr) (name : List UInt8) (aa : Option Addr) (ac : Nat) (hn : attrs.length ≤ 100) (ha : AtsIn K w aa attrs) :
    Calls Tryd.prog 91 #[.slice aa attrs.length ac, sv name] w fun e w' => e = .returned (.bool (hasN attrs name)) ∧ TX K w' p st ∧ Kept K w w' := by
  refine (has_any attrs name aa ac hn (fun k => k < w.heap.size) w (fun _ h => h) (ha.kept (Kept.refl _ w) h.lt)).mono ?_
  rintro e w' ⟨rfl, hk⟩
  exact ⟨rfl, h.kept hk, hk.mono h.lt⟩
end Go.Proofs.YtncfgahnjakeiaaDoor
