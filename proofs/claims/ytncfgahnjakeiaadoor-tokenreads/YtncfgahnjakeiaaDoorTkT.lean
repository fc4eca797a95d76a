/-
  A row of attributes becomes a token's; a cell of what is kept is written; how far attr reads, and tagF.
-/
import Derived.Test.YtncfgahnjakeiaaDoorTkQ
namespace Go.Proofs.YtncfgahnjakeiaaDoor
open Go.RowKit

theorem TK.reA {K K' A A' : Nat → Prop} {w : World} {p : Nat} {st : TS} (h : TK K A w p st) (hK : ∀ k, K' k → K k) (hA : ∀ k, A k → A' k) (hA' : ∀ k, A' k → K' k) : TK K' A' w p st := by
  obtain ⟨h1, _, ta, tc, tcs, fa, fc, bp, ba, bc, hp, hq, h2, h3, h4, h5⟩ := h
  refine ⟨fun hh => h1 (hK _ hh), hA', ta, tc, tcs, fa, fc, bp, ba, bc, hp, hq, h2.to (fun g hg => ?_) (fun _ _ => rfl), h3.kept (Kept.refl _ w) hA, h4.to (fun g hg => ?_) (fun _ _ => rfl), h5.to (fun g hg => ?_) (fun _ _ => rfl)⟩
  · rintro (hh | hh)
    · exact (h2.out hg).1 (.inl (hK _ hh))
    · exact (h2.out hg).1 (.inr hh)
  · rintro (hh | hh)
    · exact (h4.out hg).1 (.inl (hK _ hh))
    · exact (h4.out hg).1 (.inr hh)
  · rintro (hh | hh)
    · exact (h5.out hg).1 (.inl (hK _ hh))
    · exact (h5.out hg).1 (.inr hh)

theorem TX.setK {K : Nat → Prop} {w : World} {p : Nat} {st : TS} (h : TX K w p st) {b : Nat} (hb : K b) (h0 : b ≠ 0) (h1 : b ≠ 1) (i : Nat) (v : Value) : TX K (w.setCell ⟨b, i, none⟩ v) p st := by
  obtain ⟨⟨t1, t2, t3⟩, l1, A, l2, l3⟩ := h
  have oth : ∀ g, g ≠ b → (w.setCell ⟨b, i, none⟩ v).heap[g]? = w.heap[g]? := fun g hg => Below.heap_setCell _ _ _ _ (fun e => hg e)
  have hk : Kept (fun k => k ≠ b) w (w.setCell ⟨b, i, none⟩ v) := (Kept.refl _ w).setCell (p := ⟨b, i, none⟩) (fun h => h rfl) v
  have hs : (w.setCell ⟨b, i, none⟩ v).heap.size = w.heap.size := by simp
  refine ⟨⟨t1.kept hk (Ne.symm h0) (Ne.symm h1), t2, t3⟩, fun k hk => by rw [hs]; exact l1 k hk, A, fun k hk => by rw [hs]; exact l2 k hk, ?_⟩
  exact l3.move (fun g _ hg => oth g fun e => hg (.inl (e ▸ hb))) (fun _ hh _ => hh) (fun _ hh => .inr hh) (hk.mono fun k hk e => (l2 k hk).2 (e ▸ hb))

/-- A token with attributes is added. -/
theorem addA (K : Nat → Prop) (p : Nat) (st : TS) (w : World) (attrs : List Atr) (aa : Option Addr) (ac : Nat) (h : TX (fun k => K k ∨ blkOf aa k) w p st) (ho : OwnZ K w 36 2 aa attrs.length ac (atrCells attrs)) (hn : pot st ≤ 1000000000) (kind : Nat) (name : List UInt8) (self : Bool) (a : Nat) (h0 : K 0) (h1 : K 1) :
    Calls Tryd.prog 73 #[.pointer (some ⟨p, 0, none⟩), .agg #[.int .u8 (kind : Int), sv name, .slice aa attrs.length ac, .bool self, sv [], .int .i64 (a : Int)]] w fun e w' => e = .returned (.tuple #[]) ∧ TX K w' p (st.add ⟨kind, name, attrs, self, [], a⟩) ∧ Kept K w w' := by
  obtain ⟨⟨t1, _, _⟩, l1, A, l2, l3⟩ := h
  have hats := ho.ats
  have h3 : TK (fun k => K k ∨ (A k ∨ blkOf aa k)) (fun k => A k ∨ blkOf aa k) w p st := by
    refine l3.reA ?_ (fun _ h => .inl h) (fun _ h => .inr h)
    rintro k (hh | hh | hh)
    · exact .inl (.inl hh)
    · exact .inr hh
    · exact .inl (.inr hh)
  have hlt : ∀ k, (K k ∨ (A k ∨ blkOf aa k)) → k < w.heap.size := by
    rintro k (hh | hh | hh)
    · exact l1 k (.inl hh)
    · exact (l2 k hh).1
    · exact (ho.out hh).2
  have ha : AtsIn (fun k => A k ∨ blkOf aa k) w aa attrs := by
    intro j hj
    obtain ⟨g, e1, _, e3⟩ := hats j hj
    exact ⟨g, e1, .inr e1, e3⟩
  refine (add_any _ _ p st w h3 hlt hn ⟨kind, name, attrs, self, [], a⟩ aa ac ha).mono ?_
  rintro e w' ⟨rfl, q1, q2⟩
  refine ⟨rfl, ⟨⟨t1.kept q2 (.inl h0) (.inl h1), h0, h1⟩, fun k hk => Nat.lt_of_lt_of_le (hlt k (.inl hk)) q2.size, fun k => A k ∨ blkOf aa k, fun k hk => ⟨Nat.lt_of_lt_of_le (hlt k (.inr hk)) q2.size, ?_⟩, q1⟩, q2.mono fun _ h => .inl h⟩
  rcases hk with hk | hk
  · exact fun hh => (l2 k hk).2 (.inl hh)
  · exact (ho.out hk).1

/-! ### How far is read -/
theorem val2_le (st : TS) : st.val2.st.rest.length ≤ st.rest.length := by
  have cu : ∀ (s : TS) n, (s.cut n).rest.length ≤ s.rest.length := fun s n => by simp only [TS.cut, List.length_drop]; omega
  have ci : ∀ (s : TS) f, (s.cutIf f).rest.length ≤ s.rest.length := fun s f => by unfold TS.cutIf; split; exact cu _ _; exact Nat.le_refl _
  unfold TS.val2
  repeat' split
  · exact Nat.le_trans (ci _ _) (Nat.le_trans (cu _ _) (cu _ _))
  · exact Nat.le_trans (ci _ _) (Nat.le_trans (cu _ _) (cu _ _))
  · exact Nat.le_refl _
  · exact cu _ _
theorem value_le (st : TS) : st.value.st.rest.length ≤ st.rest.length := by
  have cu : ∀ (s : TS) n, (s.cut n).rest.length ≤ s.rest.length := fun s n => by simp only [TS.cut, List.length_drop]; omega
  unfold TS.value
  split
  · exact Nat.le_trans (val2_le _) (Nat.le_trans (cu _ _) (Nat.le_trans (cu _ _) (cu _ _)))
  · exact cu _ _
theorem first_lt {st : TS} (h : st.rest ≠ []) : st.first.rest.length < st.rest.length := by
  have : 0 < st.rest.length := List.length_pos_iff.2 h
  unfold TS.first
  split <;> simp only [TS.flt, TS.cut, List.length_drop] <;> omega
theorem attr_lt {st : TS} (h : st.rest ≠ []) (attrs : List Atr) : (st.attr attrs).st.rest.length < st.rest.length := by
  have h1 := first_lt h
  have h2 := value_le (st.first.cutTo (hdIn atE))
  have h3 : (st.first.cutTo (hdIn atE)).rest.length ≤ st.first.rest.length := by simp only [TS.cutTo, TS.cut, List.length_drop]; omega
  unfold TS.attr
  split
  · split
    · show (TS.flt _ _ _).rest.length < _
      exact Nat.lt_of_le_of_lt (Nat.le_trans h2 h3) h1
    · exact Nat.lt_of_le_of_lt (Nat.le_trans h2 h3) h1
  · exact Nat.lt_of_le_of_lt (Nat.le_trans h2 h3) h1
theorem Fit.attr {b : Nat} {st : TS} (h : Fit b st) (hne : st.rest ≠ []) (attrs : List Atr) : Fit b (st.attr attrs).st := by
  have hp : 0 < st.rest.length := List.length_pos_iff.2 hne
  have hb : 16 ≤ b := by have := h.room; unfold pot at this; omega
  have f0 := h.cut (n := 1) (by omega)
  have f1 : Fit (b - 16 + 1) st.first := by
    unfold TS.first
    split
    · exact f0.flt _ _
    · exact f0.mono (by omega)
  have f3 := (f1.cutTo (hdIn atE)).value.1
  unfold TS.attr
  split
  · split
    · exact (f3.flt 5 st.pl).mono (by omega)
    · exact f3.mono (by omega)
  · exact f3.mono (by omega)
theorem attr_few {st : TS} {attrs : List Atr} (h : attrs.length ≤ 50) : (st.attr attrs).attrs.length ≤ 50 := by
  unfold TS.attr
  split
  · split
    · exact h
    · rename_i hn
      have : ¬ 50 ≤ attrs.length := fun hh => hn (.inl hh)
      simp only [List.length_append, List.length_cons, List.length_nil]
      omega
  · exact h
theorem tagF_succ (f : Nat) (st : TS) (attrs : List Atr) : TS.tagF (f + 1) st attrs =
    if (st.cutTo (hdOut sla)).rest = [] then ⟨(st.cutTo (hdOut sla)).flt 6 (st.cutTo (hdOut sla)).pl, attrs, false, false⟩
    else if pre [62] (st.cutTo (hdOut sla)).rest = true then ⟨(st.cutTo (hdOut sla)).cut 1, attrs, (st.front (hdOut sla)).getLast? == some 47, true⟩
    else TS.tagF f ((st.cutTo (hdOut sla)).attr attrs).st ((st.cutTo (hdOut sla)).attr attrs).attrs := rfl
end Go.Proofs.YtncfgahnjakeiaaDoor
