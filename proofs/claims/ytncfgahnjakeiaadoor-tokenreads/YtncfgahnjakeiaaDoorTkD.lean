/-
  The builder within the reader: String and Reset; endText, add.
-/
import Derived.Test.YtncfgahnjakeiaaDoorTkC
namespace Go.Proofs.YtncfgahnjakeiaaDoor
open Go.RowKit

section
variable {P : Program}
/-- An append whose run is known, at a step of a region that draws its order. -/
theorem step_appR {w w' : World} {ops : Array Oper} {o : Oper} {a : Act} {Kn : Act → World → Prop} {Q : Exit → Act → World → Prop} {E : Prop} (hgd : o.guard = none) (s x : Operand) (t tx : TypeId)
    (ho : o.op = .call { callee := .builtin .append, args := #[s, x], argTypes := #[t, tx] }) (vs vx v : Value) (hs : a.eval s = vs) (hx : a.eval x = vx)
    (hr : (Builtin.append_ #[t, tx] o.type #[vs, vx]).run P w = .ok v w') (h : Kn (a.put o.dst v) w') : if Region.wanted o (yielded ops a.tmps) = true then Oper.wp P o a w Kn Q else E := by
  have hw : Region.wanted o (yielded ops a.tmps) = true := by simp [Region.wanted, hgd]
  rw [if_pos hw]
  unfold Oper.wp execOp
  simp only [ho, resolve, invoke, builtin, Sem.run_bind, Sem.run_pure, Result.andThen_ok, List.map_toArray, List.map_cons, List.map_nil, hs, hx, hr]
  exact h
end

/-- String, where something was written. -/
theorem strT_any (p : Nat) (ba : Option Addr) (bc : Nat) (l : List UInt8) (w : World) (hc : w.cell? ⟨p, 5, none⟩ = some (.slice ba l.length bc)) (K : Nat → Prop) (how : Own K w 5 ba l.length bc (bvs l)) (h0 : l ≠ []) (hl : l.length ≤ 1000000000) :
    Calls Tryd.prog 33 #[.pointer (some ⟨p, 4, none⟩)] w fun e w' => e = .returned (sv l) ∧ Kept (fun k => ¬ blkOf ba k) w w' ∧ w'.heap.size = w.heap.size := by
  have hn0 : l.length ≠ 0 := by simpa using h0
  rcases how.2.2.2 with ⟨rfl, rfl⟩ | ⟨g, cur, rfl, hKg, hg, hcs, htk⟩
  · have := how.2.1
    omega
  · have hlc : l.length ≤ bc := how.2.1
    have c1 : w.drew.cell? ⟨p, 5, none⟩ = some (.slice (some ⟨g, 0, none⟩) l.length bc) := hc
    have hSD : (Builtin.unsafeSliceData_ #[34] 76 #[.slice (some ⟨g, 0, none⟩) l.length bc]).run Tryd.prog w.drew = .ok (.pointer (some ⟨g, 0, none⟩)) w.drew :=
      Lib.run_unsafeSliceData_row _ _ _ _ _ _ (by omega)
    have hUS : (Builtin.unsafeString_ #[76, 3] 9 #[.pointer (some ⟨g, 0, none⟩), .int .i64 l.length]).run Tryd.prog w.drew = .ok (.string ⟨l.toArray⟩) (w.drew.freeze ⟨g, 0, none⟩ l.length) := by
      refine Lib.run_unsafeString_row w.drew 76 3 9 5 Tryd.underlying76 cellsY g cur.size (by have hg' : w.drew.heap[g]? = some (.cells cur 5 (0, 0)) := hg; simp [World.shape?, hg']) l h0 (by omega) (by omega) ?_
      intro j x hx
      rcases how.cells with ⟨ha, _⟩ | ⟨g', ha, _, _, hc, _⟩
      · cases ha
      · injection ha with ha
        injection ha with ha
        subst ha
        have := hc j (bv x) (by simp [bvs, hx])
        rw [Addr.add_lit, Nat.zero_add]
        exact this
    have hkk : Kept (fun k => ¬ blkOf (some ⟨g, 0, none⟩) k) w (w.drew.freeze ⟨g, 0, none⟩ l.length) := ((Kept.refl _ w).drew).freeze (p := ⟨g, 0, none⟩) (fun h => h rfl) _
    have hsz : (w.drew.freeze ⟨g, 0, none⟩ l.length).heap.size = w.heap.size := by
      unfold World.freeze
      split
      · rfl
      · simp
    clear how hg hcs htk hKg h0 hn0 hlc hc
    go_enter Tryd.func33, Tryd.ntmps33
    go_wp2
    go_region
    all_goals (go_wp2; go_ret; exact ⟨rfl, hkk, hsz⟩)

theorem resetT_any (p : Nat) (w : World) (u v : Value) (c4 : w.cell? ⟨p, 4, none⟩ = some u) (c5 : w.cell? ⟨p, 5, none⟩ = some v) (f4 : w.frozen? ⟨p, 4, none⟩ = false) (f5 : w.frozen? ⟨p, 5, none⟩ = false) :
    Calls Tryd.prog 34 #[.pointer (some ⟨p, 4, none⟩)] w fun e w' => e = .returned (.tuple #[]) ∧ w' = (w.setCell ⟨p, 4, none⟩ (.pointer none)).setCell ⟨p, 5, none⟩ (.slice none 0 0) := by
  go_enter Tryd.func34, Tryd.ntmps34
  go_wp2
  go_end0
  exact ⟨rfl, rfl⟩

/-- The reader without its builder: two cells hold what they hold; the rows stand apart from G, too. -/
def TKo (K A : Nat → Prop) (w : World) (p : Nat) (st : TS) (v4 v5 : Value) (G : Nat → Prop) : Prop :=
  ¬ K p ∧ (∀ k, A k → K k) ∧ ∃ ta tc tcs fa fc,
    w.heap[p]? = some (.cells #[sv st.rest, .int .i64 (st.pl : Int), .slice ta st.toks.length tc, .slice fa st.flts.length fc, v4, v5, .int .i64 (st.tat : Int)] 47 (0, 0)) ∧
    OwnZ (fun k => K k ∨ k = p ∨ blkOf fa k ∨ G k) w 29 6 ta st.toks.length tc tcs ∧ TokRep A w st.toks tcs ∧
    OwnZ (fun k => K k ∨ k = p ∨ blkOf ta k ∨ G k) w 32 2 fa st.flts.length fc (fltCells st.flts)
theorem TK.apart {K A : Nat → Prop} {w : World} {p : Nat} {st : TS} (h : TK K A w p st) : ∃ bp ba bc, TKo K A w p st (.pointer bp) (.slice ba st.text.length bc) (blkOf ba) ∧ (bp = none ∨ bp = some ⟨p, 4, none⟩) ∧ Own (fun k => K k ∨ k = p) w 5 ba st.text.length bc (bvs st.text) := by
  obtain ⟨h1, hA, ta, tc, tcs, fa, fc, bp, ba, bc, hb, hp, h2, h3, h4, h5⟩ := h
  refine ⟨bp, ba, bc, ⟨h1, hA, ta, tc, tcs, fa, fc, hb, h2, h3, h4⟩, hp, h5.to (fun g hg => ?_) (fun g hg => rfl)⟩
  rintro (hh | rfl)
  · exact (h5.out hg).1 (.inl hh)
  · exact (h5.out hg).1 (.inr (.inl rfl))
theorem TKo.join {K A : Nat → Prop} {w : World} {p : Nat} {st : TS} {bp ba : Option Addr} {bc : Nat} (h : TKo K A w p st (.pointer bp) (.slice ba st.text.length bc) (blkOf ba)) (hp : bp = none ∨ bp = some ⟨p, 4, none⟩) (ho : Own (fun k => K k ∨ k = p) w 5 ba st.text.length bc (bvs st.text)) : TK K A w p st := by
  obtain ⟨h1, hA, ta, tc, tcs, fa, fc, hb, h2, h3, h4⟩ := h
  refine ⟨h1, hA, ta, tc, tcs, fa, fc, bp, ba, bc, hb, hp, h2, h3, h4, ho.to (fun g hg => ?_) (fun g hg => rfl)⟩
  rintro (hh | rfl | hh | hh)
  · exact (ho.out hg).1 (.inl hh)
  · exact (ho.out hg).1 (.inr rfl)
  · exact (h2.out hh).1 (.inr (.inr (.inr hg)))
  · exact (h4.out hh).1 (.inr (.inr (.inr hg)))
/-- What else changes does not matter. -/
theorem TKo.kept {K A G : Nat → Prop} {w w' : World} {p : Nat} {st : TS} {v4 v5 : Value} (h : TKo K A w p st v4 v5 G) (hGK : ∀ g, K g ∨ g = p → ¬ G g) (hk : Kept (fun k => k < w.heap.size ∧ ¬ G k) w w') (hKl : ∀ k, K k → k < w.heap.size) : TKo K A w' p st v4 v5 (fun _ => False) := by
  obtain ⟨h1, hA, ta, tc, tcs, fa, fc, hb, h2, h3, h4⟩ := h
  refine ⟨h1, hA, ta, tc, tcs, fa, fc, (hk.block p ⟨lt_block hb, hGK p (.inr rfl)⟩).trans hb, ?_, ?_, ?_⟩
  · refine h2.to (fun g hg => ?_) (fun g hg => hk.block g ⟨(h2.out hg).2, fun hh => (h2.out hg).1 (.inr (.inr (.inr hh)))⟩)
    rintro (hh | rfl | hh | hh)
    · exact (h2.out hg).1 (.inl hh)
    · exact (h2.out hg).1 (.inr (.inl rfl))
    · exact (h2.out hg).1 (.inr (.inr (.inl hh)))
    · exact hh
  · exact h3.kept (hk.mono fun k hk => ⟨hKl k (hA k hk), hGK k (.inl (hA k hk))⟩) (fun _ h => h)
  · refine h4.to (fun g hg => ?_) (fun g hg => hk.block g ⟨(h4.out hg).2, fun hh => (h4.out hg).1 (.inr (.inr (.inr hh)))⟩)
    rintro (hh | rfl | hh | hh)
    · exact (h4.out hg).1 (.inl hh)
    · exact (h4.out hg).1 (.inr (.inl rfl))
    · exact (h4.out hg).1 (.inr (.inr (.inl hh)))
    · exact hh
theorem TKo.set {K A G : Nat → Prop} {w : World} {p : Nat} {st : TS} {v4 v5 : Value} (h : TKo K A w p st v4 v5 G) (i : Nat) (v v4' v5' : Value) (hv : ∀ a b c d e, (#[a, b, c, d, v4, v5, e] : Array Value).setIfInBounds i v = #[a, b, c, d, v4', v5', e]) : TKo K A (w.setCell ⟨p, i, none⟩ v) p st v4' v5' G := by
  obtain ⟨h1, hA, ta, tc, tcs, fa, fc, hb, h2, h3, h4⟩ := h
  have oth : ∀ g, g ≠ p → (w.setCell ⟨p, i, none⟩ v).heap[g]? = w.heap[g]? := fun g hg => Below.heap_setCell _ _ _ _ (fun e => hg e)
  refine ⟨h1, hA, ta, tc, tcs, fa, fc, ?_, ?_, ?_, ?_⟩
  · rw [heap_setCell_at hb, hv]
  · exact h2.to (fun g hg => (h2.out hg).1) (fun g hg => oth g fun e => (h2.out hg).1 (.inr (.inl e)))
  · exact h3.kept (((Kept.refl K w).setCell (p := ⟨p, i, none⟩) h1 v).mono hA) (fun _ h => h)
  · exact h4.to (fun g hg => (h4.out hg).1) (fun g hg => oth g fun e => (h4.out hg).1 (.inr (.inl e)))

theorem tok_one (t : Tk) (aa : Option Addr) (ac : Nat) : ∀ u ∈ tokCells t aa ac, u.oneCell' = true := by
  intro u hu
  simp only [tokCells, List.mem_cons, List.not_mem_nil, or_false] at hu
  rcases hu with rfl | rfl | rfl | rfl | rfl | rfl <;> rfl

/-- A token is appended: the reader's row of tokens, anew. -/
theorem TKo.appT {K A G : Nat → Prop} {w : World} {p : Nat} {st : TS} {v4 v5 : Value} (h : TKo K A w p st v4 v5 G) (hKl : ∀ k, K k → k < w.heap.size) (hGl : ∀ k, G k → k < w.heap.size) (hn : st.toks.length ≤ 1000000000) (t : Tk) (aa : Option Addr) (ac : Nat) (ha : AtsIn A w aa t.attrs) :
    ∃ ta tc, w.cell? ⟨p, 2, none⟩ = some (.slice ta st.toks.length tc) ∧ ∃ ta' tc' w', (Builtin.append_ #[23, 23] 23 #[.slice ta st.toks.length tc, .slice (some ⟨w.heap.size, 0, none⟩) 1 1]).run Tryd.prog (w.alloc (.cells (tokCells t aa ac).toArray 29)) = .ok (.slice ta' (st.toks.length + 1) tc') w' ∧
      w'.cell? ⟨p, 2, none⟩ = some (.slice ta st.toks.length tc) ∧ w'.frozen? ⟨p, 2, none⟩ = false ∧ TKo K A (w'.setCell ⟨p, 2, none⟩ (.slice ta' (st.toks.length + 1) tc')) p { st with toks := st.toks ++ [t] } v4 v5 G ∧ Kept K w (w'.setCell ⟨p, 2, none⟩ (.slice ta' (st.toks.length + 1) tc')) ∧ (∀ g, G g → g ≠ p → (w'.setCell ⟨p, 2, none⟩ (.slice ta' (st.toks.length + 1) tc')).heap[g]? = w.heap[g]?) := by
  obtain ⟨h1, hA, ta, tc, tcs, fa, fc, hb, h2, h3, h4⟩ := h
  refine ⟨ta, tc, by rw [cell_block hb]; rfl, ?_⟩
  obtain ⟨i, hi, hip⟩ := Option.map_eq_some_iff.1 infoT
  have hz : i.zero = some (.agg #[.int .u8 0, .string ⟨#[]⟩, .slice none 0 0, .bool false, .string ⟨#[]⟩, .int .i64 0]) := congrArg (·.1) hip
  have hsz : i.size = 6 := congrArg (·.2.1) hip
  have hby : i.bytes = 80 := congrArg (·.2.2) hip
  obtain ⟨W, hW⟩ : ∃ W, w.alloc (.cells (tokCells t aa ac).toArray 29) = W := ⟨_, rfl⟩
  rw [hW]
  have hsrc : Src Tryd.prog 6 23 (.slice (some ⟨w.heap.size, 0, none⟩) 1 1) 1 (tokCells t aa ac) W := by
    rw [← hW]
    exact src_newZ w w.heap.size (tokCells t aa ac) _ Tryd.underlying23 (tok_one t aa ac) rfl rfl
  have keep : ∀ g, g < w.heap.size → W.heap[g]? = w.heap[g]? := fun g hg => by rw [← hW]; exact Below.heap_alloc _ _ _ hg
  have hsW : w.heap.size ≤ W.heap.size := by rw [← hW]; simp
  have hS : ∀ g, (K g ∨ g = p ∨ blkOf fa g ∨ G g) → g < w.heap.size := by
    rintro g (hg | rfl | hg | hg)
    · exact hKl g hg
    · exact lt_block hb
    · exact (h4.out hg).2
    · exact hGl g hg
  obtain ⟨ta', tc', w', hr, ho, hk⟩ := run_appZ (P := Tryd.prog) W 23 23 23 29 i _ Tryd.underlying23 hi hz 6 hsz rfl (by omega)
    (h2.to (w' := W) (fun g hg => (h2.out hg).1) (fun g hg => keep g (h2.out hg).2)) _ _ hsrc (fun g hg => Nat.lt_of_lt_of_le (hS g hg) hsW) hn
  have hk2 : Kept (fun k => K k ∨ k = p ∨ blkOf fa k ∨ G k) w w' := by
    refine Kept.trans ?_ hk
    rw [← hW]
    exact (Kept.refl _ w).alloc hS _
  have hb' : w'.heap[p]? = some (.cells _ 47 (0, 0)) := (hk2.block p (.inr (.inl rfl))).trans hb
  have oth : ∀ g v, g ≠ p → (w'.setCell ⟨p, 2, none⟩ v).heap[g]? = w'.heap[g]? := fun g v hg => Below.heap_setCell _ _ _ _ (fun e => hg e)
  have hK2 : Kept K w (w'.setCell ⟨p, 2, none⟩ (.slice ta' (st.toks.length + 1) tc')) := (hk2.mono fun _ h => .inl h).setCell (p := ⟨p, 2, none⟩) h1 _
  refine ⟨ta', tc', w', hr, by rw [cell_block hb']; rfl, frozen_block hb' _, ?_, hK2, fun g hg hgp => ?_⟩
  · have e1 : (st.toks ++ [t]).length = st.toks.length + 1 := by simp
    refine ⟨h1, hA, ta', tc', tcs ++ tokCells t aa ac, fa, fc, ?_, ?_, ?_, ?_⟩
    · rw [heap_setCell_at hb']
      simp only [e1]
      rfl
    · show OwnZ _ _ _ _ _ (st.toks ++ [t]).length _ _
      rw [e1]
      exact ho.to (fun g hg => (ho.out hg).1) (fun g hg => oth g _ fun e => (ho.out hg).1 (.inr (.inl e)))
    · exact TokRep.snoc (ha.kept (hK2.mono hA) (fun _ h => h)) (h3.kept (hK2.mono hA) (fun _ h => h))
    · refine h4.to (fun g hg => ?_) (fun g hg => ?_)
      · rintro (hh | rfl | hh | hh)
        · exact (h4.out hg).1 (.inl hh)
        · exact (h4.out hg).1 (.inr (.inl rfl))
        · exact (ho.out hh).1 (.inr (.inr (.inl hg)))
        · exact (h4.out hg).1 (.inr (.inr (.inr hh)))
      · rw [oth g _ (fun e => (h4.out hg).1 (.inr (.inl e)))]
        exact hk2.block g (.inr (.inr (.inl hg)))
  · rw [oth g _ hgp]
    exact hk2.block g (.inr (.inr (.inr hg)))
end Go.Proofs.YtncfgahnjakeiaaDoor
