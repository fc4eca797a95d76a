/-
  The reader of the document in memory (DX): what it holds, apart from K; its rows grow.
-/
import Derived.Test.YtffllhohlfblnaaProg
import Derived.Test.YtffllhohlfblnaaSep
import Derived.Test.YtffllhohlfblnaaDP
namespace Go.Proofs.Ytffllhohlfblnaa
open Go.RowKit

section
variable {P : Program}
/-- An append whose run is known, at a step of a region that draws its order. -/
theorem step_appR {w w' : World} {ops : Array Oper} {o : Oper} {a : Act} {Kn : Act → World → Prop} {Q : Exit → Act → World → Prop} {E : Prop} (hgd : o.guard = none) (s x : Operand) (t tx : TypeId)
    (ho : o.op = .call { callee := .builtin .append, args := #[s, x], argTypes := #[t, tx] }) (vs vx v : Value) (hs : a.eval s = vs) (hx : a.eval x = vx)
    (hr : (Builtin.append_ #[t, tx] o.type #[vs, vx]).run P w = .ok v w') (h : Kn (a.put o.dst v) w') : if Region.wanted o (yielded ops a.tmps) = true then Oper.wp P o a w Kn Q else E := by
  have hw : Region.wanted o (yielded ops a.tmps) = true := by simp [Region.wanted, hgd]
  rw [if_pos hw]
  unfold Oper.wp execOp
  simp only [ho, resolve, invoke, builtin, Sem.run_bind, Sem.run_pure, Result.andThen_ok, List.map_toArray, List.map_cons, List.map_nil, hs, hx, hr]
  exact h
end

theorem infoF : (Try.prog.info? 48).map (fun i => (i.zero, i.size, i.bytes)) = some (some (.agg #[.int .u8 0, .int .i64 0]), 2, 16) := by kernel_rfl
theorem infoT : (Try.prog.info? 43).map (fun i => (i.zero, i.size, i.bytes)) = some (some (.agg #[.int .u8 0, .string ⟨#[]⟩, .slice none 0 0, .bool false, .string ⟨#[]⟩, .int .i64 0]), 6, 80) := by kernel_rfl
theorem infoA : (Try.prog.info? 41).map (fun i => (i.zero, i.size, i.bytes)) = some (some (.agg #[.string ⟨#[]⟩, .string ⟨#[]⟩]), 2, 32) := by kernel_rfl
theorem infoB : (Try.prog.info? 5).map (fun i => (i.zero, i.size, i.bytes)) = some (some (.int .u8 0), 1, 1) := by kernel_rfl
theorem tok_one (t : Tk) (aa : Option Addr) (ac : Nat) : ∀ u ∈ tokCells t aa ac, u.oneCell' = true := by
  intro u hu
  simp only [tokCells, List.mem_cons, List.not_mem_nil, or_false] at hu
  rcases hu with rfl | rfl | rfl | rfl | rfl | rfl <;> rfl

/-- The rows of the document's reader. -/
abbrev dRows (st : TS) (ta : Option Addr) (tc : Nat) (tcs : List Value) (fa : Option Addr) (fc : Nat) (ba : Option Addr) (bc : Nat) : List Row :=
  [⟨43, 6, ta, st.toks.length, tc, tcs⟩, ⟨48, 2, fa, st.flts.length, fc, fltCells st.flts⟩, ⟨5, 1, ba, st.text.length, bc, bvs st.text⟩]
/-- THE DOCUMENT'S READER at the block p holds the state st of the text s, in memory apart from K. -/
def DX (s : List UInt8) (K : Nat → Prop) (w : World) (p : Nat) (st : TS) : Prop :=
  (∀ k, K k → k < w.heap.size) ∧ ¬ K p ∧ (st.pl ≤ s.length ∧ st.rest = s.drop st.pl) ∧ ∃ (A : Nat → Prop) (ta : Option Addr) (tc : Nat) (tcs : List Value) (fa : Option Addr) (fc : Nat) (ba : Option Addr) (bc z : Nat),
    (∀ k, A k → k < w.heap.size ∧ ¬ K k ∧ k ≠ p) ∧
    w.heap[p]? = some (.cells #[sv s, .int .i64 (st.pl : Int), .slice ta st.toks.length tc, .slice fa st.flts.length fc, .slice ba st.text.length bc, .int .i64 (z : Int)] 55 (0, 0)) ∧ (st.text ≠ [] → z = st.tat) ∧
    Sep (fun k => K k ∨ k = p ∨ A k) w (dRows st ta tc tcs fa fc ba bc) ∧ TokRep A w st.toks tcs

theorem DX.lt {s : List UInt8} {K : Nat → Prop} {w : World} {p : Nat} {st : TS} (h : DX s K w p st) : ∀ k, K k → k < w.heap.size := h.1
theorem DX.len {s : List UInt8} {K : Nat → Prop} {w : World} {p : Nat} {st : TS} (h : DX s K w p st) : st.pl + st.rest.length = s.length := by
  obtain ⟨_, _, ⟨h1, h2⟩, _⟩ := h
  rw [h2, List.length_drop]
  omega
theorem DX.kept {s : List UInt8} {K : Nat → Prop} {w w' : World} {p : Nat} {st : TS} (h : DX s K w p st) (hk : Kept (fun k => k < w.heap.size) w w') : DX s K w' p st := by
  obtain ⟨h1, h2, h3, A, ta, tc, tcs, fa, fc, ba, bc, z, hA, hb, hz, hS, hr⟩ := h
  exact ⟨fun k hk' => Nat.lt_of_lt_of_le (h1 k hk') hk.size, h2, h3, A, ta, tc, tcs, fa, fc, ba, bc, z, fun k hk' => ⟨Nat.lt_of_lt_of_le (hA k hk').1 hk.size, (hA k hk').2⟩, by rw [hk.block p (lt_block hb)]; exact hb, hz, hS.kept hk, hr.kept (hk.mono fun k hk' => (hA k hk').1) fun _ h => h⟩
theorem DX.alloc {s : List UInt8} {K : Nat → Prop} {w : World} {p : Nat} {st : TS} (h : DX s K w p st) (o : Obj) : DX s K (w.alloc o) p st := h.kept ((Kept.refl _ w).alloc (fun _ h => h) o)
theorem DX.drew {s : List UInt8} {K : Nat → Prop} {w : World} {p : Nat} {st : TS} (h : DX s K w p st) : DX s K w.drew p st := h.kept (Kept.refl _ w).drew
theorem DX.drewN {s : List UInt8} {K : Nat → Prop} {w : World} {p : Nat} {st : TS} (h : DX s K w p st) (n : Nat) : DX s K (w.drewN n) p st := h.kept ((Kept.refl _ w).drewN n)
theorem DX.weaken {s : List UInt8} {K K' : Nat → Prop} {w : World} {p : Nat} {st : TS} (h : DX s K w p st) (hs : ∀ k, K' k → K k) : DX s K' w p st := by
  obtain ⟨h1, h2, h3, A, ta, tc, tcs, fa, fc, ba, bc, z, hA, hb, hz, hS, hr⟩ := h
  refine ⟨fun k hk => h1 k (hs k hk), fun h => h2 (hs _ h), h3, A, ta, tc, tcs, fa, fc, ba, bc, z, fun k hk => ⟨(hA k hk).1, fun h => (hA k hk).2.1 (hs k h), (hA k hk).2.2⟩, hb, hz, hS.weaken ?_, hr⟩
  rintro k (h | h)
  · exact .inl (hs k h)
  · exact .inr h
theorem DX.same {s : List UInt8} {K K' : Nat → Prop} {w : World} {p : Nat} {st : TS} (h : DX s K w p st) (hs : ∀ k, K' k ↔ K k) : DX s K' w p st := h.weaken fun k hk => (hs k).1 hk
/-- What is new is kept, too. -/
theorem DX.more {s : List UInt8} {K K' : Nat → Prop} {w w' : World} {p : Nat} {st : TS} (h : DX s K w p st) (hk : Kept (fun k => k < w.heap.size) w w') (hs : ∀ k, K' k → K k ∨ w.heap.size ≤ k) (hl : ∀ k, K' k → k < w'.heap.size) : DX s K' w' p st := by
  obtain ⟨h1, h2, h3, A, ta, tc, tcs, fa, fc, ba, bc, z, hA, hb, hz, hS, hr⟩ := h
  have hp := lt_block hb
  refine ⟨hl, fun h => ?_, h3, A, ta, tc, tcs, fa, fc, ba, bc, z, fun k hk' => ⟨Nat.lt_of_lt_of_le (hA k hk').1 hk.size, fun h => ?_, (hA k hk').2.2⟩, by rw [hk.block p hp]; exact hb, hz, ?_, hr.kept (hk.mono fun k hk' => (hA k hk').1) fun _ h => h⟩
  · rcases hs _ h with h | h
    · exact h2 h
    · omega
  · rcases hs _ h with h | h
    · exact (hA k hk').2.1 h
    · have := (hA k hk').1
      omega
  · refine hS.to (fun g hg hgl => ?_) (fun g _ hgl => hk.block g hgl)
    rintro (h | h)
    · rcases hs _ h with h | h
      · exact hg (.inl h)
      · omega
    · exact hg (.inr h)
theorem DX.cells {s : List UInt8} {K : Nat → Prop} {w : World} {p : Nat} {st : TS} (h : DX s K w p st) : w.cell? ⟨p, 0, none⟩ = some (sv s) ∧ w.cell? ⟨p, 1, none⟩ = some (.int .i64 (st.pl : Int)) ∧ ∀ i, w.frozen? ⟨p, i, none⟩ = false := by
  obtain ⟨_, _, _, A, ta, tc, tcs, fa, fc, ba, bc, z, _, hb, _⟩ := h
  exact ⟨by rw [cell_block hb]; rfl, by rw [cell_block hb]; rfl, fun i => frozen_block hb i⟩
/-- The place is moved. -/
theorem DX.at_ {s : List UInt8} {K : Nat → Prop} {w : World} {p : Nat} {st : TS} (h : DX s K w p st) {n : Nat} (hn : n ≤ s.length) : DX s K (w.setCell ⟨p, 1, none⟩ (.int .i64 (n : Int))) p { st with rest := s.drop n, pl := n } := by
  obtain ⟨h1, h2, h3, A, ta, tc, tcs, fa, fc, ba, bc, z, hA, hb, hz, hS, hr⟩ := h
  refine ⟨fun k hk => by simpa using h1 k hk, h2, ⟨hn, rfl⟩, A, ta, tc, tcs, fa, fc, ba, bc, z, fun k hk => ⟨by simpa using (hA k hk).1, (hA k hk).2⟩, ?_, hz, hS.setCell (p := ⟨p, 1, none⟩) (.inr (.inl rfl)) _, hr.kept ((Kept.refl A w).setCell (p := ⟨p, 1, none⟩) (fun h => (hA p h).2.2 rfl) _) fun _ h => h⟩
  rw [heap_setCell_at hb]
  rfl
theorem DX.cutAt {s : List UInt8} {K : Nat → Prop} {w : World} {p : Nat} {st : TS} (h : DX s K w p st) {m : Nat} (hm : m ≤ st.rest.length) {n : Int} (hn : n = ((st.pl + m : Nat) : Int)) : DX s K (w.setCell ⟨p, 1, none⟩ (.int .i64 n)) p (st.cut m) ∧ Kept K w (w.setCell ⟨p, 1, none⟩ (.int .i64 n)) := by
  have hl := h.len
  have e : st.cut m = { st with rest := s.drop (st.pl + m), pl := st.pl + m } := by
    unfold TS.cut
    rw [h.2.2.1.2, List.drop_drop]
  rw [hn]
  refine ⟨?_, (Kept.refl K w).setCell (p := ⟨p, 1, none⟩) h.2.1 _⟩
  rw [e]
  exact h.at_ (by omega)
/-- From is set, ahead of a text. -/
theorem DX.from_ {s : List UInt8} {K : Nat → Prop} {w : World} {p : Nat} {st : TS} (h : DX s K w p st) (n : Nat) : DX s K (w.setCell ⟨p, 5, none⟩ (.int .i64 (n : Int))) p { st with tat := n } := by
  obtain ⟨h1, h2, h3, A, ta, tc, tcs, fa, fc, ba, bc, z, hA, hb, hz, hS, hr⟩ := h
  refine ⟨fun k hk => by simpa using h1 k hk, h2, h3, A, ta, tc, tcs, fa, fc, ba, bc, n, fun k hk => ⟨by simpa using (hA k hk).1, (hA k hk).2⟩, ?_, fun _ => rfl, hS.setCell (p := ⟨p, 5, none⟩) (.inr (.inl rfl)) _, hr.kept ((Kept.refl A w).setCell (p := ⟨p, 5, none⟩) (fun h => (hA p h).2.2 rfl) _) fun _ h => h⟩
  rw [heap_setCell_at hb]
  rfl

/-- A token is appended; its attributes lie in B. -/
theorem DX.appT {s : List UInt8} {K B : Nat → Prop} {w : World} {p : Nat} {st : TS} (h : DX s (fun k => K k ∨ B k) w p st) (hBK : ∀ k, B k → ¬ K k) (hn : st.toks.length ≤ 1000000000) (t : Tk) (aa : Option Addr) (ac : Nat) (ha : AtsIn B w aa t.attrs) :
    ∃ ta tc, w.cell? ⟨p, 2, none⟩ = some (.slice ta st.toks.length tc) ∧ (w.alloc (.cells (tokCells t aa ac).toArray 43)).cell? ⟨p, 2, none⟩ = some (.slice ta st.toks.length tc) ∧ ∃ ta' tc' w', (Builtin.append_ #[24, 24] 24 #[.slice ta st.toks.length tc, .slice (some ⟨w.heap.size, 0, none⟩) 1 1]).run Try.prog (w.alloc (.cells (tokCells t aa ac).toArray 43)) = .ok (.slice ta' (st.toks.length + 1) tc') w' ∧
      w'.cell? ⟨p, 2, none⟩ = some (.slice ta st.toks.length tc) ∧ w'.frozen? ⟨p, 2, none⟩ = false ∧ DX s K (w'.setCell ⟨p, 2, none⟩ (.slice ta' (st.toks.length + 1) tc')) p { st with toks := st.toks ++ [t] } ∧ Kept K w (w'.setCell ⟨p, 2, none⟩ (.slice ta' (st.toks.length + 1) tc')) := by
  obtain ⟨h1, h2, h3, A, ta, tc, tcs, fa, fc, ba, bc, z, hA, hb, hz, hS, hr⟩ := h
  have hpl := lt_block hb
  refine ⟨ta, tc, by rw [cell_block hb]; rfl, by rw [cell_block (heap_alloc_past hb _)]; rfl, ?_⟩
  obtain ⟨i, hi, hip⟩ := Option.map_eq_some_iff.1 infoT
  have hz0 : i.zero = some (.agg #[.int .u8 0, .string ⟨#[]⟩, .slice none 0 0, .bool false, .string ⟨#[]⟩, .int .i64 0]) := congrArg (·.1) hip
  have hsz : i.size = 6 := congrArg (·.2.1) hip
  have hby : i.bytes = 80 := congrArg (·.2.2) hip
  obtain ⟨W, hW⟩ : ∃ W, w.alloc (.cells (tokCells t aa ac).toArray 43) = W := ⟨_, rfl⟩
  rw [hW]
  have hsrc : Src Try.prog 6 24 (.slice (some ⟨w.heap.size, 0, none⟩) 1 1) 1 (tokCells t aa ac) W := by
    rw [← hW]
    exact src_newZ w w.heap.size (tokCells t aa ac) _ Try.underlying24 (tok_one t aa ac) rfl rfl
  have kW : Kept (fun k => k < w.heap.size) w W := by rw [← hW]; exact (Kept.refl _ w).alloc (fun _ h => h) _
  have hKl : ∀ k, ((K k ∨ B k) ∨ k = p ∨ A k) → k < w.heap.size := by
    rintro k (hk | rfl | hk)
    · exact h1 k hk
    · exact hpl
    · exact (hA k hk).1
  have hKW : ∀ k, ((K k ∨ B k) ∨ k = p ∨ A k) → k < W.heap.size := fun k hk => Nat.lt_of_lt_of_le (hKl k hk) kW.size
  obtain ⟨ta', tc', w', hrun, hS', hk⟩ := Sep.app (P := Try.prog) (hS.kept kW) (i := 0) (r := ⟨43, 6, ta, st.toks.length, tc, tcs⟩) rfl hKW 24 24 24 i _ Try.underlying24 hi hz0 hsz rfl (by omega) _ _ hsrc hn
  have hkK := (kW.mono hKl).trans ((hS.kept kW).keeps (i := 0) (r := ⟨43, 6, ta, st.toks.length, tc, tcs⟩) rfl hKW hk)
  have hb' : w'.heap[p]? = some (.cells _ 55 (0, 0)) := (hkK.block p (.inr (.inl rfl))).trans hb
  have hp' : ¬ K p := fun h => h2 (.inl h)
  have e1 : (st.toks ++ [t]).length = st.toks.length + 1 := by simp
  have kK : Kept K w (w'.setCell ⟨p, 2, none⟩ (.slice ta' (st.toks.length + 1) tc')) := (hkK.mono fun _ h => .inl (.inl h)).setCell (p := ⟨p, 2, none⟩) hp' _
  have kB : Kept (fun k => A k ∨ B k) w (w'.setCell ⟨p, 2, none⟩ (.slice ta' (st.toks.length + 1) tc')) := by
    refine (hkK.mono ?_).setCell (p := ⟨p, 2, none⟩) ?_ _
    · rintro k (hk | hk)
      · exact .inr (.inr hk)
      · exact .inl (.inr hk)
    · rintro (hk | hk)
      · exact (hA p hk).2.2 rfl
      · exact h2 (.inr hk)
  refine ⟨ta', tc', w', hrun, by rw [cell_block hb']; rfl, frozen_block hb' _, ?_, kK⟩
  refine ⟨fun k hk => Nat.lt_of_lt_of_le (h1 k (.inl hk)) kK.size, hp', h3, fun k => A k ∨ B k, ta', tc', tcs ++ tokCells t aa ac, fa, fc, ba, bc, z, ?_, ?_, hz, ?_, ?_⟩
  · rintro k (hk | hk)
    · exact ⟨Nat.lt_of_lt_of_le (hA k hk).1 kK.size, fun h => (hA k hk).2.1 (.inl h), (hA k hk).2.2⟩
    · exact ⟨Nat.lt_of_lt_of_le (h1 k (.inr hk)) kK.size, hBK k hk, fun e => h2 (.inr (e ▸ hk))⟩
  · rw [heap_setCell_at hb']
    simp only [e1]
    rfl
  · unfold dRows
    simp only [e1]
    refine (hS'.setCell (p := ⟨p, 2, none⟩) (.inr (.inl rfl)) _).weaken ?_
    rintro k (hk | hk | hk | hk)
    · exact .inl (.inl hk)
    · exact .inr (.inl hk)
    · exact .inr (.inr hk)
    · exact .inl (.inr hk)
  · exact TokRep.snoc (ha.kept (kB.mono fun _ h => .inr h) fun _ h => .inr h) (hr.kept (kB.mono fun _ h => .inl h) fun _ h => .inl h)
theorem DX.app0 {s : List UInt8} {K : Nat → Prop} {w : World} {p : Nat} {st : TS} (h : DX s K w p st) (hn : st.toks.length ≤ 1000000000) (kind : Nat) (name data : List UInt8) (self : Bool) (a : Nat) :
    ∃ ta tc, w.cell? ⟨p, 2, none⟩ = some (.slice ta st.toks.length tc) ∧ (w.alloc (.cells #[.int .u8 (kind : Int), sv name, .slice none 0 0, .bool self, sv data, .int .i64 (a : Int)] 43)).cell? ⟨p, 2, none⟩ = some (.slice ta st.toks.length tc) ∧ ∃ ta' tc' w', (Builtin.append_ #[24, 24] 24 #[.slice ta st.toks.length tc, .slice (some ⟨w.heap.size, 0, none⟩) 1 1]).run Try.prog (w.alloc (.cells #[.int .u8 (kind : Int), sv name, .slice none 0 0, .bool self, sv data, .int .i64 (a : Int)] 43)) = .ok (.slice ta' (st.toks.length + 1) tc') w' ∧
      w'.cell? ⟨p, 2, none⟩ = some (.slice ta st.toks.length tc) ∧ w'.frozen? ⟨p, 2, none⟩ = false ∧ DX s K (w'.setCell ⟨p, 2, none⟩ (.slice ta' (st.toks.length + 1) tc')) p { st with toks := st.toks ++ [⟨kind, name, [], self, data, a⟩] } ∧ Kept K w (w'.setCell ⟨p, 2, none⟩ (.slice ta' (st.toks.length + 1) tc')) :=
  (h.same (K' := fun k => K k ∨ False) (by simp)).appT (B := fun _ => False) (fun _ h => h.elim) hn ⟨kind, name, [], self, data, a⟩ none 0 (AtsIn.nil _ _ _)
/-- A fault is appended. -/
theorem DX.appF {s : List UInt8} {K : Nat → Prop} {w : World} {p : Nat} {st : TS} (h : DX s K w p st) (hn : st.flts.length ≤ 1000000000) (k a : Nat) :
    ∃ fa fc, w.cell? ⟨p, 3, none⟩ = some (.slice fa st.flts.length fc) ∧ (w.alloc (.cells #[.int .u8 (k : Int), .int .i64 (a : Int)] 48)).cell? ⟨p, 3, none⟩ = some (.slice fa st.flts.length fc) ∧ ∃ fa' fc' w', (Builtin.append_ #[25, 25] 25 #[.slice fa st.flts.length fc, .slice (some ⟨w.heap.size, 0, none⟩) 1 1]).run Try.prog (w.alloc (.cells #[.int .u8 (k : Int), .int .i64 (a : Int)] 48)) = .ok (.slice fa' (st.flts.length + 1) fc') w' ∧
      w'.cell? ⟨p, 3, none⟩ = some (.slice fa st.flts.length fc) ∧ w'.frozen? ⟨p, 3, none⟩ = false ∧ DX s K (w'.setCell ⟨p, 3, none⟩ (.slice fa' (st.flts.length + 1) fc')) p (st.flt k a) ∧ Kept K w (w'.setCell ⟨p, 3, none⟩ (.slice fa' (st.flts.length + 1) fc')) := by
  obtain ⟨h1, h2, h3, A, ta, tc, tcs, fa, fc, ba, bc, z, hA, hb, hz, hS, hr⟩ := h
  have hpl := lt_block hb
  refine ⟨fa, fc, by rw [cell_block hb]; rfl, by rw [cell_block (heap_alloc_past hb _)]; rfl, ?_⟩
  obtain ⟨i, hi, hip⟩ := Option.map_eq_some_iff.1 infoF
  have hz0 : i.zero = some (.agg #[.int .u8 0, .int .i64 0]) := congrArg (·.1) hip
  have hsz : i.size = 2 := congrArg (·.2.1) hip
  have hby : i.bytes = 16 := congrArg (·.2.2) hip
  obtain ⟨W, hW⟩ : ∃ W, w.alloc (.cells #[.int .u8 (k : Int), .int .i64 (a : Int)] 48) = W := ⟨_, rfl⟩
  rw [hW]
  have hsrc : Src Try.prog 2 25 (.slice (some ⟨w.heap.size, 0, none⟩) 1 1) 1 [.int .u8 (k : Int), .int .i64 (a : Int)] W := by
    rw [← hW]
    exact src_newZ w w.heap.size [.int .u8 (k : Int), .int .i64 (a : Int)] _ Try.underlying25 (by intro u hu; simp at hu; rcases hu with rfl | rfl <;> rfl) rfl rfl
  have kW : Kept (fun k => k < w.heap.size) w W := by rw [← hW]; exact (Kept.refl _ w).alloc (fun _ h => h) _
  have hKl : ∀ k, (K k ∨ k = p ∨ A k) → k < w.heap.size := by
    rintro k (hk | rfl | hk)
    · exact h1 k hk
    · exact hpl
    · exact (hA k hk).1
  have hKW : ∀ k, (K k ∨ k = p ∨ A k) → k < W.heap.size := fun k hk => Nat.lt_of_lt_of_le (hKl k hk) kW.size
  obtain ⟨fa', fc', w', hrun, hS', hk⟩ := Sep.app (P := Try.prog) (hS.kept kW) (i := 1) (r := ⟨48, 2, fa, st.flts.length, fc, fltCells st.flts⟩) rfl hKW 25 25 25 i _ Try.underlying25 hi hz0 hsz rfl (by omega) _ _ hsrc hn
  have hkK := (kW.mono hKl).trans ((hS.kept kW).keeps (i := 1) (r := ⟨48, 2, fa, st.flts.length, fc, fltCells st.flts⟩) rfl hKW hk)
  have hb' : w'.heap[p]? = some (.cells _ 55 (0, 0)) := (hkK.block p (.inr (.inl rfl))).trans hb
  have e1 : (st.flt k a).flts.length = st.flts.length + 1 := by simp [TS.flt]
  have e2 : fltCells (st.flt k a).flts = fltCells st.flts ++ [.int .u8 (k : Int), .int .i64 (a : Int)] := by
    simp only [TS.flt, fltCells_append]
    rfl
  have kK : Kept K w (w'.setCell ⟨p, 3, none⟩ (.slice fa' (st.flts.length + 1) fc')) := (hkK.mono fun _ h => .inl h).setCell (p := ⟨p, 3, none⟩) h2 _
  have kA : Kept A w (w'.setCell ⟨p, 3, none⟩ (.slice fa' (st.flts.length + 1) fc')) := (hkK.mono fun _ h => .inr (.inr h)).setCell (p := ⟨p, 3, none⟩) (fun h => (hA p h).2.2 rfl) _
  refine ⟨fa', fc', w', hrun, by rw [cell_block hb']; rfl, frozen_block hb' _, ?_, kK⟩
  refine ⟨fun k hk => Nat.lt_of_lt_of_le (h1 k hk) kK.size, h2, h3, A, ta, tc, tcs, fa', fc', ba, bc, z, fun k hk => ⟨Nat.lt_of_lt_of_le (hA k hk).1 kK.size, (hA k hk).2⟩, ?_, hz, ?_, hr.kept kA fun _ h => h⟩
  · rw [heap_setCell_at hb', e1]
    rfl
  · unfold dRows
    rw [e1, e2]
    exact hS'.setCell (p := ⟨p, 3, none⟩) (.inr (.inl rfl)) _
/-- Bytes are appended to the text. -/
theorem DX.appX {s : List UInt8} {K : Nat → Prop} {w : World} {p : Nat} {st : TS} (h : DX s K w p st) (t : List UInt8) (hn : st.text.length + t.length ≤ 1000000000) (hf : st.text = [] → t ≠ [] → w.cell? ⟨p, 5, none⟩ = some (.int .i64 (st.tat : Int))) :
    ∃ ba bc, w.cell? ⟨p, 4, none⟩ = some (.slice ba st.text.length bc) ∧ ∃ ba' bc' w', (Builtin.append_ #[53, 9] 53 #[.slice ba st.text.length bc, sv t]).run Try.prog w = .ok (.slice ba' (st.text.length + t.length) bc') w' ∧
      w'.cell? ⟨p, 4, none⟩ = some (.slice ba st.text.length bc) ∧ w'.frozen? ⟨p, 4, none⟩ = false ∧ DX s K (w'.setCell ⟨p, 4, none⟩ (.slice ba' (st.text.length + t.length) bc')) p { st with text := st.text ++ t } ∧ Kept K w (w'.setCell ⟨p, 4, none⟩ (.slice ba' (st.text.length + t.length) bc')) := by
  obtain ⟨h1, h2, h3, A, ta, tc, tcs, fa, fc, ba, bc, z, hA, hb, hz, hS, hr⟩ := h
  have hpl := lt_block hb
  refine ⟨ba, bc, by rw [cell_block hb]; rfl, ?_⟩
  obtain ⟨i, hi, hip⟩ := Option.map_eq_some_iff.1 infoB
  have hz0 : i.zero = some (.int .u8 0) := congrArg (·.1) hip
  have hsz : i.size = 1 := congrArg (·.2.1) hip
  have hby : i.bytes = 1 := congrArg (·.2.2) hip
  have hKl : ∀ k, (K k ∨ k = p ∨ A k) → k < w.heap.size := by
    rintro k (hk | rfl | hk)
    · exact h1 k hk
    · exact hpl
    · exact (hA k hk).1
  have hsrc : Src Try.prog 1 9 (sv t) t.length (bvs t) w := by
    have := Src.ofString (P := Try.prog) w Try.underlying9 ⟨t.toArray⟩
    rw [sv_size] at this
    exact this
  obtain ⟨ba', bc', w', hrun, hS', hk⟩ := Sep.apps (P := Try.prog) hS (i := 2) (r := ⟨5, 1, ba, st.text.length, bc, bvs st.text⟩) rfl hKl rfl 53 9 53 i _ Try.underlying53 hi hz0 hsz rfl _ _ _ hsrc (by unfold maxLen; dsimp only; omega) (by rw [hby]; dsimp only; omega)
  have hkK := hS.keeps (i := 2) (r := ⟨5, 1, ba, st.text.length, bc, bvs st.text⟩) rfl hKl hk
  have hb' : w'.heap[p]? = some (.cells _ 55 (0, 0)) := (hkK.block p (.inr (.inl rfl))).trans hb
  have e1 : (st.text ++ t).length = st.text.length + t.length := by simp
  have kK : Kept K w (w'.setCell ⟨p, 4, none⟩ (.slice ba' (st.text.length + t.length) bc')) := (hkK.mono fun _ h => .inl h).setCell (p := ⟨p, 4, none⟩) h2 _
  have kA : Kept A w (w'.setCell ⟨p, 4, none⟩ (.slice ba' (st.text.length + t.length) bc')) := (hkK.mono fun _ h => .inr (.inr h)).setCell (p := ⟨p, 4, none⟩) (fun h => (hA p h).2.2 rfl) _
  have hz' : st.text ++ t ≠ [] → z = st.tat := by
    intro hne
    by_cases h0 : st.text = []
    · have ht : t ≠ [] := by rw [h0] at hne; simpa using hne
      have := hf h0 ht
      rw [cell_block hb] at this
      have this : some (Value.int .i64 (z : Int)) = some (.int .i64 (st.tat : Int)) := this
      exact Int.ofNat_inj.1 (Value.int.inj (Option.some.inj this)).2
    · exact hz h0
  refine ⟨ba', bc', w', hrun, by rw [cell_block hb']; rfl, frozen_block hb' _, ?_, kK⟩
  refine ⟨fun k hk => Nat.lt_of_lt_of_le (h1 k hk) kK.size, h2, h3, A, ta, tc, tcs, fa, fc, ba', bc', z, fun k hk => ⟨Nat.lt_of_lt_of_le (hA k hk).1 kK.size, (hA k hk).2⟩, ?_, hz', ?_, hr.kept kA fun _ h => h⟩
  · rw [heap_setCell_at hb']
    simp only [e1]
    rfl
  · unfold dRows
    simp only [e1, bvs_append]
    exact hS'.setCell (p := ⟨p, 4, none⟩) (.inr (.inl rfl)) _
/-- The text is left. -/
theorem DX.noX {s : List UInt8} {K : Nat → Prop} {w : World} {p : Nat} {st : TS} (h : DX s K w p st) : DX s K (w.setCell ⟨p, 4, none⟩ (.slice none 0 0)) p { st with text := [] } := by
  obtain ⟨h1, h2, h3, A, ta, tc, tcs, fa, fc, ba, bc, z, hA, hb, hz, hS, hr⟩ := h
  refine ⟨fun k hk => by simpa using h1 k hk, h2, h3, A, ta, tc, tcs, fa, fc, none, 0, z, fun k hk => ⟨by simpa using (hA k hk).1, (hA k hk).2⟩, ?_, fun h => absurd rfl h, ?_, hr.kept ((Kept.refl A w).setCell (p := ⟨p, 4, none⟩) (fun h => (hA p h).2.2 rfl) _) fun _ h => h⟩
  · rw [heap_setCell_at hb]
    rfl
  · exact (Sep.setCell (w := w) (K := fun k => K k ∨ k = p ∨ A k) (rs := dRows { st with text := [] } ta tc tcs fa fc none 0) (Sep.set (w' := w) (r' := ⟨5, 1, none, 0, 0, []⟩) hS (i := 2) rfl (OwnZ.nil _ _ _ _) (fun g hg => by cases hg) (fun _ _ _ _ => rfl)) (p := ⟨p, 4, none⟩) (.inr (.inl rfl)) _)
/-- The text, as bytes. -/
theorem DX.text {s : List UInt8} {K : Nat → Prop} {w : World} {p : Nat} {st : TS} (h : DX s K w p st) : ∃ ba bc, w.cell? ⟨p, 4, none⟩ = some (.slice ba st.text.length bc) ∧ (convert 53 9 (.slice ba st.text.length bc)).run Try.prog w = .ok (sv st.text) w ∧ (st.text ≠ [] → w.cell? ⟨p, 5, none⟩ = some (.int .i64 (st.tat : Int))) := by
  obtain ⟨h1, h2, h3, A, ta, tc, tcs, fa, fc, ba, bc, z, hA, hb, hz, hS, hr⟩ := h
  refine ⟨ba, bc, by rw [cell_block hb]; rfl, ?_, fun hne => by rw [cell_block hb, ← hz hne]; rfl⟩
  have ho : OwnZ _ w 5 1 ba st.text.length bc (bvs st.text) := hS.1 2 _ rfl
  exact run_string_own w 53 9 5 Try.underlying53 Try.underlying5 Try.underlying9 (OwnZ.one.1 ho)
end Go.Proofs.Ytffllhohlfblnaa
