/-
  The tree's builder in memory (BX): what it holds, apart from K; its rows grow.
-/
import Derived.Test.YtffllhohlfblnaaProg
import Derived.Test.YtffllhohlfblnaaSep
import Derived.Test.YtffllhohlfblnaaTP
import Derived.Test.YtffllhohlfblnaaBT
namespace Go.Proofs.Ytffllhohlfblnaa
open Go.RowKit

def itCells (x : It) (aa : Option Addr) (ac : Nat) : List Value := [.int .i64 (x.deep : Int), .int .u8 (x.kind : Int), sv x.name, sv x.data, .slice aa x.attrs.length ac]
theorem it_one (x : It) (aa : Option Addr) (ac : Nat) : ∀ u ∈ itCells x aa ac, u.oneCell' = true := by
  intro u hu
  simp only [itCells, List.mem_cons, List.not_mem_nil, or_false] at hu
  rcases hu with rfl | rfl | rfl | rfl | rfl <;> rfl
/-- Items in a row of cells; their attributes lie in K. -/
def ItRep (K : Nat → Prop) (w : World) : List It → List Value → Prop
  | [], cs => cs = []
  | x :: r, cs => ∃ aa ac rest, cs = itCells x aa ac ++ rest ∧ AtsIn K w aa x.attrs ∧ x.attrs.length ≤ ac ∧ ItRep K w r rest
theorem ItRep.kept {K K' : Nat → Prop} {w w' : World} (hk : Kept K w w') (hm : ∀ k, K k → K' k) : ∀ {l : List It} {cs : List Value}, ItRep K w l cs → ItRep K' w' l cs
  | [], _, h => h
  | _ :: _, _, ⟨aa, ac, rest, h1, h2, h3, h4⟩ => ⟨aa, ac, rest, h1, h2.kept hk hm, h3, ItRep.kept hk hm h4⟩
theorem ItRep.snoc {K : Nat → Prop} {w : World} {x : It} {aa : Option Addr} {ac : Nat} (ha : AtsIn K w aa x.attrs) (hc : x.attrs.length ≤ ac) : ∀ {l : List It} {cs : List Value}, ItRep K w l cs → ItRep K w (l ++ [x]) (cs ++ itCells x aa ac)
  | [], cs, h => by
    have h : cs = [] := h
    subst h
    exact ⟨aa, ac, [], by simp, ha, hc, rfl⟩
  | y :: r, cs, ⟨aa', ac', rest, h1, h2, h3, h4⟩ => ⟨aa', ac', rest ++ itCells x aa ac, by rw [h1, List.append_assoc], h2, h3, ItRep.snoc ha hc h4⟩
theorem ItRep.length {K : Nat → Prop} {w : World} : ∀ {l : List It} {cs : List Value}, ItRep K w l cs → cs.length = l.length * 5
  | [], cs, h => by
    have h : cs = [] := h
    subst h; rfl
  | x :: r, cs, ⟨aa, ac, rest, h1, h2, h3, h4⟩ => by
    subst h1
    have := ItRep.length h4
    simp only [List.length_append, List.length_cons, itCells, List.length_nil, this]
    omega
theorem ItRep.get {K : Nat → Prop} {w : World} : ∀ {l : List It} {cs : List Value}, ItRep K w l cs → ∀ (j : Nat) (h : j < l.length), ∃ aa ac, AtsIn K w aa l[j].attrs ∧ l[j].attrs.length ≤ ac ∧ ∀ i u, (itCells l[j] aa ac)[i]? = some u → cs[j * 5 + i]? = some u
  | [], _, _, _, h => absurd h (Nat.not_lt_zero _)
  | x :: r, cs, ⟨aa, ac, rest, h1, h2, h3, h4⟩, j, h => by
    subst h1
    have hl : (itCells x aa ac).length = 5 := rfl
    cases j with
    | zero =>
      refine ⟨aa, ac, h2, h3, fun i u hi => ?_⟩
      have hil : i < 5 := by
        rcases Nat.lt_or_ge i 5 with hh | hh
        · exact hh
        · rw [List.getElem?_eq_none (by rw [show (x :: r)[0] = x from rfl]; omega)] at hi; cases hi
      rw [List.getElem?_append_left (by omega)]
      simpa using hi
    | succ j =>
      obtain ⟨aa', ac', q1, q2, q3⟩ := ItRep.get h4 j (by simpa using h)
      refine ⟨aa', ac', q1, q2, fun i u hi => ?_⟩
      have := q3 i u (by simpa using hi)
      rw [List.getElem?_append_right (by omega), hl, show (j + 1) * 5 + i - 5 = j * 5 + i from by omega]
      exact this

theorem infoI : (Try.prog.info? 38).map (fun i => (i.zero, i.size, i.bytes)) = some (some (.agg #[.int .i64 0, .int .u8 0, .string ⟨#[]⟩, .string ⟨#[]⟩, .slice none 0 0]), 5, 72) := by kernel_rfl
theorem infoF' : (Try.prog.info? 48).map (fun i => (i.zero, i.size, i.bytes)) = some (some (.agg #[.int .u8 0, .int .i64 0]), 2, 16) := by kernel_rfl
theorem infoS : (Try.prog.info? 9).map (fun i => (i.zero, i.size, i.bytes)) = some (some (.string ⟨#[]⟩), 1, 16) := by kernel_rfl

abbrev svs (l : List (List UInt8)) : List Value := l.map fun x => sv x
abbrev bRows (st : BS) (oa : Option Addr) (oc : Nat) (ia : Option Addr) (ic : Nat) (ics : List Value) (fa : Option Addr) (fc : Nat) : List Row :=
  [⟨9, 1, oa, st.opn.length, oc, svs st.opn⟩, ⟨38, 5, ia, st.items.length, ic, ics⟩, ⟨48, 2, fa, st.flts.length, fc, fltCells st.flts⟩]
/-- THE BUILDER at the block p holds the state st, in memory apart from K. -/
def BX (K : Nat → Prop) (w : World) (p : Nat) (st : BS) : Prop :=
  (∀ k, K k → k < w.heap.size) ∧ ¬ K p ∧ ∃ (A : Nat → Prop) (oa : Option Addr) (oc : Nat) (ia : Option Addr) (ic : Nat) (ics : List Value) (fa : Option Addr) (fc : Nat),
    (∀ k, A k → k < w.heap.size ∧ ¬ K k ∧ k ≠ p) ∧
    w.heap[p]? = some (.cells #[.slice oa st.opn.length oc, .slice ia st.items.length ic, .slice fa st.flts.length fc] 63 (0, 0)) ∧
    Sep (fun k => K k ∨ k = p ∨ A k) w (bRows st oa oc ia ic ics fa fc) ∧ ItRep A w st.items ics

theorem BX.lt {K : Nat → Prop} {w : World} {p : Nat} {st : BS} (h : BX K w p st) : ∀ k, K k → k < w.heap.size := h.1
theorem BX.kept {K : Nat → Prop} {w w' : World} {p : Nat} {st : BS} (h : BX K w p st) (hk : Kept (fun k => k < w.heap.size) w w') : BX K w' p st := by
  obtain ⟨h1, h2, A, oa, oc, ia, ic, ics, fa, fc, hA, hb, hS, hr⟩ := h
  exact ⟨fun k hk' => Nat.lt_of_lt_of_le (h1 k hk') hk.size, h2, A, oa, oc, ia, ic, ics, fa, fc, fun k hk' => ⟨Nat.lt_of_lt_of_le (hA k hk').1 hk.size, (hA k hk').2⟩, by rw [hk.block p (lt_block hb)]; exact hb, hS.kept hk, hr.kept (hk.mono fun k hk' => (hA k hk').1) fun _ h => h⟩
theorem BX.alloc {K : Nat → Prop} {w : World} {p : Nat} {st : BS} (h : BX K w p st) (o : Obj) : BX K (w.alloc o) p st := h.kept ((Kept.refl _ w).alloc (fun _ h => h) o)
theorem BX.drew {K : Nat → Prop} {w : World} {p : Nat} {st : BS} (h : BX K w p st) : BX K w.drew p st := h.kept (Kept.refl _ w).drew
theorem BX.drewN {K : Nat → Prop} {w : World} {p : Nat} {st : BS} (h : BX K w p st) (n : Nat) : BX K (w.drewN n) p st := h.kept ((Kept.refl _ w).drewN n)
theorem BX.weaken {K K' : Nat → Prop} {w : World} {p : Nat} {st : BS} (h : BX K w p st) (hs : ∀ k, K' k → K k) : BX K' w p st := by
  obtain ⟨h1, h2, A, oa, oc, ia, ic, ics, fa, fc, hA, hb, hS, hr⟩ := h
  refine ⟨fun k hk => h1 k (hs k hk), fun h => h2 (hs _ h), A, oa, oc, ia, ic, ics, fa, fc, fun k hk => ⟨(hA k hk).1, fun h => (hA k hk).2.1 (hs k h), (hA k hk).2.2⟩, hb, hS.weaken ?_, hr⟩
  rintro k (h | h)
  · exact .inl (hs k h)
  · exact .inr h
theorem BX.same {K K' : Nat → Prop} {w : World} {p : Nat} {st : BS} (h : BX K w p st) (hs : ∀ k, K' k ↔ K k) : BX K' w p st := h.weaken fun k hk => (hs k).1 hk
/-- What is new is kept, too. -/
theorem BX.more {K K' : Nat → Prop} {w w' : World} {p : Nat} {st : BS} (h : BX K w p st) (hk : Kept (fun k => k < w.heap.size) w w') (hs : ∀ k, K' k → K k ∨ w.heap.size ≤ k) (hl : ∀ k, K' k → k < w'.heap.size) : BX K' w' p st := by
  obtain ⟨h1, h2, A, oa, oc, ia, ic, ics, fa, fc, hA, hb, hS, hr⟩ := h
  have hp := lt_block hb
  refine ⟨hl, fun h => ?_, A, oa, oc, ia, ic, ics, fa, fc, fun k hk' => ⟨Nat.lt_of_lt_of_le (hA k hk').1 hk.size, fun h => ?_, (hA k hk').2.2⟩, by rw [hk.block p hp]; exact hb, ?_, hr.kept (hk.mono fun k hk' => (hA k hk').1) fun _ h => h⟩
  · rcases hs _ h with h | h
    · exact h2 h
    · omega
  · rcases hs _ h with h | h
    · exact (hA k hk').2.1 h
    · have := (hA k hk').1
      omega
  · refine hS.to (fun g hg hgl => ?_) (fun g _ hgl => hk.block g hgl)
    rintro (h | h)
    · rcases hs _ h with h | h
      · exact hg (.inl h)
      · omega
    · exact hg (.inr h)
theorem BX.frz {K : Nat → Prop} {w : World} {p : Nat} {st : BS} (h : BX K w p st) (i : Nat) : w.frozen? ⟨p, i, none⟩ = false := by
  obtain ⟨_, _, A, oa, oc, ia, ic, ics, fa, fc, _, hb, _⟩ := h
  exact frozen_block hb i
/-- The three slices. -/
theorem BX.cells {K : Nat → Prop} {w : World} {p : Nat} {st : BS} (h : BX K w p st) : ∃ oa oc ia ic fa fc, w.cell? ⟨p, 0, none⟩ = some (.slice oa st.opn.length oc) ∧ w.cell? ⟨p, 1, none⟩ = some (.slice ia st.items.length ic) ∧ w.cell? ⟨p, 2, none⟩ = some (.slice fa st.flts.length fc) := by
  obtain ⟨_, _, A, oa, oc, ia, ic, ics, fa, fc, _, hb, _⟩ := h
  exact ⟨oa, oc, ia, ic, fa, fc, by rw [cell_block hb]; rfl, by rw [cell_block hb]; rfl, by rw [cell_block hb]; rfl⟩

/-- An item is appended; its attributes lie in B. -/
theorem BX.appI {K B : Nat → Prop} {w : World} {p : Nat} {st : BS} (h : BX (fun k => K k ∨ B k) w p st) (hBK : ∀ k, B k → ¬ K k) (hn : st.items.length ≤ 1000000000) (x : It) (aa : Option Addr) (ac : Nat) (ha : AtsIn B w aa x.attrs) (hac : x.attrs.length ≤ ac) :
    ∃ ia ic, w.cell? ⟨p, 1, none⟩ = some (.slice ia st.items.length ic) ∧ (w.alloc (.cells (itCells x aa ac).toArray 38)).cell? ⟨p, 1, none⟩ = some (.slice ia st.items.length ic) ∧ ∃ ia' ic' w', (Builtin.append_ #[28, 28] 28 #[.slice ia st.items.length ic, .slice (some ⟨w.heap.size, 0, none⟩) 1 1]).run Try.prog (w.alloc (.cells (itCells x aa ac).toArray 38)) = .ok (.slice ia' (st.items.length + 1) ic') w' ∧
      w'.cell? ⟨p, 1, none⟩ = some (.slice ia st.items.length ic) ∧ w'.frozen? ⟨p, 1, none⟩ = false ∧ BX K (w'.setCell ⟨p, 1, none⟩ (.slice ia' (st.items.length + 1) ic')) p { st with items := st.items ++ [x] } ∧ Kept K w (w'.setCell ⟨p, 1, none⟩ (.slice ia' (st.items.length + 1) ic')) := by
  obtain ⟨h1, h2, A, oa, oc, ia, ic, ics, fa, fc, hA, hb, hS, hr⟩ := h
  have hpl := lt_block hb
  refine ⟨ia, ic, by rw [cell_block hb]; rfl, by rw [cell_block (heap_alloc_past hb _)]; rfl, ?_⟩
  obtain ⟨i, hi, hip⟩ := Option.map_eq_some_iff.1 infoI
  have hz0 : i.zero = some (.agg #[.int .i64 0, .int .u8 0, .string ⟨#[]⟩, .string ⟨#[]⟩, .slice none 0 0]) := congrArg (·.1) hip
  have hsz : i.size = 5 := congrArg (·.2.1) hip
  have hby : i.bytes = 72 := congrArg (·.2.2) hip
  obtain ⟨W, hW⟩ : ∃ W, w.alloc (.cells (itCells x aa ac).toArray 38) = W := ⟨_, rfl⟩
  rw [hW]
  have hsrc : Src Try.prog 5 28 (.slice (some ⟨w.heap.size, 0, none⟩) 1 1) 1 (itCells x aa ac) W := by
    rw [← hW]
    exact src_newZ w w.heap.size (itCells x aa ac) _ Try.underlying28 (it_one x aa ac) rfl rfl
  have kW : Kept (fun k => k < w.heap.size) w W := by rw [← hW]; exact (Kept.refl _ w).alloc (fun _ h => h) _
  have hKl : ∀ k, ((K k ∨ B k) ∨ k = p ∨ A k) → k < w.heap.size := by
    rintro k (hk | rfl | hk)
    · exact h1 k hk
    · exact hpl
    · exact (hA k hk).1
  have hKW : ∀ k, ((K k ∨ B k) ∨ k = p ∨ A k) → k < W.heap.size := fun k hk => Nat.lt_of_lt_of_le (hKl k hk) kW.size
  obtain ⟨ia', ic', w', hrun, hS', hk⟩ := Sep.app (P := Try.prog) (hS.kept kW) (i := 1) (r := ⟨38, 5, ia, st.items.length, ic, ics⟩) rfl hKW 28 28 28 i _ Try.underlying28 hi hz0 hsz rfl (by omega) _ _ hsrc hn
  have hkK := (kW.mono hKl).trans ((hS.kept kW).keeps (i := 1) (r := ⟨38, 5, ia, st.items.length, ic, ics⟩) rfl hKW hk)
  have hb' : w'.heap[p]? = some (.cells _ 63 (0, 0)) := (hkK.block p (.inr (.inl rfl))).trans hb
  have hp' : ¬ K p := fun h => h2 (.inl h)
  have e1 : (st.items ++ [x]).length = st.items.length + 1 := by simp
  have kK : Kept K w (w'.setCell ⟨p, 1, none⟩ (.slice ia' (st.items.length + 1) ic')) := (hkK.mono fun _ h => .inl (.inl h)).setCell (p := ⟨p, 1, none⟩) hp' _
  have kB : Kept (fun k => A k ∨ B k) w (w'.setCell ⟨p, 1, none⟩ (.slice ia' (st.items.length + 1) ic')) := by
    refine (hkK.mono ?_).setCell (p := ⟨p, 1, none⟩) ?_ _
    · rintro k (hk | hk)
      · exact .inr (.inr hk)
      · exact .inl (.inr hk)
    · rintro (hk | hk)
      · exact (hA p hk).2.2 rfl
      · exact h2 (.inr hk)
  refine ⟨ia', ic', w', hrun, by rw [cell_block hb']; rfl, frozen_block hb' _, ?_, kK⟩
  refine ⟨fun k hk => Nat.lt_of_lt_of_le (h1 k (.inl hk)) kK.size, hp', fun k => A k ∨ B k, oa, oc, ia', ic', ics ++ itCells x aa ac, fa, fc, ?_, ?_, ?_, ?_⟩
  · rintro k (hk | hk)
    · exact ⟨Nat.lt_of_lt_of_le (hA k hk).1 kK.size, fun h => (hA k hk).2.1 (.inl h), (hA k hk).2.2⟩
    · exact ⟨Nat.lt_of_lt_of_le (h1 k (.inr hk)) kK.size, hBK k hk, fun e => h2 (.inr (e ▸ hk))⟩
  · rw [heap_setCell_at hb']
    simp only [e1]
    rfl
  · unfold bRows
    simp only [e1]
    refine (hS'.setCell (p := ⟨p, 1, none⟩) (.inr (.inl rfl)) _).weaken ?_
    rintro k (hk | hk | hk | hk)
    · exact .inl (.inl hk)
    · exact .inr (.inl hk)
    · exact .inr (.inr hk)
    · exact .inl (.inr hk)
  · exact ItRep.snoc (ha.kept (kB.mono fun _ h => .inr h) fun _ h => .inr h) hac (hr.kept (kB.mono fun _ h => .inl h) fun _ h => .inl h)
/-- A fault is appended. -/
theorem BX.appF {K : Nat → Prop} {w : World} {p : Nat} {st : BS} (h : BX K w p st) (hn : st.flts.length ≤ 1000000000) (k a : Nat) :
    ∃ fa fc, w.cell? ⟨p, 2, none⟩ = some (.slice fa st.flts.length fc) ∧ (w.alloc (.cells #[.int .u8 (k : Int), .int .i64 (a : Int)] 48)).cell? ⟨p, 2, none⟩ = some (.slice fa st.flts.length fc) ∧ ∃ fa' fc' w', (Builtin.append_ #[25, 25] 25 #[.slice fa st.flts.length fc, .slice (some ⟨w.heap.size, 0, none⟩) 1 1]).run Try.prog (w.alloc (.cells #[.int .u8 (k : Int), .int .i64 (a : Int)] 48)) = .ok (.slice fa' (st.flts.length + 1) fc') w' ∧
      w'.cell? ⟨p, 2, none⟩ = some (.slice fa st.flts.length fc) ∧ w'.frozen? ⟨p, 2, none⟩ = false ∧ BX K (w'.setCell ⟨p, 2, none⟩ (.slice fa' (st.flts.length + 1) fc')) p (st.flt k a) ∧ Kept K w (w'.setCell ⟨p, 2, none⟩ (.slice fa' (st.flts.length + 1) fc')) := by
  obtain ⟨h1, h2, A, oa, oc, ia, ic, ics, fa, fc, hA, hb, hS, hr⟩ := h
  have hpl := lt_block hb
  refine ⟨fa, fc, by rw [cell_block hb]; rfl, by rw [cell_block (heap_alloc_past hb _)]; rfl, ?_⟩
  obtain ⟨i, hi, hip⟩ := Option.map_eq_some_iff.1 infoF'
  have hz0 : i.zero = some (.agg #[.int .u8 0, .int .i64 0]) := congrArg (·.1) hip
  have hsz : i.size = 2 := congrArg (·.2.1) hip
  have hby : i.bytes = 16 := congrArg (·.2.2) hip
  obtain ⟨W, hW⟩ : ∃ W, w.alloc (.cells #[.int .u8 (k : Int), .int .i64 (a : Int)] 48) = W := ⟨_, rfl⟩
  rw [hW]
  have hsrc : Src Try.prog 2 25 (.slice (some ⟨w.heap.size, 0, none⟩) 1 1) 1 [.int .u8 (k : Int), .int .i64 (a : Int)] W := by
    rw [← hW]
    exact src_newZ w w.heap.size [.int .u8 (k : Int), .int .i64 (a : Int)] _ Try.underlying25 (by intro u hu; simp at hu; rcases hu with rfl | rfl <;> rfl) rfl rfl
  have kW : Kept (fun k => k < w.heap.size) w W := by rw [← hW]; exact (Kept.refl _ w).alloc (fun _ h => h) _
  have hKl : ∀ k, (K k ∨ k = p ∨ A k) → k < w.heap.size := by
    rintro k (hk | rfl | hk)
    · exact h1 k hk
    · exact hpl
    · exact (hA k hk).1
  have hKW : ∀ k, (K k ∨ k = p ∨ A k) → k < W.heap.size := fun k hk => Nat.lt_of_lt_of_le (hKl k hk) kW.size
  obtain ⟨fa', fc', w', hrun, hS', hk⟩ := Sep.app (P := Try.prog) (hS.kept kW) (i := 2) (r := ⟨48, 2, fa, st.flts.length, fc, fltCells st.flts⟩) rfl hKW 25 25 25 i _ Try.underlying25 hi hz0 hsz rfl (by omega) _ _ hsrc hn
  have hkK := (kW.mono hKl).trans ((hS.kept kW).keeps (i := 2) (r := ⟨48, 2, fa, st.flts.length, fc, fltCells st.flts⟩) rfl hKW hk)
  have hb' : w'.heap[p]? = some (.cells _ 63 (0, 0)) := (hkK.block p (.inr (.inl rfl))).trans hb
  have e1 : (st.flt k a).flts.length = st.flts.length + 1 := by simp [BS.flt]
  have e2 : fltCells (st.flt k a).flts = fltCells st.flts ++ [.int .u8 (k : Int), .int .i64 (a : Int)] := by
    simp only [BS.flt, fltCells_append]
    rfl
  have kK : Kept K w (w'.setCell ⟨p, 2, none⟩ (.slice fa' (st.flts.length + 1) fc')) := (hkK.mono fun _ h => .inl h).setCell (p := ⟨p, 2, none⟩) h2 _
  have kA : Kept A w (w'.setCell ⟨p, 2, none⟩ (.slice fa' (st.flts.length + 1) fc')) := (hkK.mono fun _ h => .inr (.inr h)).setCell (p := ⟨p, 2, none⟩) (fun h => (hA p h).2.2 rfl) _
  refine ⟨fa', fc', w', hrun, by rw [cell_block hb']; rfl, frozen_block hb' _, ?_, kK⟩
  refine ⟨fun k hk => Nat.lt_of_lt_of_le (h1 k hk) kK.size, h2, A, oa, oc, ia, ic, ics, fa', fc', fun k hk => ⟨Nat.lt_of_lt_of_le (hA k hk).1 kK.size, (hA k hk).2⟩, ?_, ?_, hr.kept kA fun _ h => h⟩
  · rw [heap_setCell_at hb', e1]
    rfl
  · unfold bRows
    rw [e1, e2]
    exact hS'.setCell (p := ⟨p, 2, none⟩) (.inr (.inl rfl)) _
/-- One more is open. -/
theorem BX.appO {K : Nat → Prop} {w : World} {p : Nat} {st : BS} (h : BX K w p st) (hn : st.opn.length ≤ 1000000000) (n : List UInt8) :
    ∃ oa oc, w.cell? ⟨p, 0, none⟩ = some (.slice oa st.opn.length oc) ∧ (w.alloc (.cells #[sv n] 9)).cell? ⟨p, 0, none⟩ = some (.slice oa st.opn.length oc) ∧ ∃ oa' oc' w', (Builtin.append_ #[46, 46] 46 #[.slice oa st.opn.length oc, .slice (some ⟨w.heap.size, 0, none⟩) 1 1]).run Try.prog (w.alloc (.cells #[sv n] 9)) = .ok (.slice oa' (st.opn.length + 1) oc') w' ∧
      w'.cell? ⟨p, 0, none⟩ = some (.slice oa st.opn.length oc) ∧ w'.frozen? ⟨p, 0, none⟩ = false ∧ BX K (w'.setCell ⟨p, 0, none⟩ (.slice oa' (st.opn.length + 1) oc')) p { st with opn := st.opn ++ [n] } ∧ Kept K w (w'.setCell ⟨p, 0, none⟩ (.slice oa' (st.opn.length + 1) oc')) := by
  obtain ⟨h1, h2, A, oa, oc, ia, ic, ics, fa, fc, hA, hb, hS, hr⟩ := h
  have hpl := lt_block hb
  refine ⟨oa, oc, by rw [cell_block hb]; rfl, by rw [cell_block (heap_alloc_past hb _)]; rfl, ?_⟩
  obtain ⟨i, hi, hip⟩ := Option.map_eq_some_iff.1 infoS
  have hz0 : i.zero = some (.string ⟨#[]⟩) := congrArg (·.1) hip
  have hsz : i.size = 1 := congrArg (·.2.1) hip
  have hby : i.bytes = 16 := congrArg (·.2.2) hip
  obtain ⟨W, hW⟩ : ∃ W, w.alloc (.cells #[sv n] 9) = W := ⟨_, rfl⟩
  rw [hW]
  have hsrc : Src Try.prog 1 46 (.slice (some ⟨w.heap.size, 0, none⟩) 1 1) 1 [sv n] W := by
    rw [← hW]
    exact src_newZ w w.heap.size [sv n] _ Try.underlying46 (by intro u hu; simp at hu; subst hu; rfl) rfl rfl
  have kW : Kept (fun k => k < w.heap.size) w W := by rw [← hW]; exact (Kept.refl _ w).alloc (fun _ h => h) _
  have hKl : ∀ k, (K k ∨ k = p ∨ A k) → k < w.heap.size := by
    rintro k (hk | rfl | hk)
    · exact h1 k hk
    · exact hpl
    · exact (hA k hk).1
  have hKW : ∀ k, (K k ∨ k = p ∨ A k) → k < W.heap.size := fun k hk => Nat.lt_of_lt_of_le (hKl k hk) kW.size
  obtain ⟨oa', oc', w', hrun, hS', hk⟩ := Sep.app (P := Try.prog) (hS.kept kW) (i := 0) (r := ⟨9, 1, oa, st.opn.length, oc, svs st.opn⟩) rfl hKW 46 46 46 i _ Try.underlying46 hi hz0 hsz rfl (by omega) _ _ hsrc hn
  have hkK := (kW.mono hKl).trans ((hS.kept kW).keeps (i := 0) (r := ⟨9, 1, oa, st.opn.length, oc, svs st.opn⟩) rfl hKW hk)
  have hb' : w'.heap[p]? = some (.cells _ 63 (0, 0)) := (hkK.block p (.inr (.inl rfl))).trans hb
  have e1 : (st.opn ++ [n]).length = st.opn.length + 1 := by simp
  have e2 : svs (st.opn ++ [n]) = svs st.opn ++ [sv n] := by simp
  have kK : Kept K w (w'.setCell ⟨p, 0, none⟩ (.slice oa' (st.opn.length + 1) oc')) := (hkK.mono fun _ h => .inl h).setCell (p := ⟨p, 0, none⟩) h2 _
  have kA : Kept A w (w'.setCell ⟨p, 0, none⟩ (.slice oa' (st.opn.length + 1) oc')) := (hkK.mono fun _ h => .inr (.inr h)).setCell (p := ⟨p, 0, none⟩) (fun h => (hA p h).2.2 rfl) _
  refine ⟨oa', oc', w', hrun, by rw [cell_block hb']; rfl, frozen_block hb' _, ?_, kK⟩
  refine ⟨fun k hk => Nat.lt_of_lt_of_le (h1 k hk) kK.size, h2, A, oa', oc', ia, ic, ics, fa, fc, fun k hk => ⟨Nat.lt_of_lt_of_le (hA k hk).1 kK.size, (hA k hk).2⟩, ?_, ?_, hr.kept kA fun _ h => h⟩
  · rw [heap_setCell_at hb']
    simp only [e1]
    rfl
  · unfold bRows
    simp only [e1]
    rw [e2]
    exact hS'.setCell (p := ⟨p, 0, none⟩) (.inr (.inl rfl)) _
/-- Names lie at an address and behind it. -/
def NamesAt (w : World) (la : Option Addr) (l : List (List UInt8)) : Prop :=
  ∀ j (_ : j < l.length), ∃ g o, la = some ⟨g, o, none⟩ ∧ g < w.heap.size ∧ w.cell? ⟨g, o + j, none⟩ = some (sv l[j])
/-- What is open is cut short; what was cut off lies there still. -/
theorem BX.cutO {K : Nat → Prop} {w : World} {p : Nat} {st : BS} (h : BX K w p st) {k : Nat} (hk : k < st.opn.length) :
    ∃ g oc, w.cell? ⟨p, 0, none⟩ = some (.slice (some ⟨g, 0, none⟩) st.opn.length oc) ∧ st.opn.length ≤ oc ∧ (∀ j (_ : j < st.opn.length), w.cell? ⟨g, j, none⟩ = some (sv st.opn[j])) ∧ g < w.heap.size ∧ g ≠ p ∧
      BX K (w.setCell ⟨p, 0, none⟩ (.slice (some ⟨g, 0, none⟩) k oc)) p { st with opn := st.opn.take k } ∧ Kept K w (w.setCell ⟨p, 0, none⟩ (.slice (some ⟨g, 0, none⟩) k oc)) ∧
      NamesAt (w.setCell ⟨p, 0, none⟩ (.slice (some ⟨g, 0, none⟩) k oc)) (some ⟨g, k, none⟩) (st.opn.drop k) := by
  obtain ⟨h1, h2, A, oa, oc, ia, ic, ics, fa, fc, hA, hb, hS, hr⟩ := h
  have ho : OwnZ _ w 9 1 oa st.opn.length oc (svs st.opn) := hS.1 0 _ rfl
  have hc : ∀ j (_ : j < st.opn.length), ∃ g, oa = some ⟨g, 0, none⟩ ∧ w.cell? ⟨g, j, none⟩ = some (sv st.opn[j]) := fun j hj => OwnZ.cell ho (by simp [svs, hj])
  obtain ⟨g, rfl, -⟩ := hc k hk
  have hgo := OwnZ.out ho (g := g) rfl
  have hgp : g ≠ p := fun e => hgo.1 (.inr (.inl e))
  have hcc : ∀ j (_ : j < st.opn.length), w.cell? ⟨g, j, none⟩ = some (sv st.opn[j]) := fun j hj => by
    obtain ⟨g', e, hc'⟩ := hc j hj
    injection e with e
    injection e with e
    subst e
    exact hc'
  have kK : Kept K w (w.setCell ⟨p, 0, none⟩ (.slice (some ⟨g, 0, none⟩) k oc)) := (Kept.refl K w).setCell (p := ⟨p, 0, none⟩) h2 _
  have kA : Kept A w (w.setCell ⟨p, 0, none⟩ (.slice (some ⟨g, 0, none⟩) k oc)) := (Kept.refl A w).setCell (p := ⟨p, 0, none⟩) (fun h => (hA p h).2.2 rfl) _
  have kG : Kept (fun x => x = g) w (w.setCell ⟨p, 0, none⟩ (.slice (some ⟨g, 0, none⟩) k oc)) := (Kept.refl _ w).setCell (p := ⟨p, 0, none⟩) (fun h => hgp h.symm) _
  have hoc : st.opn.length ≤ oc := ho.2.1
  have hot := OwnZ.take ho k (by omega)
  have e1 : (st.opn.take k).length = k := by rw [List.length_take]; omega
  have e2 : svs (st.opn.take k) = (svs st.opn).take (k * 1) := by rw [Nat.mul_one]; simp [svs, List.map_take]
  refine ⟨g, oc, by rw [cell_block hb]; rfl, hoc, hcc, hgo.2, hgp, ?_, kK, ?_⟩
  · refine ⟨fun k hk => Nat.lt_of_lt_of_le (h1 k hk) kK.size, h2, A, some ⟨g, 0, none⟩, oc, ia, ic, ics, fa, fc, fun k hk => ⟨Nat.lt_of_lt_of_le (hA k hk).1 kK.size, (hA k hk).2⟩, ?_, ?_, hr.kept kA fun _ h => h⟩
    · rw [heap_setCell_at hb]
      simp only [e1]
      rfl
    · unfold bRows
      simp only [e1]
      rw [e2]
      refine Sep.setCell (p := ⟨p, 0, none⟩) ?_ (.inr (.inl rfl)) _
      exact Sep.set (w' := w) (r' := ⟨9, 1, some ⟨g, 0, none⟩, k, oc, (svs st.opn).take (k * 1)⟩) hS (i := 0) rfl hot (fun g' hg => .inl hg) (fun _ _ _ _ => rfl)
  · intro j hj
    rw [List.length_drop] at hj
    refine ⟨g, k, rfl, Nat.lt_of_lt_of_le hgo.2 kG.size, ?_⟩
    rw [kG.cell (p := ⟨g, k + j, none⟩) rfl, hcc (k + j) (by omega), List.getElem_drop]
end Go.Proofs.Ytffllhohlfblnaa
