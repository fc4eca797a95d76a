/-
  Tokens and faults in memory, and the reader of the program (TK): what it holds, and that it stands apart from what is kept.
-/
import Derived.Test.YtncfgahnjakeiabDoorProg
import Derived.Test.YtncfgahnjakeiabDoorMa
namespace Go.Proofs.YtncfgahnjakeiabDoor
open Go.RowKit

abbrev sv (l : List UInt8) : Value := .string ⟨l.toArray⟩

/-- The cells of attributes. -/
def atrCells (l : List Atr) : List Value := l.flatMap fun a => [sv a.name, sv a.value]
def fltCells (l : List Fl) : List Value := l.flatMap fun f => [.int .u8 (f.kind : Int), .int .i64 (f.pl : Int)]
def tokCells (t : Tk) (aa : Option Addr) (ac : Nat) : List Value := [.int .u8 (t.kind : Int), sv t.name, .slice aa t.attrs.length ac, .bool t.self, sv t.data, .int .i64 (t.pl : Int)]

theorem atrCells_append (l m : List Atr) : atrCells (l ++ m) = atrCells l ++ atrCells m := by simp [atrCells]
theorem fltCells_append (l m : List Fl) : fltCells (l ++ m) = fltCells l ++ fltCells m := by simp [fltCells]
theorem atrCells_length : ∀ l : List Atr, (atrCells l).length = l.length * 2
  | [] => rfl
  | a :: r => by
    have := atrCells_length r
    simp only [atrCells, List.flatMap_cons, List.length_append, List.length_cons, List.length_nil] at this ⊢
    omega
theorem fltCells_length : ∀ l : List Fl, (fltCells l).length = l.length * 2
  | [] => rfl
  | a :: r => by
    have := fltCells_length r
    simp only [fltCells, List.flatMap_cons, List.length_append, List.length_cons, List.length_nil] at this ⊢
    omega
theorem atrCells_get : ∀ (l : List Atr) (j : Nat) (h : j < l.length), (atrCells l)[j * 2]? = some (sv l[j].name) ∧ (atrCells l)[j * 2 + 1]? = some (sv l[j].value)
  | [], _, h => absurd h (Nat.not_lt_zero _)
  | a :: r, 0, _ => ⟨rfl, rfl⟩
  | a :: r, j + 1, h => by
    have ih := atrCells_get r j (by simpa using h)
    have e : atrCells (a :: r) = sv a.name :: sv a.value :: atrCells r := rfl
    rw [e, show (j + 1) * 2 = j * 2 + 2 by omega]
    exact ih
theorem fltCells_get : ∀ (l : List Fl) (j : Nat) (h : j < l.length), (fltCells l)[j * 2]? = some (.int .u8 (l[j].kind : Int)) ∧ (fltCells l)[j * 2 + 1]? = some (.int .i64 (l[j].pl : Int))
  | [], _, h => absurd h (Nat.not_lt_zero _)
  | a :: r, 0, _ => ⟨rfl, rfl⟩
  | a :: r, j + 1, h => by
    have ih := fltCells_get r j (by simpa using h)
    have e : fltCells (a :: r) = .int .u8 (a.kind : Int) :: .int .i64 (a.pl : Int) :: fltCells r := rfl
    rw [e, show (j + 1) * 2 = j * 2 + 2 by omega]
    exact ih

/-- Attributes lie at a slice whose block is kept. -/
def AtsIn (K : Nat → Prop) (w : World) (aa : Option Addr) (l : List Atr) : Prop :=
  ∀ j (h : j < l.length), ∃ g, aa = some ⟨g, 0, none⟩ ∧ K g ∧ w.cell? ⟨g, j * 2, none⟩ = some (sv l[j].name) ∧ w.cell? ⟨g, j * 2 + 1, none⟩ = some (sv l[j].value)
theorem AtsIn.nil (K : Nat → Prop) (w : World) (aa : Option Addr) : AtsIn K w aa [] := fun _ h => absurd h (Nat.not_lt_zero _)
theorem AtsIn.kept {K K' : Nat → Prop} {w w' : World} {aa : Option Addr} {l : List Atr} (h : AtsIn K w aa l) (hk : Kept K w w') (hm : ∀ k, K k → K' k) : AtsIn K' w' aa l := fun j hj => by
  obtain ⟨g, h1, h2, h3, h4⟩ := h j hj
  exact ⟨g, h1, hm g h2, by rw [hk.cell (p := ⟨g, j * 2, none⟩) h2]; exact h3, by rw [hk.cell (p := ⟨g, j * 2 + 1, none⟩) h2]; exact h4⟩
/-- Tokens, as cells. -/
def TokRep (K : Nat → Prop) (w : World) : List Tk → List Value → Prop
  | [], cs => cs = []
  | t :: r, cs => ∃ aa ac cs', cs = tokCells t aa ac ++ cs' ∧ AtsIn K w aa t.attrs ∧ TokRep K w r cs'
theorem TokRep.kept {K K' : Nat → Prop} {w w' : World} (hk : Kept K w w') (hm : ∀ k, K k → K' k) : ∀ {l : List Tk} {cs : List Value}, TokRep K w l cs → TokRep K' w' l cs
  | [], _, h => h
  | _ :: _, _, ⟨aa, ac, cs', h1, h2, h3⟩ => ⟨aa, ac, cs', h1, h2.kept hk hm, TokRep.kept hk hm h3⟩
theorem TokRep.snoc {K : Nat → Prop} {w : World} {t : Tk} {aa : Option Addr} {ac : Nat} (ha : AtsIn K w aa t.attrs) : ∀ {l : List Tk} {cs : List Value}, TokRep K w l cs → TokRep K w (l ++ [t]) (cs ++ tokCells t aa ac)
  | [], _, h => by
    have h : _ = [] := h
    subst h
    exact ⟨aa, ac, [], by simp, ha, rfl⟩
  | _ :: _, _, ⟨aa', ac', cs', h1, h2, h3⟩ => by
    subst h1
    exact ⟨aa', ac', cs' ++ tokCells t aa ac, by simp, h2, TokRep.snoc ha h3⟩
theorem TokRep.length {K : Nat → Prop} {w : World} : ∀ {l : List Tk} {cs : List Value}, TokRep K w l cs → cs.length = l.length * 6
  | [], _, h => by
    have h : _ = [] := h
    subst h
    rfl
  | _ :: _, _, ⟨_, _, cs', h1, _, h3⟩ => by
    have := TokRep.length h3
    subst h1
    simp only [tokCells, List.length_append, List.length_cons, List.length_nil]
    omega
theorem TokRep.get {K : Nat → Prop} {w : World} : ∀ {l : List Tk} {cs : List Value}, TokRep K w l cs → ∀ (j : Nat) (h : j < l.length), ∃ aa ac, AtsIn K w aa l[j].attrs ∧ ∀ i u, (tokCells l[j] aa ac)[i]? = some u → cs[j * 6 + i]? = some u
  | [], _, _, _, h => absurd h (Nat.not_lt_zero _)
  | t :: r, _, ⟨aa, ac, cs', h1, h2, h3⟩, 0, _ => by
    subst h1
    refine ⟨aa, ac, h2, fun i u hi => ?_⟩
    have hi' : (tokCells t aa ac)[i]? = some u := hi
    have hil : i < (tokCells t aa ac).length := by
      rcases Nat.lt_or_ge i (tokCells t aa ac).length with hl | hg
      · exact hl
      · rw [List.getElem?_eq_none hg] at hi'; cases hi'
    rw [Nat.zero_mul, Nat.zero_add, List.getElem?_append_left hil, hi']
  | t :: r, _, ⟨aa, ac, cs', h1, h2, h3⟩, j + 1, h => by
    subst h1
    obtain ⟨aa', ac', q1, q2⟩ := TokRep.get h3 j (by simpa using h)
    refine ⟨aa', ac', q1, fun i u hi => ?_⟩
    have hl : (tokCells t aa ac).length = 6 := rfl
    rw [List.getElem?_append_right (by rw [hl]; omega), hl, show (j + 1) * 6 + i - 6 = j * 6 + i by omega]
    exact q2 i u hi

/-- THE READER OF THE PROGRAM at the block p holds the state st, in memory apart from K; its tokens' attributes lie in A, a part of K. -/
def TK (K A : Nat → Prop) (w : World) (p : Nat) (st : TS) : Prop :=
  ¬ K p ∧ (∀ k, A k → K k) ∧ ∃ ta tc tcs fa fc bp ba bc,
    w.heap[p]? = some (.cells #[sv st.rest, .int .i64 (st.pl : Int), .slice ta st.toks.length tc, .slice fa st.flts.length fc, .pointer bp, .slice ba st.text.length bc, .int .i64 (st.tat : Int)] 49 (0, 0)) ∧
    (bp = none ∨ bp = some ⟨p, 4, none⟩) ∧
    OwnZ (fun k => K k ∨ k = p ∨ blkOf fa k ∨ blkOf ba k) w 34 6 ta st.toks.length tc tcs ∧ TokRep A w st.toks tcs ∧
    OwnZ (fun k => K k ∨ k = p ∨ blkOf ta k ∨ blkOf ba k) w 38 2 fa st.flts.length fc (fltCells st.flts) ∧
    Own (fun k => K k ∨ k = p ∨ blkOf ta k ∨ blkOf fa k) w 5 ba st.text.length bc (bvs st.text)

theorem TK.lt {K A : Nat → Prop} {w : World} {p : Nat} {st : TS} (h : TK K A w p st) : p < w.heap.size := by
  obtain ⟨_, _, _, _, _, _, _, _, _, _, hb, _⟩ := h
  exact lt_block hb
/-- The same reader, in a world in which nothing but what is outside changed. -/
theorem TK.kept {K A : Nat → Prop} {w w' : World} {p : Nat} {st : TS} (h : TK K A w p st) (hk : Kept (fun k => k < w.heap.size) w w') (hKl : ∀ k, K k → k < w.heap.size) : TK K A w' p st := by
  obtain ⟨h1, hA, ta, tc, tcs, fa, fc, bp, ba, bc, hb, hp, ht, hr, hf, ho⟩ := h
  refine ⟨h1, hA, ta, tc, tcs, fa, fc, bp, ba, bc, ?_, hp, ?_, ?_, ?_, ?_⟩
  · rw [hk.block p (lt_block hb)]; exact hb
  · exact ht.to (fun g hg => (ht.out hg).1) (fun g hg => hk.block g (ht.out hg).2)
  · exact hr.kept ((hk.mono hKl).mono hA) (fun _ h => h)
  · exact hf.to (fun g hg => (hf.out hg).1) (fun g hg => hk.block g (hf.out hg).2)
  · exact ho.to (fun g hg => (ho.out hg).1) (fun g hg => hk.block g (ho.out hg).2)
theorem TK.drew {K A : Nat → Prop} {w : World} {p : Nat} {st : TS} (h : TK K A w p st) (hKl : ∀ k, K k → k < w.heap.size) : TK K A w.drew p st := h.kept (Kept.refl _ w).drew hKl
theorem TK.drewN {K A : Nat → Prop} {w : World} {p : Nat} {st : TS} (h : TK K A w p st) (hKl : ∀ k, K k → k < w.heap.size) (n : Nat) : TK K A (w.drewN n) p st := h.kept ((Kept.refl _ w).drewN n) hKl
theorem TK.alloc {K A : Nat → Prop} {w : World} {p : Nat} {st : TS} (h : TK K A w p st) (hKl : ∀ k, K k → k < w.heap.size) (o : Obj) : TK K A (w.alloc o) p st :=
  h.kept ((Kept.refl _ w).alloc (fun _ h => h) o) hKl
theorem TK.cells {K A : Nat → Prop} {w : World} {p : Nat} {st : TS} (h : TK K A w p st) : w.cell? ⟨p, 0, none⟩ = some (sv st.rest) ∧ w.cell? ⟨p, 1, none⟩ = some (.int .i64 (st.pl : Int)) ∧ w.frozen? ⟨p, 0, none⟩ = false ∧ w.frozen? ⟨p, 1, none⟩ = false ∧ w.frozen? ⟨p, 2, none⟩ = false ∧ w.frozen? ⟨p, 3, none⟩ = false ∧ w.frozen? ⟨p, 6, none⟩ = false := by
  obtain ⟨_, _, _, _, _, _, _, _, _, _, hb, _⟩ := h
  exact ⟨by rw [cell_block hb]; rfl, by rw [cell_block hb]; rfl, frozen_block hb _, frozen_block hb _, frozen_block hb _, frozen_block hb _, frozen_block hb _⟩

/-- What is kept, and grows by what is made and kept from then on. -/
structure Grew (K : Nat → Prop) (w : World) (K' : Nat → Prop) (w' : World) : Prop where
  kept : Kept K w w'
  sub : ∀ k, K k → K' k
  lt : ∀ k, K' k → k < w'.heap.size

/-- How much room is wanted yet. -/
def pot (st : TS) : Nat := st.toks.length + st.flts.length + st.text.length + 16 * st.rest.length
structure Fit (b : Nat) (st : TS) : Prop where
  place : st.pl + st.rest.length < 1000000
  room : pot st ≤ b
theorem Fit.le {b : Nat} {st : TS} (h : Fit b st) : st.pl + st.rest.length ≤ 1000000 := Nat.le_of_lt h.place
theorem Fit.mono {b b' : Nat} {st : TS} (h : Fit b st) (hb : b ≤ b') : Fit b' st := ⟨h.place, Nat.le_trans h.room hb⟩
theorem Fit.cut {b : Nat} {st : TS} (h : Fit b st) {n : Nat} (hn : n ≤ st.rest.length) : Fit (b - 16 * n) (st.cut n) := by
  obtain ⟨h1, h2⟩ := h
  unfold pot at h2
  refine ⟨?_, ?_⟩
  · simp only [TS.cut, List.length_drop]; omega
  · simp only [pot, TS.cut, List.length_drop]; omega
theorem Fit.flt {b : Nat} {st : TS} (h : Fit b st) (k a : Nat) : Fit (b + 1) (st.flt k a) := by
  obtain ⟨h1, h2⟩ := h
  unfold pot at h2
  refine ⟨h1, ?_⟩
  simp only [pot, TS.flt, List.length_append, List.length_cons, List.length_nil]; omega
theorem Fit.endT {b : Nat} {st : TS} (h : Fit b st) : Fit b st.endT := by
  obtain ⟨h1, h2⟩ := h
  unfold TS.endT
  split
  · exact ⟨h1, h2⟩
  · rename_i ht
    have : 0 < st.text.length := List.length_pos_iff.2 ht
    unfold pot at h2
    refine ⟨h1, ?_⟩
    simp only [pot, List.length_append, List.length_cons, List.length_nil]; omega
theorem Fit.add {b : Nat} {st : TS} (h : Fit b st) (t : Tk) : Fit (b + 1) (st.add t) := by
  obtain ⟨h1, h2⟩ := h.endT
  unfold pot at h2
  refine ⟨h1, ?_⟩
  simp only [pot, TS.add, List.length_append, List.length_cons, List.length_nil]; omega
theorem Fit.addT {b : Nat} {st : TS} (h : Fit b st) (part : List UInt8) (a : Nat) : Fit (b + part.length) (st.addT part a) := by
  unfold TS.addT
  split
  · exact h.mono (by omega)
  · obtain ⟨h1, h2⟩ := h
    unfold pot at h2
    refine ⟨h1, ?_⟩
    simp only [pot, List.length_append]; omega
theorem upTo_le (p : List UInt8 → Bool) : ∀ l, upTo p l ≤ l.length
  | [] => Nat.le_refl _
  | c :: r => by
    unfold upTo
    have := upTo_le p r
    split
    · exact Nat.zero_le _
    · simp only [List.length_cons]; omega
theorem pre_length {f l : List UInt8} (h : pre f l = true) : f.length ≤ l.length := prefix_length f l h
end Go.Proofs.YtncfgahnjakeiabDoor
