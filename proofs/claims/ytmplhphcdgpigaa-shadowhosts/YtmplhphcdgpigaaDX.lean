/-
  The document in memory (DX): its nodes lie in one row of 22 cells each, apart from K; each node's attributes in a row of their own.
-/
import Derived.Test.YtmplhphcdgpigaaProg
import Derived.Test.YtmplhphcdgpigaaSep
import Derived.Test.YtmplhphcdgpigaaTP
import Derived.Test.YtmplhphcdgpigaaDll
namespace Go.Proofs.Ytmplhphcdgpigaa
open Go.RowKit

structure Fg where
  a : Bool
  b : Bool
  c : Bool
  d : Bool
  e : Bool
/-- A node, but for its links. -/
structure Nd where
  kind : Nat
  name : List UInt8
  data : List UInt8
  attrs : List Atr
  fl : Fg
  shadow : Int
  host : Int
  content : Int
/-- A document: what its nodes are, and both chains. -/
structure Dm where
  limit : Nat
  n : Nat
  nd : Nat → Nd
  pl : Nat → Lk
  gf : Nat → Lk
def lkCells (l : Lk) : List Value := [.int .i64 l.up, .int .i64 l.prev, .int .i64 l.next, .int .i64 l.first, .int .i64 l.last]
def ndCells (x : Nd) (p q : Lk) (aa : Option Addr) (ac : Nat) : List Value :=
  [.int .u8 (x.kind : Int), sv x.name, sv x.data, .slice aa x.attrs.length ac, .bool x.fl.a, .bool x.fl.b, .bool x.fl.c, .bool x.fl.d, .bool x.fl.e, .int .i64 x.shadow, .int .i64 x.host, .int .i64 x.content,
   .int .i64 p.up, .int .i64 p.prev, .int .i64 p.next, .int .i64 p.first, .int .i64 p.last, .int .i64 q.up, .int .i64 q.prev, .int .i64 q.next, .int .i64 q.first, .int .i64 q.last]
theorem nd_one (x : Nd) (p q : Lk) (aa : Option Addr) (ac : Nat) : ∀ u ∈ ndCells x p q aa ac, u.oneCell' = true := by
  intro u hu
  simp only [ndCells, List.mem_cons, List.not_mem_nil, or_false] at hu
  rcases hu with rfl | rfl | rfl | rfl | rfl | rfl | rfl | rfl | rfl | rfl | rfl | rfl | rfl | rfl | rfl | rfl | rfl | rfl | rfl | rfl | rfl | rfl <;> rfl
def Dm.cells (S : Dm) (i : Nat) (aa : Option Addr) (ac : Nat) : List Value := ndCells (S.nd i) (S.pl i) (S.gf i) aa ac
theorem Dm.cells_len (S : Dm) (i : Nat) (aa : Option Addr) (ac : Nat) : (S.cells i aa ac).length = 22 := rfl

/-- THE DOCUMENT at the block p, its nodes at the slice ga. -/
def DY (K : Nat → Prop) (w : World) (p : Nat) (S : Dm) (ga : Option Addr) (cap : Nat) : Prop :=
  (∀ k, K k → k < w.heap.size) ∧ ¬ K p ∧
    w.heap[p]? = some (.cells #[.int .i64 (S.limit : Int), .slice ga S.n cap] 44 (0, 0)) ∧
    ∃ (xs : List Value) (aa : Nat → Option Addr) (ac : Nat → Nat),
      OwnZ (fun k => K k ∨ k = p) w 50 22 ga S.n cap xs ∧
      (∀ i, i < S.n → ∀ f u, (S.cells i (aa i) (ac i))[f]? = some u → xs[i * 22 + f]? = some u) ∧
      (∀ i, i < S.n → OwnZ (fun k => K k ∨ k = p ∨ blkOf ga k) w 87 2 (aa i) (S.nd i).attrs.length (ac i) (atrCells (S.nd i).attrs)) ∧
      ∀ i j, i < S.n → j < S.n → i ≠ j → ∀ g, blkOf (aa i) g → ¬ blkOf (aa j) g
def DX (K : Nat → Prop) (w : World) (p : Nat) (S : Dm) : Prop := ∃ ga cap, DY K w p S ga cap

theorem DY.lt {K : Nat → Prop} {w : World} {p : Nat} {S : Dm} {ga : Option Addr} {cap : Nat} (h : DY K w p S ga cap) : ∀ k, K k → k < w.heap.size := h.1
theorem DY.plt {K : Nat → Prop} {w : World} {p : Nat} {S : Dm} {ga : Option Addr} {cap : Nat} (h : DY K w p S ga cap) : p < w.heap.size := lt_block h.2.2.1
theorem DY.pk {K : Nat → Prop} {w : World} {p : Nat} {S : Dm} {ga : Option Addr} {cap : Nat} (h : DY K w p S ga cap) : ¬ K p := h.2.1
theorem DY.c0 {K : Nat → Prop} {w : World} {p : Nat} {S : Dm} {ga : Option Addr} {cap : Nat} (h : DY K w p S ga cap) : w.cell? ⟨p, 0, none⟩ = some (.int .i64 (S.limit : Int)) := by rw [cell_block h.2.2.1]; rfl
theorem DY.c1 {K : Nat → Prop} {w : World} {p : Nat} {S : Dm} {ga : Option Addr} {cap : Nat} (h : DY K w p S ga cap) : w.cell? ⟨p, 1, none⟩ = some (.slice ga S.n cap) := by rw [cell_block h.2.2.1]; rfl
theorem DY.fp {K : Nat → Prop} {w : World} {p : Nat} {S : Dm} {ga : Option Addr} {cap : Nat} (h : DY K w p S ga cap) (i : Nat) : w.frozen? ⟨p, i, none⟩ = false := frozen_block h.2.2.1 i
theorem DY.cap_le {K : Nat → Prop} {w : World} {p : Nat} {S : Dm} {ga : Option Addr} {cap : Nat} (h : DY K w p S ga cap) : S.n ≤ cap ∧ cap ≤ maxLen := by
  obtain ⟨_, _, _, xs, aa, ac, ho, _⟩ := h
  exact ⟨ho.2.1, ho.2.2.1⟩
/-- Where the nodes lie. -/
theorem DY.at {K : Nat → Prop} {w : World} {p : Nat} {S : Dm} {ga : Option Addr} {cap : Nat} (h : DY K w p S ga cap) (h0 : 0 < S.n) : ∃ g, ga = some ⟨g, 0, none⟩ ∧ ¬ K g ∧ g ≠ p ∧ g < w.heap.size := by
  obtain ⟨_, _, _, xs, aa, ac, ho, _⟩ := h
  obtain ⟨h1, h2, h3, h4⟩ := ho
  rcases h4 with ⟨_, r2⟩ | ⟨g, cur, r1, r2, r3, r4⟩
  · omega
  · exact ⟨g, r1, fun hk => r2 (.inl hk), fun e => r2 (.inr e), lt_block r3⟩
/-- The cells of a node. -/
theorem DY.cell {K : Nat → Prop} {w : World} {p : Nat} {S : Dm} {g : Nat} {cap : Nat} (h : DY K w p S (some ⟨g, 0, none⟩) cap) {i : Nat} (hi : i < S.n) :
    ∃ aa ac, (∀ f u, (S.cells i aa ac)[f]? = some u → w.cell? ⟨g, i * 22 + f, none⟩ = some u) ∧ OwnZ (fun k => K k ∨ k = p ∨ k = g) w 87 2 aa (S.nd i).attrs.length ac (atrCells (S.nd i).attrs) := by
  obtain ⟨_, _, _, xs, aa, ac, ho, hx, ha, _⟩ := h
  refine ⟨aa i, ac i, fun f u hf => ?_, OwnZ.to (ha i hi) (fun x hx hk => ?_) (fun _ _ => rfl)⟩
  · obtain ⟨g', e, hc⟩ := ho.cell (hx i hi f u hf)
    injection e with e
    injection e with e
    subst e
    exact hc
  · refine (OwnZ.out (ha i hi) hx).1 ?_
    rcases hk with hk | hk | hk
    · exact .inl hk
    · exact .inr (.inl hk)
    · subst hk; exact .inr (.inr rfl)
theorem DY.fg {K : Nat → Prop} {w : World} {p : Nat} {S : Dm} {g : Nat} {cap : Nat} (h : DY K w p S (some ⟨g, 0, none⟩) cap) (i : Nat) : w.frozen? ⟨g, i, none⟩ = false := by
  obtain ⟨_, _, _, xs, aa, ac, ho, _⟩ := h
  obtain ⟨h1, h2, h3, h4⟩ := ho
  rcases h4 with ⟨r1, _⟩ | ⟨g', cur, r1, r2, r3, r4⟩
  · cases r1
  · injection r1 with r1
    injection r1 with r1
    subst r1
    exact frozen_block r3 i
theorem DY.gk {K : Nat → Prop} {w : World} {p : Nat} {S : Dm} {g : Nat} {cap : Nat} (h : DY K w p S (some ⟨g, 0, none⟩) cap) : ¬ K g ∧ g ≠ p ∧ g < w.heap.size := by
  obtain ⟨_, _, _, xs, aa, ac, ho, _⟩ := h
  have := OwnZ.out ho (g := g) rfl
  exact ⟨fun hk => this.1 (.inl hk), fun e => this.1 (.inr e), this.2⟩
theorem DY.kept {K : Nat → Prop} {w w' : World} {p : Nat} {S : Dm} {ga : Option Addr} {cap : Nat} (h : DY K w p S ga cap) (hk : Kept (fun k => k < w.heap.size) w w') : DY K w' p S ga cap := by
  obtain ⟨h1, h2, h3, xs, aa, ac, ho, hx, ha, hs⟩ := h
  exact ⟨fun k hk' => Nat.lt_of_lt_of_le (h1 k hk') hk.size, h2, by rw [hk.block p (lt_block h3)]; exact h3, xs, aa, ac, OwnZ.to ho (fun g hg => (ho.out hg).1) (fun g hg => hk.block g (ho.out hg).2), hx,
    fun i hi => OwnZ.to (ha i hi) (fun g hg => ((ha i hi).out hg).1) (fun g hg => hk.block g ((ha i hi).out hg).2), hs⟩
theorem DX.kept {K : Nat → Prop} {w w' : World} {p : Nat} {S : Dm} (h : DX K w p S) (hk : Kept (fun k => k < w.heap.size) w w') : DX K w' p S := by
  obtain ⟨ga, cap, h⟩ := h
  exact ⟨ga, cap, h.kept hk⟩
theorem DX.lt {K : Nat → Prop} {w : World} {p : Nat} {S : Dm} (h : DX K w p S) : ∀ k, K k → k < w.heap.size := by
  obtain ⟨ga, cap, h⟩ := h
  exact h.1
/-- Less is kept, or what is new. -/
theorem DY.more {K K' : Nat → Prop} {w w' : World} {p : Nat} {S : Dm} {ga : Option Addr} {cap : Nat} (h : DY K w p S ga cap) (hk : Kept (fun k => k < w.heap.size) w w') (hs : ∀ k, K' k → K k ∨ w.heap.size ≤ k) (hl : ∀ k, K' k → k < w'.heap.size) : DY K' w' p S ga cap := by
  obtain ⟨h1, h2, h3, xs, aa, ac, ho, hx, ha, hsp⟩ := h
  have hp := lt_block h3
  refine ⟨hl, fun hh => ?_, by rw [hk.block p hp]; exact h3, xs, aa, ac, OwnZ.to ho (fun g hg hh => ?_) (fun g hg => hk.block g (ho.out hg).2), hx, fun i hi => OwnZ.to (ha i hi) (fun g hg hh => ?_) (fun g hg => hk.block g ((ha i hi).out hg).2), hsp⟩
  · rcases hs p hh with hh | hh
    · exact h2 hh
    · omega
  · rcases hh with hh | hh
    · rcases hs g hh with hh | hh
      · exact (ho.out hg).1 (.inl hh)
      · have := (ho.out hg).2; omega
    · exact (ho.out hg).1 (.inr hh)
  · rcases hh with hh | hh
    · rcases hs g hh with hh | hh
      · exact ((ha i hi).out hg).1 (.inl hh)
      · have := ((ha i hi).out hg).2; omega
    · exact ((ha i hi).out hg).1 (.inr hh)
theorem DX.more {K K' : Nat → Prop} {w w' : World} {p : Nat} {S : Dm} (h : DX K w p S) (hk : Kept (fun k => k < w.heap.size) w w') (hs : ∀ k, K' k → K k ∨ w.heap.size ≤ k) (hl : ∀ k, K' k → k < w'.heap.size) : DX K' w' p S := by
  obtain ⟨ga, cap, h⟩ := h
  exact ⟨ga, cap, h.more hk hs hl⟩
/-- A store into the row of nodes, but not of attributes. -/
theorem DY.set {K : Nat → Prop} {w : World} {p : Nat} {S S' : Dm} {g : Nat} {cap : Nat} (h : DY K w p S (some ⟨g, 0, none⟩) cap) {i f : Nat} (hi : i < S.n) (hf : f < 22) {v : Value} (e1 : S'.limit = S.limit) (e2 : S'.n = S.n) (e3 : ∀ j, (S'.nd j).attrs = (S.nd j).attrs)
    (hc : ∀ j aa ac, j ≠ i → S'.cells j aa ac = S.cells j aa ac) (hd : ∀ aa ac, S'.cells i aa ac = (S.cells i aa ac).set f v) :
    DY K (w.setCell ⟨g, i * 22 + f, none⟩ v) p S' (some ⟨g, 0, none⟩) cap ∧ Kept K w (w.setCell ⟨g, i * 22 + f, none⟩ v) := by
  obtain ⟨gk, gp, gl⟩ := h.gk
  obtain ⟨h1, h2, h3, xs, aa, ac, ho, hx, ha, hs⟩ := h
  have kK : Kept K w (w.setCell ⟨g, i * 22 + f, none⟩ v) := (Kept.refl K w).setCell (p := ⟨g, i * 22 + f, none⟩) gk v
  have kG : Kept (fun k => k ≠ g) w (w.setCell ⟨g, i * 22 + f, none⟩ v) := (Kept.refl _ w).setCell (p := ⟨g, i * 22 + f, none⟩) (fun h => h rfl) v
  refine ⟨⟨fun k hk => Nat.lt_of_lt_of_le (h1 k hk) kK.size, h2, ?_, xs.set (i * 22 + f) v, aa, ac, ?_, ?_, fun j hj => ?_, fun j k hj hk => hs j k (by omega) (by omega)⟩, kK⟩
  · rw [kG.block p (fun e => gp e.symm), e1, e2]; exact h3
  · obtain ⟨o1, o2, o3, o4⟩ := ho
    rw [e2]
    refine ⟨by rw [List.length_set]; exact o1, o2, o3, ?_⟩
    rcases o4 with ⟨r1, _⟩ | ⟨g', cur, r1, r2, r3, r4, r5⟩
    · cases r1
    · injection r1 with r1
      injection r1 with r1
      subst r1
      refine .inr ⟨g, _, rfl, r2, heap_setCell_at r3 _ v, by simp [r4], ?_⟩
      rw [Array.toList_setIfInBounds, ← r5, List.take_set]
  · intro j hj f' u hu
    rw [e2] at hj
    have hf' : f' < 22 := by
      rcases Nat.lt_or_ge f' 22 with hh | hh
      · exact hh
      · rw [List.getElem?_eq_none (by rw [Dm.cells_len]; exact hh)] at hu; cases hu
    by_cases c : j = i
    · subst c
      rw [hd] at hu
      by_cases c2 : f' = f
      · subst c2
        have hl : j * 22 + f' < xs.length := by rw [ho.1]; have := Nat.mul_le_mul_right 22 hi; omega
        rw [List.getElem?_set_self (by rw [Dm.cells_len]; exact hf')] at hu
        rw [List.getElem?_set_self hl]
        exact hu
      · rw [List.getElem?_set_ne (by omega)] at hu
        rw [List.getElem?_set_ne (by omega)]
        exact hx j hj f' u hu
    · rw [hc j _ _ c] at hu
      rw [List.getElem?_set_ne (by omega)]
      exact hx j hj f' u hu
  · rw [e2] at hj
    rw [e3]
    refine OwnZ.to (ha j hj) (fun x hx => ((ha j hj).out hx).1) (fun x hx => kG.block x ?_)
    intro e
    subst e
    exact ((ha j hj).out hx).1 (.inr (.inr rfl))

def Dm.setP (S : Dm) (L : Nat → Lk) : Dm := { S with pl := L }
def Dm.setG (S : Dm) (L : Nat → Lk) : Dm := { S with gf := L }
def updL (L : Nat → Lk) (i : Nat) (l : Lk) : Nat → Lk := fun k => if k = i then l else L k
theorem DY.setPup {K : Nat → Prop} {w : World} {p : Nat} {S : Dm} {g : Nat} {cap : Nat} (h : DY K w p S (some ⟨g, 0, none⟩) cap) {i : Nat} (hi : i < S.n) (z : Int) :
    DY K (w.setCell ⟨g, i * 22 + 12, none⟩ (.int .i64 z)) p (S.setP (updL S.pl i { S.pl i with up := z })) (some ⟨g, 0, none⟩) cap ∧ Kept K w (w.setCell ⟨g, i * 22 + 12, none⟩ (.int .i64 z)) :=
  h.set hi (by omega) rfl rfl (fun _ => rfl) (fun j aa ac hj => by simp only [Dm.cells, Dm.setP, updL, if_neg hj]) (fun aa ac => by simp only [Dm.cells, Dm.setP, updL, if_pos]; rfl)
theorem DY.setPprev {K : Nat → Prop} {w : World} {p : Nat} {S : Dm} {g : Nat} {cap : Nat} (h : DY K w p S (some ⟨g, 0, none⟩) cap) {i : Nat} (hi : i < S.n) (z : Int) :
    DY K (w.setCell ⟨g, i * 22 + 13, none⟩ (.int .i64 z)) p (S.setP (updL S.pl i { S.pl i with prev := z })) (some ⟨g, 0, none⟩) cap ∧ Kept K w (w.setCell ⟨g, i * 22 + 13, none⟩ (.int .i64 z)) :=
  h.set hi (by omega) rfl rfl (fun _ => rfl) (fun j aa ac hj => by simp only [Dm.cells, Dm.setP, updL, if_neg hj]) (fun aa ac => by simp only [Dm.cells, Dm.setP, updL, if_pos]; rfl)
theorem DY.setPnext {K : Nat → Prop} {w : World} {p : Nat} {S : Dm} {g : Nat} {cap : Nat} (h : DY K w p S (some ⟨g, 0, none⟩) cap) {i : Nat} (hi : i < S.n) (z : Int) :
    DY K (w.setCell ⟨g, i * 22 + 14, none⟩ (.int .i64 z)) p (S.setP (updL S.pl i { S.pl i with next := z })) (some ⟨g, 0, none⟩) cap ∧ Kept K w (w.setCell ⟨g, i * 22 + 14, none⟩ (.int .i64 z)) :=
  h.set hi (by omega) rfl rfl (fun _ => rfl) (fun j aa ac hj => by simp only [Dm.cells, Dm.setP, updL, if_neg hj]) (fun aa ac => by simp only [Dm.cells, Dm.setP, updL, if_pos]; rfl)
theorem DY.setPfirst {K : Nat → Prop} {w : World} {p : Nat} {S : Dm} {g : Nat} {cap : Nat} (h : DY K w p S (some ⟨g, 0, none⟩) cap) {i : Nat} (hi : i < S.n) (z : Int) :
    DY K (w.setCell ⟨g, i * 22 + 15, none⟩ (.int .i64 z)) p (S.setP (updL S.pl i { S.pl i with first := z })) (some ⟨g, 0, none⟩) cap ∧ Kept K w (w.setCell ⟨g, i * 22 + 15, none⟩ (.int .i64 z)) :=
  h.set hi (by omega) rfl rfl (fun _ => rfl) (fun j aa ac hj => by simp only [Dm.cells, Dm.setP, updL, if_neg hj]) (fun aa ac => by simp only [Dm.cells, Dm.setP, updL, if_pos]; rfl)
theorem DY.setPlast {K : Nat → Prop} {w : World} {p : Nat} {S : Dm} {g : Nat} {cap : Nat} (h : DY K w p S (some ⟨g, 0, none⟩) cap) {i : Nat} (hi : i < S.n) (z : Int) :
    DY K (w.setCell ⟨g, i * 22 + 16, none⟩ (.int .i64 z)) p (S.setP (updL S.pl i { S.pl i with last := z })) (some ⟨g, 0, none⟩) cap ∧ Kept K w (w.setCell ⟨g, i * 22 + 16, none⟩ (.int .i64 z)) :=
  h.set hi (by omega) rfl rfl (fun _ => rfl) (fun j aa ac hj => by simp only [Dm.cells, Dm.setP, updL, if_neg hj]) (fun aa ac => by simp only [Dm.cells, Dm.setP, updL, if_pos]; rfl)
theorem DY.setGup {K : Nat → Prop} {w : World} {p : Nat} {S : Dm} {g : Nat} {cap : Nat} (h : DY K w p S (some ⟨g, 0, none⟩) cap) {i : Nat} (hi : i < S.n) (z : Int) :
    DY K (w.setCell ⟨g, i * 22 + 17, none⟩ (.int .i64 z)) p (S.setG (updL S.gf i { S.gf i with up := z })) (some ⟨g, 0, none⟩) cap ∧ Kept K w (w.setCell ⟨g, i * 22 + 17, none⟩ (.int .i64 z)) :=
  h.set hi (by omega) rfl rfl (fun _ => rfl) (fun j aa ac hj => by simp only [Dm.cells, Dm.setG, updL, if_neg hj]) (fun aa ac => by simp only [Dm.cells, Dm.setG, updL, if_pos]; rfl)
theorem DY.setGprev {K : Nat → Prop} {w : World} {p : Nat} {S : Dm} {g : Nat} {cap : Nat} (h : DY K w p S (some ⟨g, 0, none⟩) cap) {i : Nat} (hi : i < S.n) (z : Int) :
    DY K (w.setCell ⟨g, i * 22 + 18, none⟩ (.int .i64 z)) p (S.setG (updL S.gf i { S.gf i with prev := z })) (some ⟨g, 0, none⟩) cap ∧ Kept K w (w.setCell ⟨g, i * 22 + 18, none⟩ (.int .i64 z)) :=
  h.set hi (by omega) rfl rfl (fun _ => rfl) (fun j aa ac hj => by simp only [Dm.cells, Dm.setG, updL, if_neg hj]) (fun aa ac => by simp only [Dm.cells, Dm.setG, updL, if_pos]; rfl)
theorem DY.setGnext {K : Nat → Prop} {w : World} {p : Nat} {S : Dm} {g : Nat} {cap : Nat} (h : DY K w p S (some ⟨g, 0, none⟩) cap) {i : Nat} (hi : i < S.n) (z : Int) :
    DY K (w.setCell ⟨g, i * 22 + 19, none⟩ (.int .i64 z)) p (S.setG (updL S.gf i { S.gf i with next := z })) (some ⟨g, 0, none⟩) cap ∧ Kept K w (w.setCell ⟨g, i * 22 + 19, none⟩ (.int .i64 z)) :=
  h.set hi (by omega) rfl rfl (fun _ => rfl) (fun j aa ac hj => by simp only [Dm.cells, Dm.setG, updL, if_neg hj]) (fun aa ac => by simp only [Dm.cells, Dm.setG, updL, if_pos]; rfl)
theorem DY.setGfirst {K : Nat → Prop} {w : World} {p : Nat} {S : Dm} {g : Nat} {cap : Nat} (h : DY K w p S (some ⟨g, 0, none⟩) cap) {i : Nat} (hi : i < S.n) (z : Int) :
    DY K (w.setCell ⟨g, i * 22 + 20, none⟩ (.int .i64 z)) p (S.setG (updL S.gf i { S.gf i with first := z })) (some ⟨g, 0, none⟩) cap ∧ Kept K w (w.setCell ⟨g, i * 22 + 20, none⟩ (.int .i64 z)) :=
  h.set hi (by omega) rfl rfl (fun _ => rfl) (fun j aa ac hj => by simp only [Dm.cells, Dm.setG, updL, if_neg hj]) (fun aa ac => by simp only [Dm.cells, Dm.setG, updL, if_pos]; rfl)
theorem DY.setGlast {K : Nat → Prop} {w : World} {p : Nat} {S : Dm} {g : Nat} {cap : Nat} (h : DY K w p S (some ⟨g, 0, none⟩) cap) {i : Nat} (hi : i < S.n) (z : Int) :
    DY K (w.setCell ⟨g, i * 22 + 21, none⟩ (.int .i64 z)) p (S.setG (updL S.gf i { S.gf i with last := z })) (some ⟨g, 0, none⟩) cap ∧ Kept K w (w.setCell ⟨g, i * 22 + 21, none⟩ (.int .i64 z)) :=
  h.set hi (by omega) rfl rfl (fun _ => rfl) (fun j aa ac hj => by simp only [Dm.cells, Dm.setG, updL, if_neg hj]) (fun aa ac => by simp only [Dm.cells, Dm.setG, updL, if_pos]; rfl)
def Dm.setN (S : Dm) (i : Nat) (x : Nd) : Dm := { S with nd := fun k => if k = i then x else S.nd k }
theorem DY.setNshadow {K : Nat → Prop} {w : World} {p : Nat} {S : Dm} {g : Nat} {cap : Nat} (h : DY K w p S (some ⟨g, 0, none⟩) cap) {i : Nat} (hi : i < S.n) (z : Int) :
    DY K (w.setCell ⟨g, i * 22 + 9, none⟩ (.int .i64 z)) p (S.setN i { S.nd i with shadow := z }) (some ⟨g, 0, none⟩) cap ∧ Kept K w (w.setCell ⟨g, i * 22 + 9, none⟩ (.int .i64 z)) :=
  h.set hi (by omega) rfl rfl (fun j => by simp only [Dm.setN]; split <;> simp_all) (fun j aa ac hj => by simp only [Dm.cells, Dm.setN, if_neg hj]) (fun aa ac => by simp only [Dm.cells, Dm.setN, if_pos]; rfl)
theorem DY.setNhost {K : Nat → Prop} {w : World} {p : Nat} {S : Dm} {g : Nat} {cap : Nat} (h : DY K w p S (some ⟨g, 0, none⟩) cap) {i : Nat} (hi : i < S.n) (z : Int) :
    DY K (w.setCell ⟨g, i * 22 + 10, none⟩ (.int .i64 z)) p (S.setN i { S.nd i with host := z }) (some ⟨g, 0, none⟩) cap ∧ Kept K w (w.setCell ⟨g, i * 22 + 10, none⟩ (.int .i64 z)) :=
  h.set hi (by omega) rfl rfl (fun j => by simp only [Dm.setN]; split <;> simp_all) (fun j aa ac hj => by simp only [Dm.cells, Dm.setN, if_neg hj]) (fun aa ac => by simp only [Dm.cells, Dm.setN, if_pos]; rfl)
theorem DY.setNcontent {K : Nat → Prop} {w : World} {p : Nat} {S : Dm} {g : Nat} {cap : Nat} (h : DY K w p S (some ⟨g, 0, none⟩) cap) {i : Nat} (hi : i < S.n) (z : Int) :
    DY K (w.setCell ⟨g, i * 22 + 11, none⟩ (.int .i64 z)) p (S.setN i { S.nd i with content := z }) (some ⟨g, 0, none⟩) cap ∧ Kept K w (w.setCell ⟨g, i * 22 + 11, none⟩ (.int .i64 z)) :=
  h.set hi (by omega) rfl rfl (fun j => by simp only [Dm.setN]; split <;> simp_all) (fun j aa ac hj => by simp only [Dm.cells, Dm.setN, if_neg hj]) (fun aa ac => by simp only [Dm.cells, Dm.setN, if_pos]; rfl)
theorem DY.setNdata {K : Nat → Prop} {w : World} {p : Nat} {S : Dm} {g : Nat} {cap : Nat} (h : DY K w p S (some ⟨g, 0, none⟩) cap) {i : Nat} (hi : i < S.n) (z : List UInt8) :
    DY K (w.setCell ⟨g, i * 22 + 2, none⟩ (sv z)) p (S.setN i { S.nd i with data := z }) (some ⟨g, 0, none⟩) cap ∧ Kept K w (w.setCell ⟨g, i * 22 + 2, none⟩ (sv z)) :=
  h.set hi (by omega) rfl rfl (fun j => by simp only [Dm.setN]; split <;> simp_all) (fun j aa ac hj => by simp only [Dm.cells, Dm.setN, if_neg hj]) (fun aa ac => by simp only [Dm.cells, Dm.setN, if_pos]; rfl)
end Go.Proofs.Ytmplhphcdgpigaa
